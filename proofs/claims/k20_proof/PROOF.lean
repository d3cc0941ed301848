import PyProof.Rows.All
import Wide.All
import OpenK.AllK
import Wide.FinOn
import Lean
import PyProof.EqAt
import PyProof.EqKinds
import PyProof.TupleCall
import KE.KTryMore
import OpenK.KOwn
import PyProof.ExcArgsOwn
import PyProof.RulesAs
import KE.KEqSeq
import PyProof.ConsumeWalk
import PyProof.WalksMore
import PyProof.DictCompW
import PyProof.WalksEnum
import PyProof.AttrMissHeap
import PyProof.MeetsIn
import PyProof.DictUpdate
import KE.KEqDict
import PyProof.WalkInts
import PyProof.ExcInit
import PyProof.InstStoreFacts
import KE.KLam
import PyProof.DelItemList
import PyProof.RulesDelMore
import PyProof.DictItems
import KE.KPairComp
import PyProof.ListMulRoad
import PyProof.DictIter
import PyProof.DictWalks
import KE.KDictList
import PyProof.CollectIter
import PyProof.TupleOfSeq
import PyProof.Rows.Range3
import PySem.Challenge.RW_passpapers_k20_calls_deep
local macro_rules|`(tactic|show $e)=>`(tactic|refine $e)
set_option Elab.async false
set_option linter.all false
set_option maxRecDepth 100000
set_option maxHeartbeats 0
abbrev A3:=PySem.W.Frag
abbrev Bv:=PySem.Str->Option PySem.Value
abbrev Bf:=PySem.Value->PySem.Shared->Prop
abbrev Ju:=Unit->PySem.Shared->Prop
abbrev Dh:=List (PySem.Addr×PySem.Obj)
noncomputable section
abbrev JH:=@PySem.wpAny_bind
abbrev JI:=@PySem.Heap.get?_push_of_some
abbrev JJ:=@List.mem_of_getElem?
abbrev JK:=@PySem.wpAny_pure
abbrev JL:=@PySem.Heap.lt_size
abbrev JM:=@PySem.W.mg_of
abbrev JN:=@Nat.le_refl
abbrev JO:=@PySem.Heap.get?_push_size
abbrev JP:=@Nat.ne_of_lt
abbrev JQ:=@List.mem_append_right
abbrev JR:=@List.length_map
abbrev JS:=@List.mem_cons
abbrev JT:=@PySem.PassesOwn.never
abbrev JU:=@Nat.le_trans
abbrev JV:=@List.length_append
abbrev JW:=@if_neg
abbrev JX:=@Bool.false_ne_true
abbrev JY:=@List.mem_singleton
abbrev JZ:=@List.size_toArray
abbrev KA:=@Nat.lt_of_lt_of_le
abbrev KC:=@Option.some.inj
abbrev KD:=@List.forall_mem_nil
abbrev KE:=@if_pos
abbrev KG:=@List.getElem?_eq_getElem
abbrev KH:=@decide_eq_true
abbrev KI:=@List.not_mem_nil
abbrev KJ:=@List.lookup_cons
abbrev KL:=@decide_eq_false
abbrev KN:=@List.length_cons
abbrev KO:=@List.mem_cons_of_mem
abbrev KP:=@List.getElem?_map
abbrev KQ:=@PySem.boot_len
abbrev KR:=@PySem.wpAny_field
abbrev KS:=@Nat.ne_of_gt
abbrev KU:=@List.mem_append
abbrev KW:=@PySem.Heap.get?_update_other
abbrev KY:=@PySem.W.mg_none_of
abbrev KZ:=@PySem.Heap.size_push
abbrev LA:=@PySem.mem_of_lookup
abbrev LB:=@PySem.wpAny_mono
abbrev LC:=@List.mem_map
abbrev LD:=@Nat.zero_le
abbrev LF:=@PySem.AutoSeq1.wpAny_loadPart'
abbrev LG:=@List.take_length
abbrev LH:=@List.mem_cons_self
abbrev LI:=@PySem.wpAny_callSpecial?_slot
abbrev LJ:=@Nat.lt_irrefl
abbrev LK:=@List.map_cons
abbrev LL:=@PySem.wpAny_holding
abbrev LM:=@PySem.wpAny_setField_rec
abbrev LN:=@PyProof.Rows.callWith_type1
abbrev LO:=@List.mem_map_of_mem
abbrev LP:=@List.getElem?_replicate
abbrev LQ:=@PySem.wpAny_truthy_bool
abbrev LR:=@congrArg
abbrev LS:=@PySem.wpAny_standAt
abbrev LU:=@PySem.wpAny_pyIter_tuple
abbrev LV:=@PySem.Heap.get?_update_self
abbrev LW:=@PySem.wpAny_pyIter_list
abbrev LX:=@List.mem_append_left
abbrev LY:=@PySem.wpAny_seqItems
abbrev LZ:=@PySem.W.kia_one
abbrev MA:=@List.map_append
abbrev MC:=@or_false
abbrev MD:=@PySem.wpAny_newObj_type
abbrev MG:=@PySem.wpAny_comprehension_free
abbrev MH:=@PySem.codeAny_mono
abbrev MI:=@Sum.inl.inj
abbrev MJ:=@PySem.wpAny_call_entry
abbrev MK:=@PySem.F.plainAttrs_list
abbrev ML:=@Ne.symm
abbrev MM:=@PySem.F.slot_tuple_iterator_next
abbrev MN:=@List.length_replicate
abbrev MO:=@List.length_singleton
abbrev MP:=@PySem.Obj.isFreed_of_fields
abbrev MQ:=@PySem.builtinLookup_eq_fast
abbrev MS:=@PySem.wpAny_Call_Name_kw
abbrev MT:=@PySem.Obj.data_mapFields
abbrev MU:=@PySem.Around.under_plainId
abbrev MV:=@PySem.wpAny_loadPart_at
abbrev MW:=@decide_eq_true_eq
abbrev MX:=@of_decide_eq_true
abbrev MY:=@List.nodup_append
abbrev MZ:=@Bool.eq_iff_iff
abbrev NA:=@List.find?_cons
abbrev NB:=@PySem.F.slot_zip_next
abbrev NC:=@List.length_take
abbrev ND:=@beq_iff_eq
abbrev NE:=@List.map_replicate
abbrev NF:=@List.drop_eq_getElem_cons
abbrev NG:=@PySem.wpAny_passesOwn
abbrev NH:=@List.nodup_cons
abbrev NI:=@PySem.codeAny_builtin
abbrev NJ:=@PySem.sizeLine_eq
abbrev NK:=@PySem.F.slot_tuple_getattribute
abbrev NL:=@List.filterMap_cons
abbrev NM:=@Bool.and_eq_true
abbrev NN:=@dite_true
abbrev NO:=@List.all_eq_true
abbrev NP:=@PySem.wpAny_isInstance
abbrev NQ:=@List.filter_cons
abbrev NR:=@PySem.F.slot_zip_getattribute
abbrev NS:=@PySem.W.callWith_K
abbrev NT:=@Nat.lt_of_le_of_lt
abbrev NU:=@PySem.wpAny_rule
abbrev NV:=@PyProof.Rows.boot_tuple
abbrev NW:=@PySem.typeLookup_type
abbrev NX:=@PySem.wpAny_attempt
abbrev NY:=@PySem.plainId_quiet
abbrev NZ:=@PySem.F.slot_enumerate_next
abbrev No:=@List.append_assoc
abbrev OA:=@PySem.Heap.get?_none_of_le
abbrev OB:=@List.getElem?_append_right
abbrev OC:=@PySem.call_meets
abbrev OD:=@PySem.wpAny_newFunctionEnv
abbrev OE:=@PySem.codeAny_call_builtin
abbrev OF:=@List.getElem?_of_mem
abbrev OG:=@Nat.lt_succ_self
abbrev OH:=@PySem.wpAny_typeOf
abbrev OI:=@List.getElem?_append_left
abbrev OJ:=@PyProof.Rows.boot_all
abbrev OK:=@List.mem_filter
abbrev OL:=@PySem.wpAny_execs_nil
abbrev OM:=@Nat.min_le_left
abbrev ON:=@PySem.tupleKind_room_in1
abbrev OO:=@PySem.wpAny_setField
abbrev OP:=@PySem.isSubtype_stop
abbrev OQ:=@List.forIn_nil
abbrev OR:=@PySem.W.find_K
abbrev OS:=@PySem.wpAny_call
abbrev OT:=@List.any_cons
abbrev OU:=@Nat.le_succ
namespace L2
open PySem PySem.Spec PyProof.Rows
def zl (n:Nat)(h:n<=1000:=by decide):n<=sizeLine:=JU h (by decide)
def A6 {A B R:Prop}(G:A)(h1:B)(r:R):A/\B/\R:=⟨G,h1,r⟩
def C9 {A B C R:Prop}(G:A)(h1:B)(h2:C)(r:R):A/\B/\C/\R:=⟨G,h1,h2,r⟩
def Fq {A B C D R:Prop}(G:A)(h1:B)(h2:C)(O:D)(r:R):A/\B/\C/\D/\R:=⟨G,h1,h2,O,r⟩
def Qk {A B C D E R:Prop}(G:A)(h1:B)(h2:C)(O:D)(U:E)(r:R):A/\B/\C/\D/\E/\R:=⟨G,h1,h2,O,U,r⟩
def Aq {α:Type}{A R:α->Prop}(a:α)(G:A a)(r:R a):∃a,A a/\R a:=⟨a,G,r⟩
def Bc {α:Type}{A B R:α->Prop}(a:α)(G:A a)(h1:B a)(r:R a):∃a,A a/\B a/\R a:=⟨a,G,h1,r⟩
def Ep {α:Type}{A B C R:α->Prop}(a:α)(G:A a)(h1:B a)(h2:C a)(r:R a):∃a,A a/\B a/\C a/\R a:=⟨a,G,h1,h2,r⟩
def Qj {α:Type}{A B C D R:α->Prop}(a:α)(G:A a)(h1:B a)(h2:C a)(O:D a)(r:R a):∃a,A a/\B a/\C a/\D a/\R a:=⟨a,G,h1,h2,O,r⟩
def Jn {α:Type}{A B C D E R:α->Prop}(a:α)(G:A a)(h1:B a)(h2:C a)(O:D a)(U:E a)(r:R a):∃a,A a/\B a/\C a/\D a/\E a/\R a:=⟨a,G,h1,h2,O,U,r⟩
def Jm {α β:Type}{R:α->β->Prop}(a:α)(b:β)(r:R a b):∃a b,R a b:=⟨a,b,r⟩
def Ce {α β:Type}{A R:α->β->Prop}(a:α)(b:β)(G:A a b)(r:R a b):∃a b,A a b/\R a b:=⟨a,b,G,r⟩
def Aw {α β:Type}{A B R:α->β->Prop}(a:α)(b:β)(G:A a b)(h1:B a b)(r:R a b):∃a b,A a b/\B a b/\R a b:=⟨a,b,G,h1,r⟩
def Br {α β:Type}{A B C R:α->β->Prop}(a:α)(b:β)(G:A a b)(h1:B a b)(h2:C a b)(r:R a b):∃a b,A a b/\B a b/\C a b/\R a b:=⟨a,b,G,h1,h2,r⟩
def Ct {α β:Type}{A B C D R:α->β->Prop}(a:α)(b:β)(G:A a b)(h1:B a b)(h2:C a b)(O:D a b)(r:R a b):∃a b,A a b/\B a b/\C a b/\D a b/\R a b:=⟨a,b,G,h1,h2,O,r⟩
def D5 {α β:Type}{A B C D E R:α->β->Prop}(a:α)(b:β)(G:A a b)(h1:B a b)(h2:C a b)(O:D a b)(U:E a b)(r:R a b):∃a b,A a b/\B a b/\C a b/\D a b/\E a b/\R a b:=⟨a,b,G,h1,h2,O,U,r⟩
def ii30 {α β γ:Type}{R:α->β->γ->Prop}(a:α)(b:β)(c:γ)(r:R a b c):∃a b c,R a b c:=⟨a,b,c,r⟩
def Ht {α β γ:Type}{A R:α->β->γ->Prop}(a:α)(b:β)(c:γ)(G:A a b c)(r:R a b c):∃a b c,A a b c/\R a b c:=⟨a,b,c,G,r⟩
def Qi {α β γ:Type}{A B R:α->β->γ->Prop}(a:α)(b:β)(c:γ)(G:A a b c)(h1:B a b c)(r:R a b c):∃a b c,A a b c/\B a b c/\R a b c:=⟨a,b,c,G,h1,r⟩
def Cr {α β γ:Type}{A B C R:α->β->γ->Prop}(a:α)(b:β)(c:γ)(G:A a b c)(h1:B a b c)(h2:C a b c)(r:R a b c):∃a b c,A a b c/\B a b c/\C a b c/\R a b c:=⟨a,b,c,G,h1,h2,r⟩
def Ny {α β γ:Type}{A B C D R:α->β->γ->Prop}(a:α)(b:β)(c:γ)(G:A a b c)(h1:B a b c)(h2:C a b c)(O:D a b c)(r:R a b c):∃a b c,A a b c/\B a b c/\C a b c/\D a b c/\R a b c:=⟨a,b,c,G,h1,h2,O,r⟩
def Qh {α β γ:Type}{A B C D E R:α->β->γ->Prop}(a:α)(b:β)(c:γ)(G:A a b c)(h1:B a b c)(h2:C a b c)(O:D a b c)(U:E a b c)(r:R a b c):∃a b c,A a b c/\B a b c/\C a b c/\D a b c/\E a b c/\R a b c:=⟨a,b,c,G,h1,h2,O,U,r⟩
def ii41 {α β γ δ:Type}{A R:α->β->γ->δ->Prop}(a:α)(b:β)(c:γ)(d:δ)(G:A a b c d)(r:R a b c d):∃a b c d,A a b c d/\R a b c d:=⟨a,b,c,d,G,r⟩
def ii42 {α β γ δ:Type}{A B R:α->β->γ->δ->Prop}(a:α)(b:β)(c:γ)(d:δ)(G:A a b c d)(h1:B a b c d)(r:R a b c d):∃a b c d,A a b c d/\B a b c d/\R a b c d:=⟨a,b,c,d,G,h1,r⟩
def V9 {α β γ δ:Type}{A B C R:α->β->γ->δ->Prop}(a:α)(b:β)(c:γ)(d:δ)(G:A a b c d)(h1:B a b c d)(h2:C a b c d)(r:R a b c d):∃a b c d,A a b c d/\B a b c d/\C a b c d/\R a b c d:=⟨a,b,c,d,G,h1,h2,r⟩
def Bb {α β γ δ:Type}{A B C D R:α->β->γ->δ->Prop}(a:α)(b:β)(c:γ)(d:δ)(G:A a b c d)(h1:B a b c d)(h2:C a b c d)(O:D a b c d)(r:R a b c d):∃a b c d,A a b c d/\B a b c d/\C a b c d/\D a b c d/\R a b c d:=⟨a,b,c,d,G,h1,h2,O,r⟩
def B0 {α β γ δ:Type}{A B C D E R:α->β->γ->δ->Prop}(a:α)(b:β)(c:γ)(d:δ)(G:A a b c d)(h1:B a b c d)(h2:C a b c d)(O:D a b c d)(U:E a b c d)(r:R a b c d):∃a b c d,A a b c d/\B a b c d/\C a b c d/\D a b c d/\E a b c d/\R a b c d:=⟨a,b,c,d,G,h1,h2,O,U,r⟩
def ii53 {α β γ δ ε:Type}{A B C R:α->β->γ->δ->ε->Prop}(a:α)(b:β)(c:γ)(d:δ)(e:ε)(G:A a b c d e)(h1:B a b c d e)(h2:C a b c d e)(r:R a b c d e):∃a b c d e,A a b c d e/\B a b c d e/\C a b c d e/\R a b c d e:=⟨a,b,c,d,e,G,h1,h2,r⟩
def Ad3 {α β γ δ ε:Type}{A B C D R:α->β->γ->δ->ε->Prop}(a:α)(b:β)(c:γ)(d:δ)(e:ε)(G:A a b c d e)(h1:B a b c d e)(h2:C a b c d e)(O:D a b c d e)(r:R a b c d e):∃a b c d e,A a b c d e/\B a b c d e/\C a b c d e/\D a b c d e/\R a b c d e:=⟨a,b,c,d,e,G,h1,h2,O,r⟩
def B8 {α β γ δ ε:Type}{A B C D E R:α->β->γ->δ->ε->Prop}(a:α)(b:β)(c:γ)(d:δ)(e:ε)(G:A a b c d e)(h1:B a b c d e)(h2:C a b c d e)(O:D a b c d e)(U:E a b c d e)(r:R a b c d e):∃a b c d e,A a b c d e/\B a b c d e/\C a b c d e/\D a b c d e/\E a b c d e/\R a b c d e:=⟨a,b,c,d,e,G,h1,h2,O,U,r⟩
def Fe {α β γ δ ε ζ:Type}{R:α->β->γ->δ->ε->ζ->Prop}(a:α)(b:β)(c:γ)(d:δ)(e:ε)(f:ζ)(r:R a b c d e f):∃a b c d e f,R a b c d e f:=⟨a,b,c,d,e,f,r⟩
def Yz {α β γ δ ε ζ:Type}{A B C D E R:α->β->γ->δ->ε->ζ->Prop}(a:α)(b:β)(c:γ)(d:δ)(e:ε)(f:ζ)(G:A a b c d e f)(h1:B a b c d e f)(h2:C a b c d e f)(O:D a b c d e f)(U:E a b c d e f)(r:R a b c d e f):∃a b c d e f,A a b c d e f/\B a b c d e f/\C a b c d e f/\D a b c d e f/\E a b c d e f/\R a b c d e f:=⟨a,b,c,d,e,f,G,h1,h2,O,U,r⟩
def Ac {α:Type}{A R:α->Prop}{a:α}(G:A a)(r:R a):∃a,A a/\R a:=⟨a,G,r⟩
def A8 {α:Type}{A B R:α->Prop}{a:α}(G:A a)(h1:B a)(r:R a):∃a,A a/\B a/\R a:=⟨a,G,h1,r⟩
def jj13 {α:Type}{A B C R:α->Prop}{a:α}(G:A a)(h1:B a)(h2:C a)(r:R a):∃a,A a/\B a/\C a/\R a:=⟨a,G,h1,h2,r⟩
def jj14 {α:Type}{A B C D R:α->Prop}{a:α}(G:A a)(h1:B a)(h2:C a)(O:D a)(r:R a):∃a,A a/\B a/\C a/\D a/\R a:=⟨a,G,h1,h2,O,r⟩
def jj15 {α:Type}{A B C D E R:α->Prop}{a:α}(G:A a)(h1:B a)(h2:C a)(O:D a)(U:E a)(r:R a):∃a,A a/\B a/\C a/\D a/\E a/\R a:=⟨a,G,h1,h2,O,U,r⟩
def Cs {α β:Type}{R:α->β->Prop}{a:α}{b:β}(r:R a b):∃a b,R a b:=⟨a,b,r⟩
def Bg {α β:Type}{A R:α->β->Prop}{a:α}{b:β}(G:A a b)(r:R a b):∃a b,A a b/\R a b:=⟨a,b,G,r⟩
def Bu {α β:Type}{A B R:α->β->Prop}{a:α}{b:β}(G:A a b)(h1:B a b)(r:R a b):∃a b,A a b/\B a b/\R a b:=⟨a,b,G,h1,r⟩
def Ex {α β:Type}{A B C R:α->β->Prop}{a:α}{b:β}(G:A a b)(h1:B a b)(h2:C a b)(r:R a b):∃a b,A a b/\B a b/\C a b/\R a b:=⟨a,b,G,h1,h2,r⟩
def jj24 {α β:Type}{A B C D R:α->β->Prop}{a:α}{b:β}(G:A a b)(h1:B a b)(h2:C a b)(O:D a b)(r:R a b):∃a b,A a b/\B a b/\C a b/\D a b/\R a b:=⟨a,b,G,h1,h2,O,r⟩
def jj25 {α β:Type}{A B C D E R:α->β->Prop}{a:α}{b:β}(G:A a b)(h1:B a b)(h2:C a b)(O:D a b)(U:E a b)(r:R a b):∃a b,A a b/\B a b/\C a b/\D a b/\E a b/\R a b:=⟨a,b,G,h1,h2,O,U,r⟩
def Ad0 {α β γ:Type}{R:α->β->γ->Prop}{a:α}{b:β}{c:γ}(r:R a b c):∃a b c,R a b c:=⟨a,b,c,r⟩
def jj31 {α β γ:Type}{A R:α->β->γ->Prop}{a:α}{b:β}{c:γ}(G:A a b c)(r:R a b c):∃a b c,A a b c/\R a b c:=⟨a,b,c,G,r⟩
def Ac9 {α β γ:Type}{A B C D R:α->β->γ->Prop}{a:α}{b:β}{c:γ}(G:A a b c)(h1:B a b c)(h2:C a b c)(O:D a b c)(r:R a b c):∃a b c,A a b c/\B a b c/\C a b c/\D a b c/\R a b c:=⟨a,b,c,G,h1,h2,O,r⟩
def Ac8 {α β γ δ:Type}{R:α->β->γ->δ->Prop}{a:α}{b:β}{c:γ}{d:δ}(r:R a b c d):∃a b c d,R a b c d:=⟨a,b,c,d,r⟩
def Jb {α β γ δ:Type}{A B C R:α->β->γ->δ->Prop}{a:α}{b:β}{c:γ}{d:δ}(G:A a b c d)(h1:B a b c d)(h2:C a b c d)(r:R a b c d):∃a b c d,A a b c d/\B a b c d/\C a b c d/\R a b c d:=⟨a,b,c,d,G,h1,h2,r⟩
def Ac7 {α β γ δ:Type}{A B C D R:α->β->γ->δ->Prop}{a:α}{b:β}{c:γ}{d:δ}(G:A a b c d)(h1:B a b c d)(h2:C a b c d)(O:D a b c d)(r:R a b c d):∃a b c d,A a b c d/\B a b c d/\C a b c d/\D a b c d/\R a b c d:=⟨a,b,c,d,G,h1,h2,O,r⟩
def Yy {α β γ δ:Type}{A B C D E R:α->β->γ->δ->Prop}{a:α}{b:β}{c:γ}{d:δ}(G:A a b c d)(h1:B a b c d)(h2:C a b c d)(O:D a b c d)(U:E a b c d)(r:R a b c d):∃a b c d,A a b c d/\B a b c d/\C a b c d/\D a b c d/\E a b c d/\R a b c d:=⟨a,b,c,d,G,h1,h2,O,U,r⟩
def jj50 {α β γ δ ε:Type}{R:α->β->γ->δ->ε->Prop}{a:α}{b:β}{c:γ}{d:δ}{e:ε}(r:R a b c d e):∃a b c d e,R a b c d e:=⟨a,b,c,d,e,r⟩
def En {α β γ δ ε ζ:Type}{R:α->β->γ->δ->ε->ζ->Prop}{a:α}{b:β}{c:γ}{d:δ}{e:ε}{f:ζ}(r:R a b c d e f):∃a b c d e f,R a b c d e f:=⟨a,b,c,d,e,f,r⟩
def D7 {A R:Prop}{G:Prop}(h:A/\R)(k:A->R->G):G:=let ⟨O,r⟩:=h;k O r
def B9 {A B R:Prop}{G:Prop}(h:A/\B/\R)(k:A->B->R->G):G:=let ⟨O,h1,r⟩:=h;k O h1 r
def N0 {A B C R:Prop}{G:Prop}(h:A/\B/\C/\R)(k:A->B->C->R->G):G:=let ⟨O,h1,h2,r⟩:=h;k O h1 h2 r
def Js {A B C D R:Prop}{G:Prop}(h:A/\B/\C/\D/\R)(k:A->B->C->D->R->G):G:=let ⟨O,h1,h2,U,r⟩:=h;k O h1 h2 U r
def Ll {A B C D E R:Prop}{G:Prop}(h:A/\B/\C/\D/\E/\R)(k:A->B->C->D->E->R->G):G:=let ⟨O,h1,h2,U,Y,r⟩:=h;k O h1 h2 U Y r
def Am {α:Type}{A R:α->Prop}{G:Prop}(h:∃a,A a/\R a)(k:∀a,A a->R a->G):G:=let ⟨a,O,r⟩:=h;k a O r
def Bp {α:Type}{A B R:α->Prop}{G:Prop}(h:∃a,A a/\B a/\R a)(k:∀a,A a->B a->R a->G):G:=let ⟨a,O,h1,r⟩:=h;k a O h1 r
def Ad8 {α:Type}{A B C R:α->Prop}{G:Prop}(h:∃a,A a/\B a/\C a/\R a)(k:∀a,A a->B a->C a->R a->G):G:=let ⟨a,O,h1,h2,r⟩:=h;k a O h1 h2 r
def Wi {α:Type}{A B C D R:α->Prop}{G:Prop}(h:∃a,A a/\B a/\C a/\D a/\R a)(k:∀a,A a->B a->C a->D a->R a->G):G:=let ⟨a,O,h1,h2,U,r⟩:=h;k a O h1 h2 U r
def Ad7 {α:Type}{A B C D E R:α->Prop}{G:Prop}(h:∃a,A a/\B a/\C a/\D a/\E a/\R a)(k:∀a,A a->B a->C a->D a->E a->R a->G):G:=let ⟨a,O,h1,h2,U,Y,r⟩:=h;k a O h1 h2 U Y r
def G9 {α β:Type}{R:α->β->Prop}{G:Prop}(h:∃a b,R a b)(k:∀a b,R a b->G):G:=let ⟨a,b,r⟩:=h;k a b r
def B5 {α β:Type}{A R:α->β->Prop}{G:Prop}(h:∃a b,A a b/\R a b)(k:∀a b,A a b->R a b->G):G:=let ⟨a,b,O,r⟩:=h;k a b O r
def B7 {α β:Type}{A B R:α->β->Prop}{G:Prop}(h:∃a b,A a b/\B a b/\R a b)(k:∀a b,A a b->B a b->R a b->G):G:=let ⟨a,b,O,h1,r⟩:=h;k a b O h1 r
def Fw {α β:Type}{A B C R:α->β->Prop}{G:Prop}(h:∃a b,A a b/\B a b/\C a b/\R a b)(k:∀a b,A a b->B a b->C a b->R a b->G):G:=let ⟨a,b,O,h1,h2,r⟩:=h;k a b O h1 h2 r
def Jr {α β:Type}{A B C D R:α->β->Prop}{G:Prop}(h:∃a b,A a b/\B a b/\C a b/\D a b/\R a b)(k:∀a b,A a b->B a b->C a b->D a b->R a b->G):G:=let ⟨a,b,O,h1,h2,U,r⟩:=h;k a b O h1 h2 U r
def Fs {α β:Type}{A B C D E R:α->β->Prop}{G:Prop}(h:∃a b,A a b/\B a b/\C a b/\D a b/\E a b/\R a b)(k:∀a b,A a b->B a b->C a b->D a b->E a b->R a b->G):G:=let ⟨a,b,O,h1,h2,U,Y,r⟩:=h;k a b O h1 h2 U Y r
def dd30 {α β γ:Type}{R:α->β->γ->Prop}{G:Prop}(h:∃a b c,R a b c)(k:∀a b c,R a b c->G):G:=let ⟨a,b,c,r⟩:=h;k a b c r
def Da {α β γ:Type}{A R:α->β->γ->Prop}{G:Prop}(h:∃a b c,A a b c/\R a b c)(k:∀a b c,A a b c->R a b c->G):G:=let ⟨a,b,c,O,r⟩:=h;k a b c O r
def Gp {α β γ:Type}{A B R:α->β->γ->Prop}{G:Prop}(h:∃a b c,A a b c/\B a b c/\R a b c)(k:∀a b c,A a b c->B a b c->R a b c->G):G:=let ⟨a,b,c,O,h1,r⟩:=h;k a b c O h1 r
def Jq {α β γ:Type}{A B C R:α->β->γ->Prop}{G:Prop}(h:∃a b c,A a b c/\B a b c/\C a b c/\R a b c)(k:∀a b c,A a b c->B a b c->C a b c->R a b c->G):G:=let ⟨a,b,c,O,h1,h2,r⟩:=h;k a b c O h1 h2 r
def Qn {α β γ:Type}{A B C D R:α->β->γ->Prop}{G:Prop}(h:∃a b c,A a b c/\B a b c/\C a b c/\D a b c/\R a b c)(k:∀a b c,A a b c->B a b c->C a b c->D a b c->R a b c->G):G:=let ⟨a,b,c,O,h1,h2,U,r⟩:=h;k a b c O h1 h2 U r
def Zd {α β γ:Type}{A B C D E R:α->β->γ->Prop}{G:Prop}(h:∃a b c,A a b c/\B a b c/\C a b c/\D a b c/\E a b c/\R a b c)(k:∀a b c,A a b c->B a b c->C a b c->D a b c->E a b c->R a b c->G):G:=let ⟨a,b,c,O,h1,h2,U,Y,r⟩:=h;k a b c O h1 h2 U Y r
def Jp {α β γ δ:Type}{A R:α->β->γ->δ->Prop}{G:Prop}(h:∃a b c d,A a b c d/\R a b c d)(k:∀a b c d,A a b c d->R a b c d->G):G:=let ⟨a,b,c,d,O,r⟩:=h;k a b c d O r
def Ad6 {α β γ δ:Type}{A B R:α->β->γ->δ->Prop}{G:Prop}(h:∃a b c d,A a b c d/\B a b c d/\R a b c d)(k:∀a b c d,A a b c d->B a b c d->R a b c d->G):G:=let ⟨a,b,c,d,O,h1,r⟩:=h;k a b c d O h1 r
def Qm {α β γ δ:Type}{A B C R:α->β->γ->δ->Prop}{G:Prop}(h:∃a b c d,A a b c d/\B a b c d/\C a b c d/\R a b c d)(k:∀a b c d,A a b c d->B a b c d->C a b c d->R a b c d->G):G:=let ⟨a,b,c,d,O,h1,h2,r⟩:=h;k a b c d O h1 h2 r
def Lk {α β γ δ:Type}{A B C D R:α->β->γ->δ->Prop}{G:Prop}(h:∃a b c d,A a b c d/\B a b c d/\C a b c d/\D a b c d/\R a b c d)(k:∀a b c d,A a b c d->B a b c d->C a b c d->D a b c d->R a b c d->G):G:=let ⟨a,b,c,d,O,h1,h2,U,r⟩:=h;k a b c d O h1 h2 U r
def K3 {α β γ δ:Type}{A B C D E R:α->β->γ->δ->Prop}{G:Prop}(h:∃a b c d,A a b c d/\B a b c d/\C a b c d/\D a b c d/\E a b c d/\R a b c d)(k:∀a b c d,A a b c d->B a b c d->C a b c d->D a b c d->E a b c d->R a b c d->G):G:=let ⟨a,b,c,d,O,h1,h2,U,Y,r⟩:=h;k a b c d O h1 h2 U Y r
def M9 {α β γ δ ε:Type}{A R:α->β->γ->δ->ε->Prop}{G:Prop}(h:∃a b c d e,A a b c d e/\R a b c d e)(k:∀a b c d e,A a b c d e->R a b c d e->G):G:=let ⟨a,b,c,d,e,O,r⟩:=h;k a b c d e O r
def dd53 {α β γ δ ε:Type}{A B C R:α->β->γ->δ->ε->Prop}{G:Prop}(h:∃a b c d e,A a b c d e/\B a b c d e/\C a b c d e/\R a b c d e)(k:∀a b c d e,A a b c d e->B a b c d e->C a b c d e->R a b c d e->G):G:=let ⟨a,b,c,d,e,O,h1,h2,r⟩:=h;k a b c d e O h1 h2 r
def dd54 {α β γ δ ε:Type}{A B C D R:α->β->γ->δ->ε->Prop}{G:Prop}(h:∃a b c d e,A a b c d e/\B a b c d e/\C a b c d e/\D a b c d e/\R a b c d e)(k:∀a b c d e,A a b c d e->B a b c d e->C a b c d e->D a b c d e->R a b c d e->G):G:=let ⟨a,b,c,d,e,O,h1,h2,U,r⟩:=h;k a b c d e O h1 h2 U r
def Nz {α β γ δ ε:Type}{A B C D E R:α->β->γ->δ->ε->Prop}{G:Prop}(h:∃a b c d e,A a b c d e/\B a b c d e/\C a b c d e/\D a b c d e/\E a b c d e/\R a b c d e)(k:∀a b c d e,A a b c d e->B a b c d e->C a b c d e->D a b c d e->E a b c d e->R a b c d e->G):G:=let ⟨a,b,c,d,e,O,h1,h2,U,Y,r⟩:=h;k a b c d e O h1 h2 U Y r
def Dl {α β γ δ ε ζ:Type}{R:α->β->γ->δ->ε->ζ->Prop}{G:Prop}(h:∃a b c d e f,R a b c d e f)(k:∀a b c d e f,R a b c d e f->G):G:=let ⟨a,b,c,d,e,f,r⟩:=h;k a b c d e f r
def dd61 {α β γ δ ε ζ:Type}{A R:α->β->γ->δ->ε->ζ->Prop}{G:Prop}(h:∃a b c d e f,A a b c d e f/\R a b c d e f)(k:∀a b c d e f,A a b c d e f->R a b c d e f->G):G:=let ⟨a,b,c,d,e,f,O,r⟩:=h;k a b c d e f O r
def dd65 {α β γ δ ε ζ:Type}{A B C D E R:α->β->γ->δ->ε->ζ->Prop}{G:Prop}(h:∃a b c d e f,A a b c d e f/\B a b c d e f/\C a b c d e f/\D a b c d e f/\E a b c d e f/\R a b c d e f)(k:∀a b c d e f,A a b c d e f->B a b c d e f->C a b c d e f->D a b c d e f->E a b c d e f->R a b c d e f->G):G:=let ⟨a,b,c,d,e,f,O,h1,h2,U,Y,r⟩:=h;k a b c d e f O h1 h2 U Y r
abbrev Key:=Sum Int Str
noncomputable def K7:Key->Value->Bool
 | .inl k,v=>Value.isInt k v
 | .inr x,v=>Value.isStrOf x v
noncomputable def keyH (w:World):Key->Int
 | .inl k=>hashInt k
 | .inr x=>hashStr w x
theorem Cm:∀{k:Key} {v:Value},K7 k v=true->(∃i t,k=Sum.inl i/\v=Value.int i t)\/(∃x t,k=Sum.inr x/\v=Value.str x t)
 | .inl i,v,h=>by
  obtain⟨t,e⟩:=Value.isInt_shape (k:=i) (v:=v) h;show .inl (Ce i t rfl e)
 | .inr x,v,h=>by
  obtain⟨t,e⟩:=Value.isStrOf_shape (x:=x) (v:=v) h;show .inr (Ce x t rfl e)
def V6 (i:Int)(t:Tok):K7 (.inl i) (.int i t)=true:=by simp[K7,Value.isInt]
def V5 (x:Str)(t:Tok):K7 (.inr x) (.str x t)=true:=by simp[K7,Value.isStrOf]
def key_ll (a b:Int):decide ((Sum.inl a:Key)=Sum.inl b)=(a==b):=by
 by_cases e:a=b
 .subst e;simp
 .have h:¬(Sum.inl a:Key)=Sum.inl b:=λq=>e (MI q);rw[KL h];show(beq_eq_false_iff_ne.mpr e).symm
def key_rr (a b:Str):decide ((Sum.inr a:Key)=Sum.inr b)=decide (a=b):=by
 by_cases e:a=b
 .subst e;simp
 .have h:¬(Sum.inr a:Key)=Sum.inr b:=λq=>e (Sum.inr.inj q);rw[KL h,KL e]
def key_lr (a:Int)(b:Str):decide ((Sum.inl a:Key)=Sum.inr b)=false:=KL (λq=>nomatch q)
def key_rl (a:Str)(b:Int):decide ((Sum.inr a:Key)=Sum.inl b)=false:=KL (λq=>nomatch q)
noncomputable def B3 (prog:Program)(w:World):PySem.KeyKind prog w Key where
 is:=K7
 hash:=keyH w
 inj:=λv a b ha U=>by
  rcases Cm ha with⟨i,t,rfl,rfl⟩|⟨x,t,rfl,rfl⟩
  .rcases Cm U with⟨j,u,rfl,e⟩|⟨y,u,rfl,e⟩
   .injection e with G _;rw[G]
   .show nomatch e
  .rcases Cm U with⟨j,u,rfl,e⟩|⟨y,u,rfl,e⟩
   .show nomatch e
   .injection e with G _;rw[G]
 byValue:=λk v h=>by
  rcases Cm h with⟨i,t,rfl,rfl⟩|⟨x,t,rfl,rfl⟩<;>rfl
 pyHash:=λO h=>by
  rcases Cm O with⟨i,t,rfl,rfl⟩|⟨x,t,rfl,rfl⟩
  .show wpAny_pyHash_int h
  .show wpAny_pyHash_str h
 eqBool:=λY O h=>by
  rcases Cm Y with⟨i,t,rfl,rfl⟩|⟨x,t,rfl,rfl⟩
  .rcases Cm O with⟨j,u,rfl,rfl⟩|⟨y,u,rfl,rfl⟩
   .rw [key_ll]at h;show wpAny_eqBool_int h
   .rw [key_lr]at h;show SeqAt.EqAt.int_str i t y u _ _ _ _ h
  .rcases Cm O with⟨j,u,rfl,rfl⟩|⟨y,u,rfl,rfl⟩
   .rw [key_rl]at h;show SeqAt.EqAt.str_int x t j u _ _ _ _ h
   .rw [key_rr]at h;show wpAny_eqBool_str h
 «strs»:=λk x t v h=>by
  rcases Cm h with⟨i,u,rfl,e⟩|⟨y,u,rfl,e⟩
  .show nomatch e
  .injection e with G _
   subst G;cases v<;>rfl
def Ro (prog:Program)(w:World)(i:Int)(t:Tok):(B3 prog w).is (.inl i) (.int i t)=true:=V6 i t
def Rn (prog:Program)(w:World)(x:Str)(t:Tok):(B3 prog w).is (.inr x) (.str x t)=true:=V5 x t
inductive V where
 | AQ|bl (b:Bool)|int (i:Int)|str (x:Str)|JE (b:Array UInt8)|flt (b:UInt64)|ref (a:Addr)|ty (n:String)
 deriving DecidableEq
def RelV:V->Value->Prop
 | .AQ,u=>u=Value.none
 | .bl b,u=>u=Value.bool b
 | .int i,u=>∃t,u=Value.int i t
 | .str x,u=>∃t,u=Value.str x t
 | .JE b,u=>∃t,u=Value.bytes b t
 | .flt b,u=>∃t,u=Value.float b t
 | .ref a,u=>u=Value.ref a
 | .ty n,u=>u=Value.type n
abbrev AF:List V->List Value->Prop:=Paired RelV
def AF.length (r:AF xs us):xs.length=us.length:=Paired.length r
theorem AF.get:∀{xs:List V} {us:List Value} {i:Nat} {x:V},AF xs us->xs[i]?=some x->∃u,us[i]?=some u/\RelV x u
 | _,_,_,_,.nil,e=>by simp at e
 | _,_,0,_,.cons r _,e=>by simp at e;subst e;show Ac rfl r
 | _,_,i+1,x,.cons _ t,e=>by
  show Am (AF.get (i:=i) (x:=x) t (by simpa using e)) λu h1 h2=>Aq u (by simpa using h1) h2
theorem AF.append:∀{xs ys:List V} {us G:List Value},AF xs us->AF ys G->AF (xs++ys) (us++G)
 | _,_,_,_,.nil,s=>s
 | _,_,_,_,.cons r t,s=>.cons r (AF.append t s)
def AF.none_of:∀{xs:List V} {us:List Value} {i:Nat},AF xs us->xs[i]?=none->us[i]?=none:=fun {xs us i} r e=>by
 have h1:=r.length;have h2:xs.length<=i:=List.getElem?_eq_none_iff.mp e;show List.getElem?_eq_none_iff.mpr (by omega)
def BP:Option V->Option Value->Prop
 | some v,some u=>RelV v u
 | none,none=>True
 | _,_=>False
def KV {κ:Type}:List (κ×V)->List (κ×Value)->Prop:=Paired λ(p:κ×V) (q:κ×Value)=>p.1=q.1/\RelV p.2 q.2
noncomputable def kV:Key->V
 | .inl i=>.int i
 | .inr x=>.str x
inductive HO where
  | lst (xs:List V)
  | tup (xs:List V)
  | dK (kvs:List (Key×V))|dT (kvs:List (List Key×V))
  | set (S:Int->Bool) (n:Nat)
  | ins (C dx:Addr) (fs:List (Str×V))
  | own (x:Addr)
  | xd (fs:List (Str×V))
  | met (f x:Addr)
  | rng (lo hi:Int)
  | EM (o:Obj) (u:HO)
  | FK (ps:Array Value)
  | ext (φ:Heap->Prop)
abbrev Hp:=Addr->Option HO
noncomputable def upd (H:Hp)(a:Addr)(o:HO):Hp:=λb=>if b=a then some o else H b
def Ag:upd H a o a=some o:=by unfold upd;rw[KE rfl]
def Ak (h:b≠a):upd H a o b=H b:=by unfold upd;rw[JW h]
def Gs:upd (upd H a o) a u=upd H a u:=by
 funext b;unfold upd;split<;>rfl
def Bl {H:Hp}{a b:Addr}(h:H a=some o)(h':H b=some u)(d:o≠u):a≠b:=by
 intro e;subst e;rw[h]at h';show d (KC h')
def Aj {H:Hp}{a b:Addr}(h:H a=some o)(h':H b=none):a≠b:=by
 intro e;subst e;rw[h]at h';cases h'
section
variable (P:Program)(w:World)
def AL (H:Hp)(h:Heap)(a:Addr):HO->Prop
 | .lst xs=>xs.length<=sizeLine/\∃(its:List Value) (n:Nat),AF xs its/\h.get? a=some {cls:=.type "list",data:=.seq its.toArray n}
 | .tup xs=>(xs.length<=sizeLine/\∃o,h.get? a=some o/\o.dict=none)/\∃its:List Value,AF xs its/\IsTup h a its.toArray
 | .dK kvs=>kvs.length<=sizeLine/\(a==sysModules)=false/\∃vs,KV kvs vs/\h.DictOf (B3 P w) a vs
 | .dT kvs=>kvs.length<=sizeLine/\(a==sysModules)=false/\∃xs:List (List Key×Addr×Value),
   Paired (λ(p:List Key×V) (q:List Key×Addr×Value)=>p.1=q.1/\H q.2.1=some (.tup (p.1.map kV))/\RelV p.2 q.2.2) kvs xs /\
   ∃o es ep,h.get? a=some o/\o.ExactDict/\o.data=.dict es ep/\es.toList=xs.map (entryOfKey (tupleKind (B3 P w)))/\(xs.map (·.1)).Nodup
 | .set S n=>h.SetOf (intKind P w) a S n
 | .ins C dx fs=>H dx=some (.own a)/\fs.length<=1000/\dx≠a/\h.get? a=some (PySem.W.instObj C dx) /\
   ∃mA,h.Ns1 dx mA/\(∀f,BP (fs.lookup f) (mA f))/\PySem.Within mA (fs.map (·.1))
 | .own _=>∃o,h.get? a=some o
 | .xd fs=>∃mA,h.Ns1 a mA/\∀f,BP (fs.lookup f) (mA f)
 | .rng lo hi=>∃t u v,h.get? a=some {cls:=.type "range",data:=.fields #[.int lo t,.int hi u,.int 1 v]}
 | .EM o u=>h.get? a=some o/\AL H h a u
 | .FK ps=>h.get? a=some {cls:=.none,data:=.fields ps}
 | .met f x=>h.get? a=some (PySem.W.methodObj (.ref f) (.ref x))
 | .ext φ=>φ h/\(∃o,h.get? a=some o)/\∀h1 h2:Heap,φ h1->(∀o,h1.get? a=some o->h2.get? a=some o)->φ h2
def BH (H:Hp)(h:Heap):Prop:=∀a o,H a=some o->AL P w H h a o
end
section
def AL.lt (x:AL P w H h a o):a<h.objs.size:=by
 cases o with
 | lst xs=>show D7 x λ_ z1=>?_;show B5 z1 λ_ _ _ e=>?_;show JL e
 | tup xs=>show D7 x λ_ z1=>?_;show Am z1 λ_ _ p=>?_;show p.lt
 | dK kvs=>show B9 x λ_ _ z1=>?_;show Am z1 λ_ _ G=>?_;show Da G λo _ _ e _=>?_;show JL e
 | dT kvs=>show B9 x λ_ _ z1=>?_;show Am z1 λ_ _ G=>?_;show Da G λo _ _ e _=>?_;show JL e
 | set S n=>show Jp x λo _ _ _ e _=>?_;show JL e
 | ins C dx fs=>show Js x λ_ _ _ e _=>?_;show JL e
 | own y=>obtain⟨_,e⟩:=x;show JL e
 | xd fs=>show Am x λ_ z1 _=>?_;obtain⟨_,_,_,e,_⟩:=z1;show JL e
 | rng lo hi=>show dd30 x λ_ _ _ e=>?_;show JL e
 | EM O u=>obtain⟨e,_⟩:=x;show JL e
 | FK ps=>show JL (show h.get? a=some _ from x)
 | met f y=>show JL (show h.get? a=some _ from x)
 | ext φ=>show B9 x λ_ z1 _=>?_;obtain⟨_,e⟩:=z1;show JL e
theorem Paired.CT {α β:Type}{F G:α->β->Prop}:∀{O:List α} {U:List β},Paired F O U->(∀a b,F a b->G a b)->Paired G O U
 | _,_,.nil,_=>.nil
 | _,_,.cons r t,f=>.cons (f _ _ r) (Paired.CT t f)
def AL.CC (x:AL P w H h a o)(k:∀b u,(b=a\/H b=some (.own a))->h.get? b=some u->h'.get? b=some u)
  (ho:∀b,H b=some (.own a)->H' b=some (.own a))(ht:∀b xs,H b=some (.tup xs)->H' b=some (.tup xs)):AL P w H' h' a o:=by
 induction o with
 | lst xs=>show D7 x λz z1=>?_;show B5 z1 λits n r e=>?_;show⟨z,(Ce its n r (k _ _ (.inl rfl) e))⟩
 | tup xs=>show D7 x λz1 O=>?_;show Am O λits r z3=>?_;show Am z3 λG e c=>?_;obtain⟨z,od,Y,nd⟩:=z1;show⟨⟨z,(Aq od (k _ _ (.inl rfl) Y) nd)⟩,(Aq its r (Aq G (k _ _ (.inl rfl) e) c))⟩
 | dK kvs=>show B9 x λz y z1=>?_;show Am z1 λvs r O=>?_;show Da O λG es ep e c=>?_;show A6 z y (Aq vs r (Ht G es ep (k _ _ (.inl rfl) e) c))
 | dT kvs=>
  show B9 x λz y z1=>Am z1 λxs r O=>Da O λG es ep e c=>A6 z y (Aq xs (Paired.CT r λp q z=>(A6 z.1 (ht _ _ z.2.1) z.2.2)) (Ht G es ep (k _ _ (.inl rfl) e) c))
 | set S n=>show Jp x λG es ep t e c=>?_;show ii41 G es ep t (k _ _ (.inl rfl) e) c
 | ins C dx fs=>
  show Js x λd z ne e z1=>Am z1 λmA O r=>?_;obtain⟨od,es,ep,U,c⟩:=O;show Fq (ho _ d) z ne (k _ _ (.inl rfl) e) (Aq mA (Ht od es ep (k _ _ (.inr d) U) c) r)
 | own y=>obtain⟨G,e⟩:=x;show⟨G,k _ _ (.inl rfl) e⟩
 | xd fs=>show Am x λmA z1 r=>?_;obtain⟨od,es,ep,e,c⟩:=z1;show Aq mA (Ht od es ep (k _ _ (.inl rfl) e) c) r
 | rng lo hi=>show dd30 x λt u v e=>?_;show ii30 t u v (k _ _ (.inl rfl) e)
 | EM G u ih=>obtain⟨e,q⟩:=x;show⟨k _ _ (.inl rfl) e,ih q⟩
 | FK ps=>
  have e:h.get? a=some {cls:=.none,data:=.fields ps}:=x
  show h'.get? a=some {cls:=.none,data:=.fields ps}
  show k a _ (.inl rfl) e
 | met f y=>
  have e:h.get? a=some (PySem.W.methodObj (.ref f) (.ref y)):=x
  show h'.get? a=some (PySem.W.methodObj (.ref f) (.ref y))
  show k a _ (.inl rfl) e
 | ext φ=>show B9 x λp z1 st=>?_;obtain⟨o,e⟩:=z1;show A6 (st _ _ p λo q=>k _ _ (.inl rfl) q) ⟨o,k _ _ (.inl rfl) e⟩ st
def BH.lt (x:BH P w H h)(e:H a=some o):a<h.objs.size:=(x a o e).lt
def BH.fresh (x:BH P w H h)(e:h.objs.size<=a):H a=none:=by
 cases q:H a with
 | none=>rfl
 | some u=>show absurd (KA (x.lt q) e) (LJ _)
def BH.kept (x:BH P w H h)(k:∀b u,h.get? b=some u->h'.get? b=some u):BH P w H h':=λa o e=>
 (x a o e).CC (λb u _ q=>k b u q) (λ_ q=>q) λ_ _ q=>q
def BH.laid (x:BH P w H h)(k:∀b u,h.get? b=some u->h'.get? b=some u)(O:h.objs.size<=a)(new:AL P w (upd H a o) h' a o):BH P w (upd H a o) h':=λb u e=>by
 have hn:=x.fresh O;by_cases G:b=a
 .subst G;rw[Ag]at e;cases e;show new
 .rw [Ak G]at e;show(x b u e).CC (λc v _ q=>k c v q) (λc q=>by rw[Ak (Aj q hn)];show q) λc xs q=>by rw[Ak (Aj q hn)];show q
end
def Rd (H:Hp)(a:Addr)(u:HO):Prop:=H a=some u\/∃o,H a=some (.EM o u)
def Rd.ok (r:Rd H a u)(x:BH P w H h):AL P w H h a u:=by
 rcases r with r|⟨o,r⟩
 .show x a u r
 .obtain⟨_,q⟩:=x a _ r;show q
def Mut:Option HO->Prop
 | some (.lst _)=>True
 | some (.dK _)=>True
 | some (.dT _)=>True
 | some (.set _ _)=>True
 | some (.ins _ _ _)=>True
 | some (.ext _)=>True
 | _=>False
section
def BH.write (ok:BH P w H h)(O:Mut (H x))(Y:e=x\/H e=some (.own x))(k:∀b u,b≠e->h.get? b=some u->h'.get? b=some u)(a2:∃u,h'.get? e=some u)
  (new:AL P w (upd H x o') h' x o'):BH P w (upd H x o') h':=λb u q=>by
 have a1:∀c y,H c=some (.own y)->c≠x:=λc y r z=>by subst z;rw[r]at O;show O
 have a4:∀c xs,H c=some (.tup xs)->c≠x:=λc xs r z=>by subst z;rw[r]at O;show O
 by_cases G:b=x
 .subst G;rw[Ag]at q;cases q;show new
 .rw [Ak G]at q;by_cases U:b=e
  .have q':H b=some (.own x):=by
    rcases Y with z|z
    .show absurd (U.trans z) G
    .rw [U];show z
   rw[q]at q';cases q';obtain⟨v,hv⟩:=a2;show⟨v,by rw[U];show hv⟩
  .show (ok b u q).CC (λc v hc r=>k c v ?_ r) (λc r=>by rw[Ak (a1 c b r)];show r) λc xs r=>by rw[Ak (a4 c xs r)];show r
   rcases hc with rfl|hc
   .show U
   .rintro rfl
    rcases Y with z|z
    .show a1 c b hc z
    .rw [hc]at z;cases z;show G rfl
end
structure Un (fs ex:List Addr)(H H':Hp)(h h':Heap):Prop where
 keep:∀b o,h.get? b=some o->H b=none->b∉fs->b∉ex->h'.get? b=some o
 slot:∀b o,h.get? b=some o->H b=none->b∈fs->b∉ex->∃sl,h'.get? b=some {o with slots:=sl}
 free:∀b o,h.get? b=some o->H b=none->b∉ex->H' b=none
 there:∀b o,h.get? b=some o->b∉ex->∃o',h'.get? b=some o'
 AH:∀b xs,H b=some (.tup xs)->H' b=some (.tup xs)
 DI:∀b o u,H b=some (.EM o u)->H' b=some (.EM o u)
 DJ:∀b ps,H b=some (.FK ps)->∃more,H' b=some (.FK (ps++more))
section
def Un.any (u:Un fs ex H H1 h h1)(q:h.get? b=some G)(n:H b=none)(U:b∉ex):∃sl,h1.get? b=some {G with slots:=sl}:=by
 by_cases O:b∈fs
 .show u.slot b G q n O U
 .show⟨G.slots,u.keep b G q n O U⟩
def Un.kept (k:∀b u,h.get? b=some u->h'.get? b=some u):Un fs ex H H h h':=
 ⟨λb G q _ _ _=>k b G q,λb G q _ _ _=>⟨G.slots,k b G q⟩,λ_ _ _ n _=>n,λb G q _=>⟨G,k b G q⟩,λ_ _ q=>q,λ_ _ _ q=>q,λ_ ps q=>⟨#[],by rw[q];simp⟩⟩
def Un.refl:Un fs ex H H h h:=Un.kept λ_ _ q=>q
theorem Un.laid (k:∀b u,h.get? b=some u->h'.get? b=some u)(G:h.objs.size<=a)(hn:H a=none):Un fs ex H (upd H a o) h h' where
 keep:=λb u q _ _ _=>k b u q
 slot:=λb u q _ _ _=>⟨u.slots,k b u q⟩
 free:=λb u q n _=>by rw[Ak (JP (KA (JL q) G))];show n
 there:=λb u q _=>⟨u,k b u q⟩
 AH:=λb xs q=>by rw[Ak (Aj q hn)];show q
 DI:=λb u xs q=>by rw[Ak (Aj q hn)];show q
 DJ:=λb ps q=>⟨#[],by rw[Ak (Aj q hn),q];simp⟩
def Un.write (G:Mut (H x))(he:e=x\/H e=some (.own x))(k:∀b u,b≠e->h.get? b=some u->h'.get? b=some u)(a1:∃u,h'.get? e=some u):Un fs ex H (upd H x o) h h':=by
 have U:∀b,H b=none->b≠x:=λb n z=>by subst z;rw[n]at G;show G
 have O:∀b,H b=none->b≠e:=λb n z=>by
  subst z
  rcases he with r|r
  .show U b n r
  .rw [n]at r;cases r
 have hm:∀b u,H b=some u->¬Mut (some u)->b≠x:=λb u q nm z=>by subst z;rw[q]at G;show nm G
 show⟨λb u q n _ _=>k b u (O b n) q,λb u q n _ _=>⟨u.slots,k b u (O b n) q⟩,λb u q n _=>by rw[Ak (U b n)];show n,λb u q _=>?_,
  λb xs q=>by rw[Ak (hm b _ q λz=>z)];show q,λb u xs q=>by rw[Ak (hm b _ q λz=>z)];show q,λb ps q=>⟨#[],by rw[Ak (hm b _ q λz=>z),q];simp⟩⟩
 by_cases Y:b=e
 .subst Y;show a1
 .show⟨u,k b u Y q⟩
end
noncomputable def trk (h:Heap)(H:Hp):List Addr:=(List.range h.objs.size).filter λa=>(H a).isSome
noncomputable def Ql (h:Heap)(H:Hp):Heap:=PySem.W.hideAll h (trk h H)
def Wa (h:Heap)(H:Hp):(Ql h H).objs.size=h.objs.size:=PySem.W.hideAll_size _ _
def M2 (e:h.get? b=some o)(n:H b=none):(Ql h H).get? b=some o:=
 PySem.W.hideAll_get _ e λhm=>by
  have q:(H b).isSome=true:=(OK.mp hm).2;rw[n]at q;simp at q
def Ab9 (e:(Ql h H).get? b=some o):h.get? b=some o/\H b=none:=by
 have G:h.get? b=some o:=PySem.W.of_hideAll (trk h H) e;show⟨G,?_⟩
 cases q:H b with
 | none=>rfl
 | some x=>
  have hm:b∈trk h H:=OK.mpr ⟨List.mem_range.mpr (JL G),by simp[q]⟩;have z:(Ql h H).get? b=none:=PySem.W.hideAll_none (trk h H) hm;rw[z]at e;cases e
structure Mod (K:A3)(mg:Bv)(base:Heap):Prop where
 JB:K.In base
 glob:base.Ns mainGlobals mg
 blt:∃mb,base.Ns builtinsNs mb/\∀x:Str,x≠"__name__"->mb x=bootBuiltins x
 nolimit:base.NoLimit
structure Cx where
 prog:Program
 w:World
 K:PySem.W.Frag
 mg:Str->Option Value
 base:Heap
 A:Around
 N:List Str
 s₀:Shared
 H₀:Hp
 env:Env
 outer:List Env
 stack:List Env
 ex:List Addr
 fn:Str->Bool
 calm:Bool
 pn:List (Addr×Obj)
 xe:Value->Shared->Prop
noncomputable def CP (l:List Env):List Addr:=l.filterMap (·.frame)
abbrev Cx.fs (X:Cx):List Addr:=CP X.outer
def Vis (sc:Scope)(x:Str):Prop:=sc.names.lookup x=some .local\/sc.names.lookup x=some .cell\/sc.names.lookup x=some .free
def Loc (sc:Scope)(x:Str):Prop:=sc.names.lookup x=some .local\/sc.names.lookup x=some .cell
def Look (env:Env)(h:Heap)(m:Bv)(x:Str)(u:Value):Prop:=
 (env.kindOf x=some .local/\m x=some u)\/((env.kindOf x=some .cell\/env.kindOf x=some .free)/\∃c,env.cells.lookup x=some c/\h.IsCell c (some u))
structure Cx.Ok (X:Cx):Prop where
 mod:Mod X.K X.mg X.base
 kind:X.env.scope.kind=.function
 glob:X.env.globals=mainGlobals
 blt:X.env.builtins=builtinsNs
 above:X.s₀.heap.objs.size<=X.env.locals
 inj:∀x y c,X.env.cells.lookup x=some c->X.env.cells.lookup y=some c->x=y
 has:∀x,(X.env.kindOf x=some .cell\/X.env.kindOf x=some .free)->∃c,X.env.cells.lookup x=some c
 cab:∀x c,X.fn x=true->X.env.cells.lookup x=some c->X.s₀.heap.objs.size<=c
 hd:X.calm=true->X.A.handled=none
 frames:X.A.frames=some X.stack
 stk:X.stack=X.outer\/(X.stack=X.env::X.outer/\X.env.frame=some X.env.locals)
 exf:∀b∈X.ex,b≠X.env.locals/\∀x c,X.env.cells.lookup x=some c->c≠b
 bs:∀b o,X.base.get? b=some o->X.s₀.heap.get? b=some o/\X.H₀ b=none
 IS:X.base.objs.size<=X.s₀.heap.objs.size
 HN:∀b o,X.base.get? b=some o->b∉X.ex
 GB:∀b∈X.ex,b∉X.fs
 DY:X.s₀.heap.FunFrames X.base X.outer
 frf:∀b∈X.fs,X.H₀ b=none
structure Inv (X:Cx)(pins:Dh)(σ:List (Option V))(H:Hp)(s:Shared):Prop where
 ok:X.Ok
 os:s.os=X.s₀.os
 bare:AllBare s.gens
 base:Un X.fs X.ex X.H₀ H X.s₀.heap s.heap
 loc:∃m,s.heap.Ns X.env.locals m/\∀(i:Nat) (x:Str) (v:V),X.N[i]?=some x->σ[i]?=some (some v)->Vis X.env.scope x->∃u,RelV v u/\Look X.env s.heap m x u
 cell:∀x c,X.env.cells.lookup x=some c->∃v,s.heap.IsCell c v
 free:H X.env.locals=none
 BB:∀x c,X.env.cells.lookup x=some c->H c=none
 pin:∀p∈X.pn++pins,s.heap.get? p.1=some p.2/\H p.1=none/\p.1≠X.env.locals/\p.1∉X.fs/\∀v,p.2.data≠.cell v
 AJ:BH X.prog X.w H s.heap
 len:σ.length=X.N.length
section
variable {X:Cx}{pins:Dh}{σ:List (Option V)}{H H':Hp}{s:Shared}{h':Heap}
def Cx.Ok.nofr (ok:X.Ok)(e:X.base.get? b=some o):b∉X.fs:=λG=>by
 have:=(ok.DY.mem G).1;rw[e]at this;cases this
def Inv.bs (I:Inv X pins σ H s):∀b o,X.base.get? b=some o->s.heap.get? b=some o/\H b=none:=λb o e=>
 ⟨I.base.keep b o (I.ok.bs b o e).1 (I.ok.bs b o e).2 (I.ok.nofr e) (I.ok.HN b o e),I.base.free b o (I.ok.bs b o e).1 (I.ok.bs b o e).2 (I.ok.HN b o e)⟩
def Inv.bk (I:Inv X pins σ H s):∀b o,X.base.get? b=some o->s.heap.get? b=some o:=λb o e=>(I.bs b o e).1
def Inv.mod (I:Inv X pins σ H s):Mod X.K X.mg X.base:=I.ok.mod
def Inv.CQ (I:Inv X pins σ H s):X.K.In s.heap:=I.ok.mod.JB.keeps I.bk
def Inv.lt (I:Inv X pins σ H s):X.env.locals<s.heap.objs.size:=let ⟨_,hn,_⟩:=I.loc;hn.lt
def Inv.sz (I:Inv X pins σ H s):X.s₀.heap.objs.size<=s.heap.objs.size:=JU I.ok.above (Nat.le_of_lt I.lt)
def Inv.nofs (I:Inv X pins σ H s)(h:s.heap.objs.size<=a):a∉X.fs:=λG=>by
 show D7 (I.ok.DY.mem G) λ_ z1=>Am z1 λo ho _=>absurd (KA (JL ho) (JU I.sz h)) (LJ _)
def Inv.cne (I:Inv X pins σ H s):∀x c,X.env.cells.lookup x=some c->c≠X.env.locals:=λx c e z=>by
 show B5 (I.cell x c e) λv o ho hd=>?_;show Am I.loc λm z1 _=>?_;obtain⟨o',es,ep,O,G,_⟩:=z1;rw[z,O]at ho;cases ho;rw[G]at hd;cases hd
def Inv.DY (I:Inv X pins σ H s):s.heap.FunFrames X.base X.outer:=by
 have all:∀(l:List Env),(∀b∈CP l,b∈X.fs)->X.s₀.heap.FunFrames X.base l->s.heap.FunFrames X.base l:=by
  intro l
  induction l with
  | nil=>intro _ _;trivial
  | cons env r ih=>
   intro hs hl;show B9 hl λY z1 hr=>?_;obtain⟨L,o,U,hn,ho,hd⟩:=z1;have G:L∈X.fs:=hs L (by unfold CP;rw[NL,U];show LH);obtain⟨sl,e⟩:=I.base.slot L o ho (I.ok.frf L G) G λz=>I.ok.GB L z G;show A6 Y (Br L _ U hn e hd) (ih (λb O=>hs b (by unfold CP;rw[NL,U];show KO _ O)) hr)
 show all X.outer (λ_ O=>O) I.ok.DY
def Inv.stack (I:Inv X pins σ H s):s.heap.FunFrames X.base X.stack:=by
 rcases I.ok.stk with e|⟨e,G⟩
 .rw [e];show I.DY
 .rw [e];show Am I.loc λm hn _=>?_;show .cons (by rw[I.ok.kind];decide) G hn (OA (JU I.ok.IS I.ok.above)) I.DY
def Inv.EN (I:Inv X pins σ H s):∀b∈CP X.stack,b∈X.env.locals::X.fs:=λb G=>by
 rcases I.ok.stk with e|⟨e,O⟩
 .rw [e]at G;show KO _ G
 .rw [e]at G;unfold CP at G;rw[NL,O]at G;show G
def Inv.DG (I:Inv X pins σ H s):∀b∈CP X.stack,H b=none:=λb G=>by
 rcases JS.mp (I.EN b G)with e|G
 .rw [e];show I.free
 .show D7 (I.ok.DY.mem G) λ_ z1=>Am z1 λo ho _=>I.base.free b o ho (I.ok.frf b G) λz=>I.ok.GB b z G
def Inv.step {g':Array GenState}{t':Nat}{d':Drawn}{ch:List Addr}(I:Inv X pins σ H s)
  (a1:∀b∈ch,(b∈X.ex\/X.s₀.heap.objs.size<=b)/\b≠X.env.locals/\(∀x c,X.env.cells.lookup x=some c->c≠b)/\∀p∈X.pn++pins,p.1≠b)
  (keep:∀b o,b≠X.env.locals->b∉X.fs->b∉ch->s.heap.get? b=some o->H b=none->h'.get? b=some o)
  (slot:∀b o,b≠X.env.locals->b∈X.fs->b∉ch->s.heap.get? b=some o->H b=none->∃sl,h'.get? b=some {o with slots:=sl})(free:∀b o,b∉ch->s.heap.get? b=some o->H b=none->H' b=none)
  (there:∀b o,b∉ch->s.heap.get? b=some o->∃o',h'.get? b=some o')
  (AH:∀b xs,H b=some (.tup xs)->H' b=some (.tup xs))(DI:∀b o u,H b=some (.EM o u)->H' b=some (.EM o u))(DJ:∀b ps,H b=some (.FK ps)->∃more,H' b=some (.FK (ps++more)))
  (ns:∀m,s.heap.Ns X.env.locals m->h'.Ns X.env.locals m)(AJ:BH X.prog X.w H' h')(hg:AllBare g') :
  Inv X pins σ H' {s with heap:=h',gens:=g',drawn:=d',toks:=t'}:=by
 have a5:∀b o,X.s₀.heap.get? b=some o->b≠X.env.locals:=λb o e=>JP (KA (JL e) I.ok.above);have a4:∀b o,X.s₀.heap.get? b=some o->b∉X.ex->b∉ch:=λb o e G U=>by
  rcases(a1 b U).1 with z|z
  .show G z
  .show absurd (KA (JL e) z) (LJ _)
 have a6:∀x c,X.env.cells.lookup x=some c->∀v,s.heap.IsCell c v->h'.IsCell c v:=λx c e v ⟨o,ho,hd⟩=>by
  have a2:c∉ch:=λz=>(a1 c z).2.2.1 x c e rfl;by_cases hc:c∈X.fs
  .obtain⟨sl,q⟩:=slot c o (I.cne x c e) hc a2 ho (I.BB x c e);show Ac q hd
  .show Aq o (keep c o (I.cne x c e) hc a2 ho (I.BB x c e)) hd
 show⟨I.ok,I.os,hg,⟨λb o e n U G=>?_,λb o e n U G=>?_,λb o e n G=>?_,λb o e G=>?_,λb xs e=>AH b xs (I.base.AH b xs e),λb o xs e=>DI b o xs (I.base.DI b o xs e),λb ps e=>?_⟩,?_,λx c e=>?_,?_,λx c e=>?_,λp hp=>?_,AJ,I.len⟩
 .show keep b o (a5 b o e) U (a4 b o e G) (I.base.keep b o e n U G) (I.base.free b o e n G)
 .obtain⟨sl,O⟩:=I.base.slot b o e n U G;obtain⟨a7,Y⟩:=slot b _ (a5 b o e) U (a4 b o e G) O (I.base.free b o e n G);show⟨a7,Y⟩
 .obtain⟨o',O⟩:=I.base.there b o e G;show free b o' (a4 b o e G) O (I.base.free b o e n G)
 .obtain⟨o',O⟩:=I.base.there b o e G;show there b o' (a4 b o e G) O
 .obtain⟨m1,O⟩:=I.base.DJ b ps e;obtain⟨m2,Y⟩:=DJ b _ O;show⟨m1++m2,by rw[Y,Array.append_assoc]⟩
 .show Am I.loc λm hn hl=>Aq m (ns m hn) λi x v O Y e3=>Am (hl i x v O Y e3) λu r l=>Aq u r ?_
  rcases l with l|⟨k,c,e,z⟩
  .show .inl l
  .show .inr ⟨k,(Aq c e (a6 x c e _ z))⟩
 .obtain⟨v,z⟩:=I.cell x c e;show⟨v,a6 x c e v z⟩
 .show Am I.loc λm z1 _=>?_;obtain⟨o,_,_,ho,_⟩:=z1;show free _ o (λz=>(a1 _ z).2.1 rfl) ho I.free
 .show B5 (I.cell x c e) λv o ho hd=>free c o (λz=>(a1 c z).2.2.1 x c e rfl) ho (I.BB x c e)
 .show Js (I.pin p hp) λe n ne nf d=>?_;have a2:p.1∉ch:=λz=>(a1 p.1 z).2.2.2 p hp rfl;show Fq (keep p.1 p.2 ne nf a2 e n) (free p.1 p.2 a2 e n) ne nf d
def Inv.un (I:Inv X pins σ H s)(u:Un X.fs [] H H' s.heap h')(AJ:BH X.prog X.w H' h'):Inv X pins σ H' {s with heap:=h',toks:=t'}:=by
 show Am (id I.loc) λm z1 _=>?_;obtain⟨o,es,ep,ho,r⟩:=z1;obtain⟨sl,U⟩:=u.any ho I.free (by simp)
 show I.step (g':=s.gens) (d':=s.drawn) (ch:=[]) (λ_ z=>nomatch z) (λb o _ G _ e n=>u.keep b o e n G (by simp)) (λb o _ G _ e n=>u.slot b o e n G (by simp)) (λb o _ e n=>u.free b o e n (by simp)) (λb o _ e=>u.there b o e (by simp)) u.AH u.DI u.DJ (λm' hm=>by
  show Da hm λo' a2 a1 O Y=>?_;rw[ho]at O;cases O
  show(Ht _ a2 a1 U Y)) AJ I.bare
def Inv.call (I:Inv X pins σ H s)(u:Un (CP X.stack) ch H H' s.heap h')(AJ:BH X.prog X.w H' h')(hg:AllBare g')
  (O:∀b∈ch,(b∈X.ex\/X.s₀.heap.objs.size<=b)/\b≠X.env.locals/\(∀x c,X.env.cells.lookup x=some c->c≠b)/\∀p∈X.pn++pins,p.1≠b) :
  Inv X pins σ H' {s with heap:=h',gens:=g',drawn:=d',toks:=t'}:=by
 show Am (id I.loc) λm z1 _=>?_;obtain⟨o,es,ep,ho,r⟩:=z1;obtain⟨sl,G⟩:=u.any ho I.free λz=>(O _ z).2.1 rfl
 show I.step (ch:=ch) O (λb o G Y hc e n=>u.keep b o e n (λz=>(JS.mp (I.EN b z)).elim G Y) hc) (λb o _ _ hc e n=>u.any e n hc) (λb o hc e n=>u.free b o e n hc) (λb o hc e=>u.there b o e hc) u.AH u.DI u.DJ (λm' hm=>by
  show Da hm λo' a2 a1 U r'=>?_;rw[ho]at U;cases U
  show(Ht _ a2 a1 G r')) AJ hg
def Inv.turned (I:Inv X pins σ H s)(k:∀b o,b≠it->s.heap.get? b=some o->h'.get? b=some o)(hn:H it=none)(G:it≠X.env.locals)
  (h1:it∈X.ex\/X.s₀.heap.objs.size<=it)(h2:∀x c,X.env.cells.lookup x=some c->c≠it)(U:∀p∈X.pn++pins,p.1≠it):Inv X pins σ H {s with heap:=h',toks:=t'}:=by
 have O:∀b u,H b=some u->b≠it:=λb u e z=>by rw[z,hn]at e;cases e
 show I.step (g':=s.gens) (d':=s.drawn) (ch:=[it]) (λb Y=>?_) (λb o _ _ hc e _=>k b o (λz=>hc (by simp[z])) e) (λb o _ _ hc e _=>⟨o.slots,k b o (λz=>hc (by simp[z])) e⟩) (λ_ _ _ _ n=>n)
  (λb o hc e=>⟨o,k b o (λz=>hc (by simp[z])) e⟩) (λ_ _ e=>e) (λ_ _ _ e=>e) (λb ps e=>⟨#[],by rw[e];simp⟩) (λm hm=>?_) (λb u e=>?_) I.bare
 .have e:b=it:=by simpa using Y
  subst e;show C9 h1 G h2 U
 .show Da hm λo es ep ho r=>Ht o es ep (k _ o (ML G) ho) r
 .show (I.AJ b u e).CC (λc v hc q=>k c v ?_ q) (λ_ q=>q) λ_ _ q=>q
  rcases hc with z|z
  .rw [z];show O b u e
  .show O c _ z
def Inv.tok (I:Inv X pins σ H s)(t:Nat):Inv X pins σ H {s with toks:=t}:=I.un (h':=s.heap) (t':=t) Un.refl I.AJ
def Inv.kept (I:Inv X pins σ H s)(k:∀b u,s.heap.get? b=some u->h'.get? b=some u):Inv X pins σ H {s with heap:=h',toks:=t'}:=I.un (Un.kept k) (I.AJ.kept k)
def Inv.laid (I:Inv X pins σ H s)(k:∀b u,s.heap.get? b=some u->h'.get? b=some u)(G:s.heap.objs.size<=a)(new:AL X.prog X.w (upd H a o) h' a o) :
  Inv X pins σ (upd H a o) {s with heap:=h',toks:=t'}:=I.un (Un.laid k G (I.AJ.fresh G)) (I.AJ.laid k G new)
def Inv.write (I:Inv X pins σ H s)(O:Mut (H x))(G:e=x\/H e=some (.own x))(k:∀b u,b≠e->s.heap.get? b=some u->h'.get? b=some u)(U:∃u,h'.get? e=some u)
  (new:AL X.prog X.w (upd H x o) h' x o):Inv X pins σ (upd H x o) {s with heap:=h',toks:=t'}:=I.un (Un.write O G k U) (I.AJ.write O G k U new)
def Inv.IV (I:Inv X pins σ H s)(h:∀p∈O,s.heap.get? p.1=some p.2/\H p.1=none/\p.1≠X.env.locals/\p.1∉X.fs/\∀v,p.2.data≠.cell v):Inv X O σ H s:=
 ⟨I.ok,I.os,I.bare,I.base,I.loc,I.cell,I.free,I.BB,λp G=>(KU.mp G).elim (λz=>I.pin p (LX _ z)) (h p),I.AJ,I.len⟩
def Mu {N:List Str}(U:N.Nodup){i j:Nat}{x:Str}(a:N[i]?=some x)(b:N[j]?=some x):i=j:=by
 obtain⟨h1,G⟩:=List.getElem?_eq_some_iff.mp a;obtain⟨h2,O⟩:=List.getElem?_eq_some_iff.mp b;show(List.getElem_inj U).mp (G.trans O.symm)
abbrev T9 (X:Cx)(x:Str):Prop:=X.fn x=true\/X.env.scope.names.lookup x=some .local
def Iq {E:Bf}{Q:Ju}(I:Inv X pins σ H s)(hN:X.N.Nodup)(hi:X.N[i]?=some x)(O:Loc X.env.scope x)(r:RelV v u)
  (h:∀s',Inv X pins (σ.set i (some v)) H s'->(∃a,Heap.SameBut a s.heap s'.heap/\(a=X.env.locals\/X.env.cells.lookup x=some a))->Q () s')(hf:T9 X x:=by first|show .inl rfl|show .inr rfl|assumption):wpAny M A (storeName X.env x u) Q E s:=by
 show Am (id I.loc) λm hn hl=>?_;have aB:(X.env.scope.kind==.class||(X.env.scope.kind==.module&&X.env.locals !=X.env.globals))=false:=by rw[I.ok.kind];rfl
 have a5:i<σ.length:=by rw[I.len];show(List.getElem?_eq_some_iff.mp hi).1
 have cne:=I.cne;have a8:∀{a:Addr} {h':Heap},(∃o,s.heap.get? a=some o/\H a=none)->Heap.SameBut a s.heap h'->BH X.prog X.w H h':=fun {a h'} ha hs b ob e=>by
  show Am ha λ_ _ a7=>(I.AJ b ob e).CC (λc w' hc q=>(hs.2 c ?_).trans q) (λ_ q=>q) λ_ _ q=>q;rintro rfl
  rcases hc with rfl|hc
  .rw [a7]at e;cases e
  .rw [a7]at hc;cases hc
 rcases O with Y|Y
 .show wpAny_storeName_local Y hn (λh' a9 hs=>(Da (id hn) λoL _ _ aA _=>(h _ ⟨I.ok,I.os,I.bare,⟨λb o e n hb O=>?_,λb o e n hb O=>?_,I.base.free,λb o e O=>?_,I.base.AH,I.base.DI,I.base.DJ⟩,(Ac a9 λj y v' G U e3=>?_),λy c e=>?_,I.free,I.BB,λp hp=>?_,a8 (Aq oL aA I.free) hs,by simpa using I.len⟩ (Ac hs (.inl rfl))))) aB
  .show (hs.2 b (JP (KA (JL e) I.ok.above))).trans (I.base.keep b o e n hb O)
  .obtain⟨sl,G⟩:=I.base.slot b o e n hb O;show⟨sl,(hs.2 b (JP (KA (JL e) I.ok.above))).trans G⟩
  .obtain⟨o',G⟩:=I.base.there b o e O;show⟨o',(hs.2 b (JP (KA (JL e) I.ok.above))).trans G⟩
  .by_cases hj:j=i
   .subst hj;rw[hi]at G;cases G;rw[List.getElem?_set_self a5]at U;cases U;show Aq u r (.inl ⟨Y,by simp⟩)
   .rw [List.getElem?_set_ne (ML hj)]at U;show Am (hl j y v' G U e3) λu' r' q=>Aq u' r' ?_;rcases q with⟨k,e⟩|⟨k,c,e,z⟩
    .show .inl ⟨k,?_⟩;have:y≠x:=λe=>hj (Mu hN G (e▸hi));simp[this,e]
    .show .inr ⟨k,(Aq c e (z.sameBut hs (cne y c e)))⟩
  .obtain⟨w',z⟩:=I.cell y c e;show⟨w',z.sameBut hs (cne y c e)⟩
  .show Js (I.pin p hp) λe n ne nf d=>Fq ((hs.2 p.1 ne).trans e) n ne nf d
 .have a1:X.fn x=true:=by
   rcases hf with z|z
   .show z
   .rw [z]at Y;cases Y
  obtain⟨c,hc⟩:=I.ok.has x (.inl Y);obtain⟨w',z⟩:=I.cell x c hc;show wpAny_storeName_cell I.ok.kind Y hc z (λh' a2 hs=>Am (id z) λoc a6 aC=>h {s with heap:=h'} ⟨I.ok,I.os,I.bare,⟨λb o e n hb O=>?_,λb o e n hb O=>?_,I.base.free,λb o e O=>?_,I.base.AH,I.base.DI,I.base.DJ⟩,(Aq m (hn.sameBut hs (ML (cne x c hc))) λj y v' G U e3=>?_),λy c' e=>?_,I.free,I.BB,λp hp=>?_,a8 (Aq oc a6 (I.BB x c hc)) hs,by simpa using I.len⟩ (Aq c hs (.inr hc)))
  .show (hs.2 b (JP (KA (JL e) (I.ok.cab x c a1 hc)))).trans (I.base.keep b o e n hb O)
  .obtain⟨sl,G⟩:=I.base.slot b o e n hb O;show⟨sl,(hs.2 b (JP (KA (JL e) (I.ok.cab x c a1 hc)))).trans G⟩
  .obtain⟨o',G⟩:=I.base.there b o e O;show⟨o',(hs.2 b (JP (KA (JL e) (I.ok.cab x c a1 hc)))).trans G⟩
  .by_cases hj:j=i
   .subst hj;rw[hi]at G;cases G;rw[List.getElem?_set_self a5]at U;cases U;show Aq u r (.inr ⟨.inl Y,(Aq c hc a2)⟩)
   .rw [List.getElem?_set_ne (ML hj)]at U;show Am (hl j y v' G U e3) λu' r' q=>Aq u' r' ?_
    rcases q with q|⟨k,c',e,z'⟩
    .show .inl q
    .show .inr ⟨k,(Aq c' e (z'.sameBut hs ?_))⟩;rintro rfl;show hj (Mu hN G (I.ok.inj _ _ _ e hc▸hi))
  .by_cases a4:c'=c
   .subst a4;show⟨_,a2⟩
   .obtain⟨w2,z2⟩:=I.cell y c' e;show⟨w2,z2.sameBut hs a4⟩
  .show Js (I.pin p hp) λe n ne nf d=>Fq ((hs.2 p.1 ?_).trans e) n ne nf d;intro q;rw[q,a6]at e;have q':oc=p.2:=KC e;show d w' (by rw[← q'];show aC)
def Ly {E:Bf}{Q:Ju}(I:Inv X pins σ H s)(O:X.N.Nodup)(hi:X.N[i]?=some x)(Y:Loc X.env.scope x)(r:RelV v u)
  (h:∀s',Inv X pins (σ.set i (some v)) H s'->Q () s')(U:T9 X x:=by first|show .inl rfl|show .inr rfl|assumption):wpAny M A (storeName X.env x u) Q E s:=
 Iq I O hi Y r (λs' G _=>h s' G) U
def Inv.GK (I:Inv X pins σ H s)(ho:s'.os=s.os)(u:Un (CP X.stack) ch H H' s.heap s'.heap)(AJ:BH X.prog X.w H' s'.heap)(G:AllBare s'.gens)
  (O:∀b∈ch,(b∈X.ex\/X.s₀.heap.objs.size<=b)/\b≠X.env.locals/\(∀x c,X.env.cells.lookup x=some c->c≠b)/\∀p∈X.pn++pins,p.1≠b):Inv X pins σ H' s':=by
 obtain⟨h',g',d',t',o'⟩:=s';have e:o'=s.os:=ho;subst e;show I.call (g':=g') (t':=t') (d':=d') u AJ G O
end
abbrev XK:=Value->Option Addr->Hp->Prop
abbrev St:=List (Option V)
abbrev VK:=V->Hp->Prop
abbrev TE:=St->Hp->VK->Prop
abbrev TT:=St->Hp->(Bool->Hp->Prop)->Prop
abbrev TA:=St->Hp->(List V->Hp->Prop)->Prop
structure Ends where
 nx:St->Hp->Prop
 rt:VK
 bk:St->Hp->Prop:=λ_ _=>False
 ct:St->Hp->Prop:=λ_ _=>False
abbrev TS:=Ends->St->Hp->Prop
def EP (X:Cx)(pins:Dh)(σ:St)(Q:VK)(u:Value)(s':Shared):Prop:=∃v H',Inv X pins σ H' s'/\RelV v u/\Q v H'
def TP (X:Cx)(pins:Dh)(σ:St)(Q:Bool->Hp->Prop)(b:Bool)(s':Shared):Prop:=∃H',Inv X pins σ H' s'/\Q b H'
def AP (X:Cx)(pins:Dh)(σ:St)(Q:List V->Hp->Prop)(us:List Value)(s':Shared):Prop:=∃vs H',Inv X pins σ H' s'/\AF vs us/\Q vs H'
def SP (X:Cx)(pins:Dh)(D:Ends)(f:Flow)(s':Shared):Prop:=
 match f with
 | .next=>∃σ' H',Inv X pins σ' H' s'/\D.nx σ' H'
 | .brk=>∃σ' H',Inv X pins σ' H' s'/\D.bk σ' H'
 | .cont=>∃σ' H',Inv X pins σ' H' s'/\D.ct σ' H'
 | .ret u=>∃v σ' H',Inv X pins σ' H' s'/\RelV v u/\D.rt v H'
def PE (X:Cx)(e:Expr)(t:TE):Prop:=
 ∀(pins:Dh) (s:Shared) (σ:St) (H:Hp) (Q:VK),Inv X pins σ H s->t σ H Q->wpAny (model X.prog X.w) X.A (eval e X.env) (EP X pins σ Q) X.xe s
def PT (X:Cx)(e:Expr)(t:TT):Prop:=
 ∀(pins:Dh) (s:Shared) (σ:St) (H:Hp) (Q:Bool->Hp->Prop),Inv X pins σ H s->t σ H Q->wpAny (model X.prog X.w) X.A (isTrue e X.env (eval e X.env)) (TP X pins σ Q) X.xe s
def PW (X:Cx)(e:Expr)(t:TT):Prop:=
 ∀(whole:Sem Value) (pins:Dh) (s:Shared) (σ:St) (H:Hp) (Q:Bool->Hp->Prop),Inv X pins σ H s->t σ H Q->wpAny (model X.prog X.w) X.A (isTrue e X.env whole) (TP X pins σ Q) X.xe s
def PW.pt (h:PW X e t):PT X e t:=h _
def PA (X:Cx)(es:List Expr)(t:TA):Prop:=
 ∀(pos:Pos) (pins:Dh) (s:Shared) (σ:St) (H:Hp) (Q:List V->Hp->Prop),Inv X pins σ H s->t σ H Q->wpAny (model X.prog X.w) X.A (spliced (backTo pos (starEach es X.env))) (AP X pins σ Q) X.xe s
def PS (X:Cx)(st:Stmt)(t:TS):Prop:=
 ∀(pins:Dh) (s:Shared) (σ:St) (H:Hp) (D:Ends),Inv X pins σ H s->t D σ H->wpAny (model X.prog X.w) X.A (exec st X.env) (SP X pins D) X.xe s
def HU (X:Cx)(st:List Stmt)(t:TS):Prop:=
 ∀(pins:Dh) (s:Shared) (σ:St) (H:Hp) (D:Ends),Inv X pins σ H s->t D σ H->wpAny (model X.prog X.w) X.A (execs st X.env) (SP X pins D) X.xe s
def AE {α:Type}{t:Sem α}{Q G:α->Shared->Prop}{M:Model}{A:Around}{E:Bf}(h:wpAny M A t Q E s)(O:∀a s,Q a s->G a s):wpAny M A t G E s:=LB h O λ_ _ x=>x
section
variable {X:Cx}
def La (i:Nat):TE:=λσ H Q=>∃v,σ[i]?=some (some v)/\Q v H
def tC (v:V):TE:=λ_ H Q=>Q v H
abbrev Di (x:Str):Prop:=(x==("__debug__":Str))=false
def Pw (U:X.N[i]?=some x)(Y:Vis X.env.scope x)(hd:Di x:=by decide)(a1:(x==("__classdict__":Str))=false:=by decide):PE X (.Name x pos) (La i):=by
 intro pins s σ H Q I h;obtain⟨v,e,h⟩:=h;obtain⟨m,hn,hl⟩:=I.loc;obtain⟨u,r,l⟩:=hl i x v U e Y;have fin:EP X pins σ Q u s:=⟨v,H,I,r,h⟩;rcases l with⟨G,hm⟩|⟨G,c,hc,O⟩
 .show wpAny_Name (wpAny_loadName_local I.ok.kind G hn hm fin) hd
 .rcases G with G|G
  .show wpAny_Name (wpAny_loadName_cell I.ok.kind G hc O fin) hd
  .show wpAny_Name (wpAny_loadName_free I.ok.kind G hc O fin a1) hd
def pe_int {i j pos}:PE X (.Constant (.int i) j pos) (tC (.int i)):=λ_ _ _ H _ I h=>wpAny_Constant_int (Aw (.int i) H (I.tok _) ⟨_,rfl⟩ h)
def pe_bl {b j pos}:PE X (.Constant (.bool b) j pos) (tC (.bl b)):=λ_ _ _ H _ I h=>Constant_bool (Aw (.bl b) H I rfl h)
def pe_non {j pos}:PE X (.Constant .none j pos) (tC .AQ):=λ_ _ _ H _ I h=>Constant_none (Aw .AQ H I rfl h)
def pe_str {x j pos}:PE X (.Constant (.str x) j pos) (tC (.str x)):=λ_ _ _ H _ I h=>Calls.Constant_str (Aw (.str x) H (I.tok _) ⟨_,rfl⟩ h)
def Gl (X:Cx)(x:Str):Prop:=X.env.kindOf x=some .globalImplicit
def Fv {E:Bf}{Q:Bf}(I:Inv X pins σ H s)(G:Gl X x)(hm:X.mg x=some u)(h:Q u s)
  (hd:Di x:=by decide):wpAny (model X.prog X.w) X.A (eval (.Name x pos) X.env) Q E s:=
 Calls.Name_function_global I.ok.kind G (Calls.loadGlobal_global (by rw[I.ok.glob];show I.mod.glob.keeps I.bk) hm h) hd
def Hs {E:Bf}{Q:Bf}(I:Inv X pins σ H s)(G:Gl X x)(hm:X.mg x=none)(O:bootBuiltins x=some u)(h:Q u s)
  (hn:x≠"__name__":=by decide)(hd:Di x:=by decide):wpAny (model X.prog X.w) X.A (eval (.Name x pos) X.env) Q E s:=by
 show Am I.mod.blt λmb h1 h2=>?_;show Calls.Name_function_global I.ok.kind G (Calls.loadGlobal_builtin (by rw[I.ok.glob];show I.mod.glob.keeps I.bk) hm (by rw[I.ok.blt];show h1.keeps I.bk) ((h2 x hn).trans O) h) hd
def Ut (G:Gl X x)(hm:X.mg x=some u)(r:RelV v u)(hd:Di x:=by decide):PE X (.Name x pos) (tC v):=
 λ_ _ _ H _ I h=>Fv I G hm (Aw v H I r h) hd
def Ab5 (G:Gl X x)(hm:X.mg x=none)(O:bootBuiltins x=some u)(r:RelV v u)(hn:x≠"__name__":=by decide)(hd:Di x:=by decide):PE X (.Name x pos) (tC v):=
 λ_ _ _ H _ I h=>Hs I G hm O (Aw v H I r h) hn hd
variable {a b:Expr}{ta tb:TE}{pos:Pos}
def PC (X:Cx)(op:CmpOp)(a b:Expr)(t:TE):Prop:=
 ∀(pins:Dh) (s:Shared) (σ:St) (H:Hp) (Q:VK),Inv X pins σ H s->t σ H Q ->
  wpAny (model X.prog X.w) X.A (eval a X.env) (λv G=>wpAny (model X.prog X.w) X.A (eval b X.env) (λu O=>wpAny (model X.prog X.w) X.A (compareOp op v u) (EP X pins σ Q) X.xe O) X.xe G) X.xe s
def tB (t:TE):TT:=λσ H Q=>t σ H λx H1=>∃c,x=.bl c/\Q c H1
def S8 (h:PC X op a b t)(h1:behindInMarks op b=false:=by first|show O _ (by decide) (by decide)|rfl):PE X (.Compare a [op] [b] pos) t:=λpins s σ H Q I G=>wpAny_Compare1 (h pins s σ H Q I G) h1
def Pu (h:PC X op a b t)(h1:behindInMarks op b=false:=by first|show a1 _ (by decide) (by decide)|rfl):PT X (.Compare a [op] [b] pos) (tB t):=by
 intro pins s σ H Q I O;show wpAny_isTrue_Compare1 (AE (h pins s σ H _ I O) λv s1 h1=>AE h1 λu s2 h2=>AE h2 λc Y ⟨x,H1,G,r1,U⟩=>?_) h1;show Am U λd z1 q=>?_;subst z1;cases r1;show LQ (Aq H1 G q)
def pt_val (h:PE X e t)(O:∀whole,isTrue e X.env whole=(do let v ← whole;standAt e.pos;holding [v] (truthy v)):=by intro _;rfl):PT X e (tB t):=by
 intro pins s σ H Q I U;show isTrue_plain (AE (h pins s σ H _ I U) λv s1 ⟨x,H1,G,r1,Y⟩=>?_) (O _);show Am Y λd z1 q=>?_;subst z1;cases r1;show LQ (Aq H1 G q)
variable {tA tB':TT}{rest:List Expr}
def tAnd (t u:TT):TT:=λσ H Q=>t σ H λc H1=>if c=true then u σ H1 Q else Q false H1
def tOr (t u:TT):TT:=λσ H Q=>t σ H λc H1=>if c=true then Q true H1 else u σ H1 Q
def tNot (t:TT):TT:=λσ H Q=>t σ H λc H1=>Q (!c) H1
def Z3 (ha:PT X a tA):PW X (.BoolOp .And [a] pos) tA:=by
 intro G pins s σ H Q I h;show isTrue_and (AE (ha pins s σ H Q I h) λc s1 e=>?_)
 cases c with
 | true=>show isTrue_and_nil e
 | false=>show e
def pw_or1 (ha:PT X a tA):PW X (.BoolOp .Or [a] pos) tA:=by
 intro G pins s σ H Q I h;show isTrue_or (AE (ha pins s σ H Q I h) λc s1 e=>?_)
 cases c with
 | false=>show isTrue_or_nil e
 | true=>show e
def pw_and (ha:PT X a tA)(U:PW X (.BoolOp .And (b::rest) pos) tB'):PW X (.BoolOp .And (a::b::rest) pos) (tAnd tA tB'):=by
 intro Y pins s σ H Q I h;show isTrue_and (AE (ha pins s σ H _ I h) λc s1 ⟨H1,G,O⟩=>?_)
 cases c with
 | true=>show U Y pins s1 σ H1 Q G O
 | false=>show Aq H1 G O
def pw_or (ha:PT X a tA)(U:PW X (.BoolOp .Or (b::rest) pos) tB'):PW X (.BoolOp .Or (a::b::rest) pos) (tOr tA tB'):=by
 intro Y pins s σ H Q I h;show isTrue_or (AE (ha pins s σ H _ I h) λc s1 ⟨H1,G,O⟩=>?_)
 cases c with
 | true=>show Aq H1 G O
 | false=>show U Y pins s1 σ H1 Q G O
def pt_not (ha:PT X a tA):PT X (.UnaryOp .Not a pos) (tNot tA):=by
 intro pins s σ H Q I h;show isTrue_not (ha pins s σ H (λc H1=>Q (!c) H1) I h)
def Af2 (ta tb:TE):TE:=λσ H Q=>ta σ H λx H1=>∃c,x=.bl c/\if c=true then tb σ H1 Q else Q (.bl false) H1
def tOrV (ta tb:TE):TE:=λσ H Q=>ta σ H λx H1=>∃c,x=.bl c/\if c=true then Q (.bl true) H1 else tb σ H1 Q
def Ae6 (ta:TE):TE:=λσ H Q=>ta σ H λx H1=>∃c,x=.bl c/\Q (.bl (!c)) H1
def pe_one {op}(h:PE X a t):PE X (.BoolOp op [a] pos) t:=λpins s σ H Q I G=>BoolOp_one (h pins s σ H Q I G)
def pe_and (ha:PE X a ta)(U:PE X (.BoolOp .And (b::rest) pos) tb):PE X (.BoolOp .And (a::b::rest) pos) (Af2 ta tb):=by
 intro pins s σ H Q I h;show BoolOp_and (AE (ha pins s σ H _ I h) λv s1 ⟨x,H1,O,r1,G⟩=>?_);obtain⟨c,rfl,G⟩:=G;cases r1;show LQ ?_
 cases c with
 | true=>show U pins s1 σ H1 Q O G
 | false=>show Aw (.bl false) H1 O rfl G
def pe_or (ha:PE X a ta)(U:PE X (.BoolOp .Or (b::rest) pos) tb):PE X (.BoolOp .Or (a::b::rest) pos) (tOrV ta tb):=by
 intro pins s σ H Q I h;show BoolOp_or (AE (ha pins s σ H _ I h) λv s1 ⟨x,H1,O,r1,G⟩=>?_);obtain⟨c,rfl,G⟩:=G;cases r1;show LQ ?_
 cases c with
 | false=>show U pins s1 σ H1 Q O G
 | true=>show Aw (.bl true) H1 O rfl G
def pe_not (ha:PE X a ta):PE X (.UnaryOp .Not a pos) (Ae6 ta):=by
 intro pins s σ H Q I h;show UnaryOp_ (AE (ha pins s σ H _ I h) λv s1 ⟨x,H1,O,r1,G⟩=>?_);obtain⟨c,rfl,G⟩:=G;cases r1;show not_of (LQ ⟨.bl (!c),H1,O,rfl,G⟩)
def tIf (t:TT)(ta tb:TE):TE:=λσ H Q=>t σ H λc H1=>if c=true then ta σ H1 Q else tb σ H1 Q
def Ye (hc:PT X c tA)(ha:PE X a ta)(U:PE X b tb):PE X (.IfExp c a b pos) (tIf tA ta tb):=by
 intro pins s σ H Q I h;show wpAny_IfExp (AE (hc pins s σ H _ I h) λd s1 ⟨H1,G,O⟩=>?_)
 cases d with
 | true=>show ha pins s1 σ H1 Q G O
 | false=>show U pins s1 σ H1 Q G O
end
def AK (K:A3)(H:Hp)(a:Addr)(xs:List V):Prop:=
 Rd H a (.lst xs) \/
  ∃(o:Obj) (its:Array Value) (n:Nat),K.lookup a=some o/\o.cls=.type "list"/\o.dict=none/\o.data=.seq its n/\its.size<=sizeLine/\AF xs its.toList
def AC (K:A3)(H:Hp)(a:Addr)(xs:List V):Prop:=
 Rd H a (.tup xs) \/
  ∃(o:Obj) (its:Array Value) (n:Nat),K.lookup a=some o/\o.cls=.type "tuple"/\o.data=.seq its n/\its.size<=sizeLine/\AF xs its.toList
noncomputable def absV:Value->Option V
 | .none=>some .AQ
 | .bool b=>some (.bl b)
 | .int i _=>some (.int i)
 | .str x _=>some (.str x)
 | .bytes b _=>some (.JE b)
 | .float b _=>some (.flt b)
 | .ref a=>some (.ref a)
 | .type n=>some (.ty n)
 | _=>none
def RelV.abs (r:RelV x u):absV u=some x:=by
 cases x with
 | AQ=>cases r;rfl
 | bl _=>cases r;rfl
 | int _=>obtain⟨t,rfl⟩:=r;rfl
 | str _=>obtain⟨t,rfl⟩:=r;rfl
 | JE _=>obtain⟨t,rfl⟩:=r;rfl
 | flt _=>obtain⟨t,rfl⟩:=r;rfl
 | ref _=>cases r;rfl
 | ty _=>cases r;rfl
def RelV.inj (r:RelV x u)(q:RelV y u):x=y:=KC (r.abs.symm.trans q.abs)
theorem AF.inj:∀{xs ys:List V} {us:List Value},AF xs us->AF ys us->xs=ys
 | _,_,_,.nil,.nil=>rfl
 | _,_,_,.cons r t,.cons G t'=>by rw[r.inj G,AF.inj t t']
section
def AK.of {K:A3}(h:H a=some (.lst xs)):AK K H a xs:=.inl (.inl h)
def AC.of {K:A3}(h:H a=some (.tup xs)):AC K H a xs:=.inl (.inl h)
def Inv.list (I:Inv X pins σ H s)(h:AK X.K H a xs):∃its:List Value,AF xs its/\PlainL s.heap a its.toArray/\xs.length<=sizeLine:=by
 rcases h with h|⟨o,its,n,G,hc,hd,hs,hz,r⟩
 .show D7 (h.ok I.AJ) λz z1=>B5 z1 λits n r e=>Bc its r (Br _ n e rfl rfl rfl) z
 .show Bc its.toList r (Br o n (I.CQ a o G) hc hd (by simpa using hs)) ?_;have e:=r.length;simp only[Array.length_toList]at e;omega
def Inv.tuple (I:Inv X pins σ H s)(h:AC X.K H a xs):∃its:List Value,AF xs its/\IsTup s.heap a its.toArray/\xs.length<=sizeLine:=by
 rcases h with h|⟨o,its,n,G,hc,hs,hz,r⟩
 .show D7 (h.ok I.AJ) λz z1=>Am z1 λits r p=>Bc its r p z.1
 .show Bc its.toList r (Bc o (I.CQ a o G) hc ⟨n,by simpa using hs⟩) ?_;have e:=r.length;simp only[Array.length_toList]at e;omega
def Inv.HQ (I:Inv X pins σ H s)(h:AK X.K H a xs)(h':AK X.K H a ys):xs=ys:=by
 show Bp (I.list h) λits r z1 _=>?_;obtain⟨o,n,e,_,_,d⟩:=z1;show Bp (I.list h') λits' U z1 _=>?_;obtain⟨o',Y,G,_,_,d'⟩:=z1;rw[e]at G;cases G;rw[d]at d'
 injection d' with O _
 have:its=its':=by simpa using LR Array.toList O
 subst this;show r.inj U
def Inv.GJ (I:Inv X pins σ H s)(h:AC X.K H a xs)(h':AC X.K H a ys):xs=ys:=by
 show Bp (I.tuple h) λits r z1 _=>?_;obtain⟨o,e,_,n,d⟩:=z1;show Bp (I.tuple h') λits' U z1 _=>?_;obtain⟨o',G,_,Y,d'⟩:=z1;rw[e]at G;cases G;rw[d]at d'
 injection d' with O _
 have:its=its':=by simpa using LR Array.toList O
 subst this;show r.inj U
end
abbrev Cx.GA (X:Cx)(E:Bf):Cx:={X with xe:=E}
abbrev Cx.nox (X:Cx):Cx:=X.GA λ_ _=>False
def Cx.Ok.GA {X:Cx}(ok:X.Ok)(E:Bf):(X.GA E).Ok:=
 ⟨ok.mod,ok.kind,ok.glob,ok.blt,ok.above,ok.inj,ok.has,ok.cab,ok.hd,ok.frames,ok.stk,ok.exf,ok.bs,ok.IS,ok.HN,ok.GB,ok.DY,ok.frf⟩
def Cx.Ok.DB {X:Cx}{E:Bf}(ok:(X.GA E).Ok):X.Ok:=
 ⟨ok.mod,ok.kind,ok.glob,ok.blt,ok.above,ok.inj,ok.has,ok.cab,ok.hd,ok.frames,ok.stk,ok.exf,ok.bs,ok.IS,ok.HN,ok.GB,ok.DY,ok.frf⟩
section
variable {E:Bf}
def Inv.GA (I:Inv X pins σ H s)(E:Bf):Inv (X.GA E) pins σ H s:=⟨I.ok.GA E,I.os,I.bare,I.base,I.loc,I.cell,I.free,I.BB,I.pin,I.AJ,I.len⟩
def Inv.DB (I:Inv (X.GA E) pins σ H s):Inv X pins σ H s:=⟨I.ok.DB,I.os,I.bare,I.base,I.loc,I.cell,I.free,I.BB,I.pin,I.AJ,I.len⟩
def SP.DB (h:SP (X.GA E) pins D f s'):SP X pins D f s':=by
 cases f with
 | next=>show B5 h λσ' H' I q=>?_;show Ce σ' H' I.DB q
 | brk=>show B5 h λσ' H' I q=>?_;show Ce σ' H' I.DB q
 | cont=>show B5 h λσ' H' I q=>?_;show Ce σ' H' I.DB q
 | ret u=>show Gp h λv σ' H' I r q=>?_;show Qi v σ' H' I.DB r q
def HU.nox {st:List Stmt}{t:TS}(h:HU X.nox st t):HU X st t:=λpins s σ H D I G=>
 LB (h pins s σ H D (I.GA _) G) (λ_ _ q=>q.DB) λ_ _ z=>False.elim z
end
section
variable {X:Cx}{st:Stmt}{rest:List Stmt}{t u:TS}{e:Expr}{te:TE}{pos:Pos}
def Xb:TS:=λD σ H=>D.nx σ H
def Zp (t u:TS):TS:=λD σ H=>t {D with nx:=u D} σ H
def Z7:HU X [] Xb:=λ_ _ σ H _ I h=>OL (Ce σ H I h)
def X4 (h1:PS X st t)(h2:HU X rest u):HU X (st::rest) (Zp t u):=by
 intro pins s σ H D I h;show wpAny_execs_cons (AE (h1 pins s σ H {D with nx:=u D} I h) λf s1 q=>?_)
 cases f with
 | next=>
  obtain⟨σ',H',G,q⟩:=q;show h2 pins s1 σ' H' D G q
 | ret v=>show q
 | brk=>show q
 | cont=>show q
def Us (h1:PS X st t):HU X [st] t:=by
 intro pins s σ H D I h;show wpAny_execs_cons (AE (h1 pins s σ H D I h) λf s1 q=>?_)
 cases f with
 | next=>show OL q
 | ret v=>show q
 | brk=>show q
 | cont=>show q
def Inv.quiet (I:Inv X pins σ H s):interactive X.env=false:=by simp[interactive,I.ok.kind]
def Ae9 (te:TE):TS:=λD σ H=>te σ H λ_ H1=>D.nx σ H1
def Z8 (O:PE X e te)(hs:swapsWith e none pos.line X.env=pure false:=by rfl):PS X (.Expr e pos) (Ae9 te):=by
 intro pins s σ H D I h;show wpAny_Expr_any (AE (O pins s σ H _ I h) λv s1 ⟨x,H1,G,r1,U⟩=>(Ce σ H1 G U)) I.quiet hs
def Ah1 (te:TE):TS:=λD σ H=>te σ H D.rt
def ps_ret (O:PE X e te):PS X (.Return (some e) pos) (Ah1 te):=by
 intro pins s σ H D I h;show wpAny_Return_some (AE (O pins s σ H _ I h) λv s1 ⟨x,H1,G,r1,U⟩=>(Qi x σ H1 G r1 U))
def tIfS (c:TT)(t u:TS):TS:=λD σ H=>c σ H λb H1=>if b=true then t D σ H1 else u D σ H1
def ps_if (hc:PT X c Y)(ha:HU X a t)(U:HU X b u):PS X (.If c a b pos) (tIfS Y t u):=by
 intro pins s σ H D I h;show wpAny_If (AE (hc pins s σ H _ I h) λd s1 ⟨H1,G,O⟩=>?_)
 cases d with
 | true=>show ha pins s1 σ H1 D G O
 | false=>show U pins s1 σ H1 D G O
def Xc:TS:=λ_ _ _=>False
def X7:PS X st Xc:=λ_ _ _ _ _ _ h=>h.elim
end
abbrev TG:=V->St->Hp->(St->Hp->Prop)->Prop
abbrev TGs:=List V->St->Hp->(St->Hp->Prop)->Prop
def PG (X:Cx)(G:Expr)(t:TG):Prop:=
 ∀(pins:Dh) (s:Shared) (σ:St) (H:Hp) (v:V) (u:Value) (Q:St->Hp->Prop),Inv X pins σ H s->RelV v u->t v σ H Q ->
  wpAny (model X.prog X.w) X.A (assign G X.env u) (λ_ s'=>∃σ' H',Inv X pins σ' H' s'/\Q σ' H') X.xe s
def PGs (X:Cx)(ts:List Expr)(t:TGs):Prop:=
 ∀(pins:Dh) (s:Shared) (σ:St) (H:Hp) (vs:List V) (us:List Value) (Q:St->Hp->Prop),Inv X pins σ H s->AF vs us->t vs σ H Q ->
  wpAny (model X.prog X.w) X.A (assignInOrder ((assignEach ts X.env).map (·.2)) us) (λ_ s'=>∃σ' H',Inv X pins σ' H' s'/\Q σ' H') X.xe s
section
def He (i:Nat):TG:=λv σ H Q=>Q (σ.set i (some v)) H
def Aa5 (O:X.N.Nodup)(hi:X.N[i]?=some x)(Y:Loc X.env.scope x)(U:T9 X x:=by first|show .inl rfl|show .inr rfl|assumption):PG X (.Name x pos) (He i):=by
 intro pins s σ H v u Q I r h;show wpAny_assign_Name (Ly I O hi Y r (λs' G=>(Ce _ H G h)) U)
def gNil:TGs:=λvs σ H Q=>vs=[]/\Q σ H
def Ag4 (t:TG)(u:TGs):TGs:=λvs σ H Q=>∃v r,vs=v::r/\t v σ H λσ' H'=>u r σ' H' Q
def Aa4:PGs X [] gNil:=by
 intro pins s σ H vs us Q I r h;obtain⟨e,h⟩:=h;subst e;cases r;show assignInOrder_nil (Ce σ H I h)
def Yc (h1:PG X e t)(h2:PGs X es u)
  (hs:(assignEach (e::es) X.env).map (·.2)=assign e X.env::(assignEach es X.env).map (·.2):=by rfl):PGs X (e::es) (Ag4 t u):=by
 intro pins s σ H vs us Q I r h;obtain⟨v,vr,O,h⟩:=h;subst O
 cases r with
 | cons r Y=>
  rw[hs];show assignInOrder_cons (AE (h1 pins s σ H _ _ _ I r h) λ_ s1 ⟨σ1,H1,G,U⟩=>h2 pins s1 σ1 H1 _ _ Q G Y U)
def gTup (K:A3)(n:Nat)(t:TGs):TG:=λv σ H Q=>∃a xs,v=.ref a/\AC K H a xs/\xs.length=n/\t xs σ H Q
def pg_tup (hc:X.calm=true)(h:PGs X es t)
  (hn:(assignEach es X.env).length=n:=by rfl)(a1:(assignEach es X.env).findIdx? (·.1)=none:=by rfl):PG X (.Tuple es k pos) (gTup X.K n t):=by
 intro pins s σ H v u Q I r G;obtain⟨a,xs,U,Y,hl,G⟩:=G;subst U;cases r;obtain⟨its,rv,ht,hz⟩:=I.tuple Y;show assign_Tuple_tuple (I.ok.hd hc) ht (by simp[hn,← hl,rv.length]) a1 λh' hx=>?_;have O:Inv X pins σ H {s with heap:=h'}:=I.kept (t':=s.toks) λb o e=>hx b o (JP (JL e)) e;show h pins _ σ H xs _ Q O (by simpa using rv) G
def Nh (te:TE)(g:TG):TS:=λD σ H=>te σ H λx H1=>g x σ H1 D.nx
def ps_asg (O:PE X e te)(U:PG X tg g)(hs:swapsWithSole [tg] e pos.line X.env=pure false:=by rfl)(Y:swappedStores [tg] e X.env=pure none:=by rfl)
  (h1:(assignEach [tg] X.env).map (·.2)=[assign tg X.env]:=by rfl):PS X (.Assign [tg] e pos) (Nh te g):=by
 intro pins s σ H D I h;show wpAny_Assign_stores (AE (O pins s σ H _ I h) λv s1 ⟨x,H1,G,r1,q1⟩=>?_) hs Y;rw[h1];show AE (U pins s1 σ H1 x v _ G r1 q1) λ_ s2 q=>q
def X6 (U:X.N.Nodup)(hi:X.N[i]?=some x)(hx:Loc X.env.scope x)(Y:PE X e te)(hs:swapsWith e (some (.Name x a1)) pos.line X.env=pure false:=by rfl)(hf:T9 X x:=by first|show .inl rfl|show .inr rfl|assumption) :
  PS X (.Assign [.Name x a1] e pos) (Nh te (He i)):=by
 intro pins s σ H D I h;show wpAny_Assign_Name (AE (Y pins s σ H _ I h) λv s1 ⟨y,H1,G,r1,q1⟩=>(Ly G U hi hx r1 (λs2 O=>(Ce _ H1 O q1)) hf)) hs
end
section
def Xa (c:TT)(tb:TS):TS:=λD σ H=>∃W:Nat->St->Hp->Prop,(∃m,W m σ H)/\∀m σ H,W m σ H ->
 c σ H λb H1=>if b=true then ∃N:St->Hp->Prop,(∀σ' H',N σ' H'->∃G,G<m/\W G σ' H')/\tb {D with nx:=N,ct:=N,bk:=D.nx} σ H1 else D.nx σ H1
def X5 (hp:PassesOwn (model X.prog X.w) X.A X.env X.xe)(hc:PT X c tc)(hb:HU X body tb):PS X (.While c body [] pos) (Xa tc tb):=by
 intro pins s σ H D I h;show Am h λW z1 a1=>?_;obtain⟨m0,w0⟩:=z1;show wpAny_While (codeAny_whileLoop (λn s'=>∃σ' H',Inv X pins σ' H' s'/\W n σ' H') ?_ m0 (Ce σ H I w0));rintro n s1 ⟨σ1,H1,I1,w1⟩;show NG hp (AE (hc pins s1 σ1 H1 _ I1 (a1 n σ1 H1 w1)) λb s2 ⟨H2,I2,O⟩=>?_)
 cases b with
 | true=>
  obtain⟨N,hN,O⟩:=O;rw[KE rfl];show NG hp (AE (hb pins s2 σ1 H2 _ I2 O) λf s3 U=>?_)
  cases f with
  | next=>
   show B5 U λσ3 G Y n3=>Am (hN σ3 G n3) λm' hm w3=>Aq m' hm (Ce σ3 G Y w3)
  | cont=>
   show B5 U λσ3 G Y n3=>Am (hN σ3 G n3) λm' hm w3=>Aq m' hm (Ce σ3 G Y w3)
  | brk=>show U
  | ret v=>show U
 | false=>
  rw[JW JX];show OL (Ce σ1 H2 I2 O)
end
structure It where
 go:Nat->Hp->Prop
 DH:Nat->Hp->V->Hp->Prop
 stop:Nat->Hp->Prop
def Ff (X:Cx)(pins:Dh)(H:Hp)(b:Addr):Prop:=
 H b=none/\b≠X.env.locals/\b∉X.fs/\(b∈X.ex\/X.s₀.heap.objs.size<=b)/\(∀x c,X.env.cells.lookup x=some c->c≠b)/\∀p∈X.pn++pins,p.1≠b
def Inv.IB (I:Inv X pins σ H s)(G:s.heap.objs.size<=b)(hn:H' b=none):Ff X pins H' b:=by
 show Qk hn (KS (KA I.lt G)) (I.nofs G) (.inr (JU I.sz G)) (λx c e z=>?_) λp O z=>?_
 .obtain⟨v,q⟩:=I.cell x c e;show absurd (KA q.lt (by rw[z];show G)) (LJ _)
 .show absurd (KA (JL (I.pin p O).1) (by rw[z];show G)) (LJ _)
structure Turn (P:Program)(w:World)(K:A3)(tg:Expr)(J:It)(fp:List Addr)(it:Addr)(tn:Nat->Heap->Prop):Prop where
 mem:it∈fp
 obj:∀i h,tn i h->∀b∈fp,∃o,h.get? b=some o/\∀v,o.data≠.cell v
 keep:∀i h h',tn i h->(∀b∈fp,∀o,h.get? b=some o->h'.get? b=some o)->tn i h'
 item:∀(X:Cx),X.prog=P->X.w=w->X.K=K->X.calm=true->∀(i:Nat) (pins:Dh) (s:Shared) (σ:St) (H:Hp) (E:Bf),Inv X pins σ H s->(∀b∈fp,Ff X pins H b)->tn i s.heap->J.go i H ->
  wpAny (model P w) X.A (pyNext (.ref it)) (λr s1=>∃u,r=some u /\
   wpAny (model P w) X.A (letOwnedTupleGo tg (.ref it) u) (λ_ s2=>∃x H',Inv X pins σ H' s2/\RelV x u/\J.DH i H x H'/\tn (i+1) s2.heap/\∀b∈fp,H' b=none) E s1) E s
 done:∀(X:Cx),X.prog=P->X.w=w->X.K=K->X.calm=true->∀(i:Nat) (pins:Dh) (s:Shared) (σ:St) (H:Hp) (E:Bf),Inv X pins σ H s->(∀b∈fp,Ff X pins H b)->tn i s.heap->J.stop i H ->
  wpAny (model P w) X.A (pyNext (.ref it)) (λr s1=>r=none/\Inv X pins σ H s1) E s
 self:∀(A:Around) (i:Nat) (s:Shared) (Q:Bf) (E:Bf),tn i s.heap->Q (.ref it) s->wpAny (model P w) A (pyIter (.ref it)) Q E s
abbrev TI:=St->Hp->(It->Hp->Prop)->Prop
def PIE (X:Cx)(pins:Dh)(σ:St)(tg:Expr)(R:It->Hp->Prop)(G:Value)(s2:Shared):Prop:=
 ∃(it:Addr) (fp:List Addr) (tn:Nat->Heap->Prop) (J:It) (H':Hp),G=.ref it/\Inv X pins σ H' s2/\Turn X.prog X.w X.K tg J fp it tn/\tn 0 s2.heap/\(∀b∈fp,Ff X pins H' b)/\R J H'
def PI (X:Cx)(tg iter:Expr)(G:TI):Prop:=
 ∀(pins:Dh) (s:Shared) (σ:St) (H:Hp) (R:It->Hp->Prop),Inv X pins σ H s->G σ H R ->
  wpAny (model X.prog X.w) X.A (eval iter X.env) (λv s1=>wpAny (model X.prog X.w) X.A (pyIter v) (PIE X pins σ tg R) X.xe s1) X.xe s
def Y1 {E:Bf}{Q:Ju}(ho:s.heap.get? it=some o)(hc:o.cls=.type n)(hd:o.data=.fields vs)
   (hn:["enumerate","zip","dict_itemiterator","dict_reverseitemiterator","odict_iterator","itertools.zip_longest","itertools.pairwise"].contains n=false)(G:Q () s):wpAny M A (letOwnedTupleGo tg (.ref it) u) Q E s:=by
 unfold letOwnedTupleGo;cases tg<;>first
   | show JK G
   | (cases u<;>first
       | show JK G
       | (show JH (wpAny_load ho ?_)
          rw[hc,hd]
          show wpAny M A (if(["enumerate","zip","dict_itemiterator","dict_reverseitemiterator","odict_iterator","itertools.zip_longest","itertools.pairwise"].contains n&&vs[0]?==some (rawInt _))=true then _ else _) Q E s
          rw[JW (by intro h;rw[hn,Bool.false_and]at h;cases h)]
          show JK G))
noncomputable def HH (K:A3)(a:Addr):It:=
 ⟨λi H=>∃xs x,AK K H a xs/\xs[i]?=some x,λi H x H'=>H'=H/\∀xs,AK K H a xs->xs[i]?=some x,λi H=>∃xs,AK K H a xs/\xs.length<=i⟩
noncomputable def HK (K:A3)(a:Addr):It:=
 ⟨λi H=>∃xs x,AC K H a xs/\xs[i]?=some x,λi H x H'=>H'=H/\∀xs,AC K H a xs->xs[i]?=some x,λi H=>∃xs,AC K H a xs/\xs.length<=i⟩
noncomputable def Itr (lo:Int)(n:Nat):It:=⟨λi _=>i<n,λi H x H'=>H'=H/\x=.int (lo+i),λi _=>n<=i⟩
theorem Vn {P:Program}{w:World}{K:A3}{tg:Expr}(a it:Addr):Turn P w K tg (HH K a) [it] it (λi h=>h.IsListIter it a i) where
 mem:=by simp
 obj:=λi h st b G=>by
  have e:b=it:=by simpa using G
  subst e;show Bp st λo e c d=>?_;show Aq o e λv z=>by rw[d]at z;cases z
 keep:=λi h h' st k=>st.at λo e=>k it (by simp) o e
 item:=by
  intro X hP hw hK hc i pins s σ H E I O st hg;subst hP hw hK;show B5 hg λxs x U hx=>Bp (I.list U) λits rv p hz=>Am (rv.get hx) λu hu ru=>Ll (O it (by simp)) λf0 f1 f2 Y f4 f5=>wpAny_pyNext_list_item st p.isList (x:=u) (by simpa using hu) λh' a1 sb=>?_;have I1:Inv X pins σ H {s with heap:=h'}:=I.turned (t':=s.toks) (λb o G e=>(sb.2 b G).trans e) f0 f1 Y f4 f5;show Bp (id a1) λo e c d=>?_;show Aq u rfl (Y1 (s:={s with heap:=h'}) e c d (by decide) (Ct x H I1 ru ⟨rfl,λys hy=>by rw[I.HQ hy U];show hx⟩ a1 λb G=>(O b G).1))
 done:=by
  intro X hP hw hK hc i pins s σ H E I O st hg;subst hP hw hK;show Am hg λxs U hx=>Bp (I.list U) λits rv p hz=>Ll (O it (by simp)) λf0 f1 f2 Y f4 f5=>?_;have hl:=rv.length;show wpAny_pyNext_list_end (I.ok.hd hc) st p.isList (by simp;omega) λh' eb=>⟨rfl,I.turned (t':=s.toks) (λb o G e=>eb b o G e) f0 f1 Y f4 f5⟩
 self:=λ_ _ _ _ _ st h=>wpAny_pyIter_listiter st h
theorem Sk {P:Program}{w:World}{K:A3}{tg:Expr}(a it:Addr):Turn P w K tg (HK K a) [it] it (λi h=>h.IsTupleIter it a i) where
 mem:=by simp
 obj:=λi h st b G=>by
  have e:b=it:=by simpa using G
  subst e;show Bp st λo e c d=>?_;show Aq o e λv z=>by rw[d]at z;cases z
 keep:=λi h h' st k=>st.at λo e=>k it (by simp) o e
 item:=by
  intro X hP hw hK hc i pins s σ H E I O st hg;subst hP hw hK;show B5 hg λxs x U hx=>Bp (I.tuple U) λits rv p hz=>Am (rv.get hx) λu hu ru=>Ll (O it (by simp)) λf0 f1 f2 Y f4 f5=>wpAny_pyNext_tuple_item st (show s.heap.IsTuple a its.toArray from p) (x:=u) (by simpa using hu) λh' a1 sb=>?_;have I1:Inv X pins σ H {s with heap:=h'}:=I.turned (t':=s.toks) (λb o G e=>(sb.2 b G).trans e) f0 f1 Y f4 f5;show Bp (id a1) λo e c d=>?_;show Aq u rfl (Y1 (s:={s with heap:=h'}) e c d (by decide) (Ct x H I1 ru ⟨rfl,λys hy=>by rw[I.GJ hy U];show hx⟩ a1 λb G=>(O b G).1))
 done:=by
  intro X hP hw hK hc i pins s σ H E I O st hg;subst hP hw hK;show Am hg λxs U hx=>Bp (I.tuple U) λits rv p hz=>Ll (O it (by simp)) λf0 f1 f2 Y f4 f5=>?_;have hl:=rv.length;show wpAny_pyNext_tuple_end (I.ok.hd hc) st (show s.heap.IsTuple a its.toArray from p) (by simp;omega) λh' eb=>⟨rfl,I.turned (t':=s.toks) (λb o G e=>eb b o G e) f0 f1 Y f4 f5⟩
 self:=λ_ _ _ _ _ st h=>wpAny_pyIter_tupleiter st h
theorem Sl {P:Program}{w:World}{K:A3}(it:Addr)(lo:Int)(n:Nat):Turn P w K tg (Itr lo n) [it] it (λi h=>IsRangeIter h it (lo+(i:Nat)*1) ((n:Int)-(i:Nat)) 1) where
 mem:=by simp
 obj:=λi h st b G=>by
  have e:b=it:=by simpa using G
  subst e;show Ac st λv z=>by
   have z':Data.fields _=Data.cell v:=z;cases z'
 keep:=λi h h' st k=>k it (by simp) _ st
 item:=by
  intro X hP hw hK hc i pins s σ H E I O st hg;subst hP hw hK;show Ll (O it (by simp)) λf0 f1 f2 U Y f5=>?_;have W:=Walks.range (prog:=X.prog) (w:=X.w) (I.ok.hd hc) it lo 1 n;show W.item i s _ _ hg st λv h' tk hv a1 kk=>?_;obtain⟨t,rfl⟩:=hv;have I1:Inv X pins σ H {s with heap:=h',toks:=tk}:=I.turned (λb o G e=>kk b o (by simpa using G) e) f0 f1 U Y f5;show Ac rfl (Y1 (s:={s with heap:=h',toks:=tk}) (n:="range_iterator") a1 rfl rfl (by decide) (Ct (.int (lo+i)) H I1 ⟨t,?_⟩ ⟨rfl,rfl⟩ a1 λb G=>(O b G).1));rw[Int.mul_one]
 done:=by
  intro X hP hw hK hc i pins s σ H E I O st hg;subst hP hw hK;show Ll (O it (by simp)) λf0 f1 f2 U Y f5=>?_;show wpAny_pyNext_range_end (I.ok.hd hc) st (by have:n<=i:=hg;omega) λh' eb=>⟨rfl,I.turned (t':=s.toks) (λb o G e=>eb b o G e) f0 f1 U Y f5⟩
 self:=λ_ _ _ _ _ st h=>wpAny_pyIter_rangeiter st h
section
def Y0 (K:A3)(tl:TE):TI:=λσ H R=>tl σ H λx H1=>∃a,x=.ref a/\(∃xs,AK K H1 a xs)/\R (HH K a) H1
def iTup (K:A3)(tl:TE):TI:=λσ H R=>tl σ H λx H1=>∃a,x=.ref a/\(∃xs,AC K H1 a xs)/\R (HK K a) H1
def Aa2 (hl:PE X l tl):PI X tg l (Y0 X.K tl):=by
 intro pins s σ H R I h;show AE (hl pins s σ H _ I h) λv s1 ⟨x,H1,G,r1,Y⟩=>?_;show Bp Y λa e z1 q=>?_;obtain⟨xs,U⟩:=z1;subst e;cases r1;show Bp (G.list U) λits rv p hz=>LW p.isList (B8 s1.heap.objs.size [s1.heap.objs.size] _ _ H1 rfl (G.kept (t':=s1.toks) λb o e=>JI _ e) (Vn a _) (A8 (JO _ rfl) rfl rfl) (λb O=>?_) q);have e:b=s1.heap.objs.size:=by simpa using O
 subst e;show G.IB (JN _) (G.AJ.fresh (JN _))
def pi_tup (hl:PE X l tl):PI X tg l (iTup X.K tl):=by
 intro pins s σ H R I h;show AE (hl pins s σ H _ I h) λv s1 ⟨x,H1,G,r1,Y⟩=>?_;show Bp Y λa e z1 q=>?_;obtain⟨xs,U⟩:=z1;subst e;cases r1;show Bp (G.tuple U) λits rv p hz=>wpAny_pyIter_tuple (show s1.heap.IsTuple a its.toArray from p) (B8 s1.heap.objs.size [s1.heap.objs.size] _ _ H1 rfl (G.kept (t':=s1.toks) λb o e=>JI _ e) (Sk a _) (A8 (JO _ rfl) rfl rfl) (λb O=>?_) q);have e:b=s1.heap.objs.size:=by simpa using O
 subst e;show G.IB (JN _) (G.AJ.fresh (JN _))
def Xs {pins:Dh}{σ:St}{H:Hp}{s:Shared}{R:It->Hp->Prop}{E:Bf}{lo hi:Int}{t u v:Tok}{tk:Nat}(I:Inv X pins σ H s)(h1:-(2 ^ 62)<=lo)(h2:lo<2 ^ 62)(Y:-(2 ^ 62)<=hi)(h4:hi<2 ^ 62)
  (q:R (Itr lo (hi-lo).toNat) H):wpAny (model X.prog X.w) X.A (pyIter (.ref s.heap.objs.size)) (PIE X pins σ tg R) E {s with heap:=s.heap.push {cls:=.type "range",data:=.fields #[.int lo t,.int hi u,.int 1 v]},toks:=tk}:=by
 show wpAny_pyIter_range (IsRange.new ..) (small_one h1 h2 Y h4) ?_;have G:Inv X pins σ H {s with heap:=s.heap.push {cls:=.type "range",data:=.fields #[.int lo t,.int hi u,.int 1 v]},toks:=tk}:=I.kept λb o e=>JI _ e;show B8 ((s.heap.push {cls:=.type "range",data:=.fields #[.int lo t,.int hi u,.int 1 v]}).objs.size) [(s.heap.push {cls:=.type "range",data:=.fields #[.int lo t,.int hi u,.int 1 v]}).objs.size] _ _ H rfl
  (G.kept (t':=tk) λb o e=>JI _ e) (Sl _ lo (hi-lo).toNat) ?_ (λb hb=>?_) q
 .have O:lo+((0:Nat):Int)*1=lo:=by simp
  have U:(((hi-lo).toNat:Nat):Int)-((0:Nat):Int)=Builtin.Range.rangeSize lo hi 1:=by rw[rangeSize_one];split<;>omega
  show IsRangeIter _ _ (lo+((0:Nat):Int)*1) ((((hi-lo).toNat:Nat):Int)-((0:Nat):Int)) 1
  rw[O,U];show JO _ rfl
 .have e:b=(s.heap.push {cls:=.type "range",data:=.fields #[.int lo t,.int hi u,.int 1 v]}).objs.size:=by simpa using hb
  subst e;show G.IB (JN _) (G.AJ.fresh (JN _))
def Ag2 (ta:TA):TI:=λσ H R=>ta σ H λvs H1=>∃j:Int,vs=[.int j]/\-(2 ^ 62)<=j/\j<2 ^ 62/\R (Itr 0 j.toNat) H1
def Vx (U:Gl X "range")(hm:X.mg "range"=none)(ha:PA X [a] ta)(hs:starEach [a] X.env=[(false,eval a X.env)]:=by rfl):PI X tg (.Call (.Name "range" p) [a] [] pos) (Ag2 ta):=by
 intro pins s σ H R I h;show Call_ (Hs I U hm boot_range (LN (AE (ha pos pins s σ H _ I h) λus s1 ⟨vs,H1,O,r1,G⟩=>?_) hs rfl));obtain⟨j,e,G,Y,q⟩:=G;subst e
 cases r1 with
 | cons r rr=>
  cases rr;obtain⟨t,rfl⟩:=r;show call_range_1 (Xs O (by omega) (by omega) G Y (by simpa using q))
def tFor (O:TI)(g:TG)(tb:TS):TS:=λD σ H=>O σ H λJ H1=>∃W:Nat->Nat->St->Hp->Prop,(∃m,W 0 m σ H1)/\∀i m σ H,W i m σ H ->
 (J.stop i H/\D.nx σ H)\/(J.go i H/\∃N:St->Hp->Prop,(∀σ' H',N σ' H'->∃G,G<m/\W (i+1) G σ' H')/\∀x H',J.DH i H x H'->g x σ H' λσ2 H2=>tb {D with nx:=N,ct:=N,bk:=D.nx} σ2 H2)
noncomputable def G8 (fp:List Addr)(h:Heap):List (Addr×Obj):=fp.filterMap λb=>(h.get? b).map λo=>(b,o)
def Ch (G:b∈fp)(e:h.get? b=some o):(b,o)∈G8 fp h:=List.mem_filterMap.mpr (Aq b G (by rw[e];rfl))
def V0 (U:p∈G8 fp h):p.1∈fp/\h.get? p.1=some p.2:=by
 show Am (List.mem_filterMap.mp U) λb O e=>?_
 cases q:h.get? b with
 | none=>rw[q]at e;cases e
 | some o=>
  rw[q]at e;have G:(b,o)=p:=KC e;subst G;show⟨O,q⟩
def Inv.pinned (I:Inv X pins σ H s)(U:∀b∈fp,Ff X pins H b)(ho:∀b∈fp,∃o,s.heap.get? b=some o/\∀v,o.data≠.cell v):Inv X (pins++G8 fp s.heap) σ H s:=
 I.IV λp Y=>(KU.mp Y).elim (λz=>I.pin p (JQ _ z)) λz=>by
  obtain⟨O,e⟩:=V0 z;show N0 (U p.1 O) λf0 f1 f2 _=>Am (ho p.1 O) λo G d=>?_;rw[e]at G;cases G;show Fq e f0 f1 f2 d
def Inv.BD (I:Inv X (pins++pl) σ H s):Inv X pins σ H s:=I.IV λp G=>I.pin p (JQ _ (LX _ G))
abbrev Kn (X:Cx)(i:Expr):Prop:=∀x,foldedSetIterable i X.env x=pure x
def ps_for (hp:PassesOwn (model X.prog X.w) X.A X.env X.xe)(hc:X.calm=true)(hi:PI X tg iter wi)(hg:PG X tg g)(U:HU X body tb)
  (hs:Kn X iter:=by intro _;rfl):PS X (.For tg iter body [] pos) (tFor wi g tb):=by
 intro pins s σ H D I h;show wpAny_For (AE (hi pins s σ H _ I h) λv s1 h1=>AE h1 λaA s2 h2=>?_) hs;show Nz h2 λit fp tn J H2 e I2 T a8 f2 z1=>Am z1 λW z2 a9=>?_;obtain⟨m0,w0⟩:=z2;subst e;have a2:∀{H':Hp},(∀b∈fp,H' b=none)->∀b∈fp,Ff X pins H' b:=λhn b U=>⟨hn b U,(f2 b U).2⟩;show codeAny_forLoop_any (λn s'=>∃i σ' H',Inv X pins σ' H' s'/\tn i s'.heap/\(∀b∈fp,H' b=none)/\W i n σ' H') ?_ m0 (Cr 0 σ H2 I2 a8 (λb U=>(f2 b U).1) w0);rintro n s3 ⟨i,σ3,H3,I3,a5,a4,w3⟩;rcases a9 i n σ3 H3 w3 with⟨stop,qn⟩|⟨go,N,hN,step⟩
 .show NG hp (AE (T.done X rfl rfl rfl hc i pins s3 σ3 H3 X.xe I3 (a2 a4) a5 stop) λr s4 ⟨hr,I4⟩=>?_);subst hr;show OL (Ce σ3 H3 I4 qn)
 .show NG hp (AE (T.item X rfl rfl rfl hc i pins s3 σ3 H3 X.xe I3 (a2 a4) a5 go) λr s4 ⟨u,hr,h4⟩=>?_);subst hr;show NG hp (AE h4 λ_ s5 ⟨x,H5,I5,r5,y5,a1,a7⟩=>?_);have a6:=I5.pinned (a2 a7) (T.obj _ _ a1);show NG hp (AE (hg _ s5 σ3 H5 x u _ a6 r5 (step x H5 y5)) λ_ s6 ⟨σ6,H6,I6,q6⟩=>NG hp (AE (U _ s6 σ6 H6 _ I6 q6) λf s7 Y=>?_));have again:∀{σ7:St} {G:Hp},Inv X (pins++G8 fp s5.heap) σ7 G s7->N σ7 G->∃m,m<n/\∃i σ' H',Inv X pins σ' H' s7/\tn i s7.heap/\(∀b∈fp,H' b=none)/\W i m σ' H':=fun {σ7 G} O n7=>by
   show Am (hN σ7 G n7) λm' hm w7=>Aq m' hm (Cr (i+1) σ7 G O.BD (T.keep _ _ _ a1 λb U o e=>(O.pin (b,o) (JQ _ (JQ _ (Ch U e)))).1) (λb U=>(Am (T.obj _ _ a1 b U) λo e d=>((O.pin (b,o) (JQ _ (JQ _ (Ch U e)))).2.1))) w7)
  cases f with
  | next=>show B5 Y λσ7 G O n7=>?_;show again O n7
  | cont=>show B5 Y λσ7 G O n7=>?_;show again O n7
  | brk=>obtain⟨σ7,G,O,Y⟩:=Y;show⟨σ7,G,O.BD,Y⟩
  | ret v=>obtain⟨x7,σ7,G,O,r7,Y⟩:=Y;show⟨x7,σ7,G,O.BD,r7,Y⟩
end
def Io {K:A3}{a:Addr}{xs:List V}{g:TG}{tb:TS}{D:Ends}{σ:St}{H:Hp}(Pv:Nat->St->Hp->Prop)(U:Pv 0 σ H)(hl:∀i σ H,i<=xs.length->Pv i σ H->AK K H a xs)
  (hs:∀i x σ H,xs[i]?=some x->Pv i σ H->g x σ H λσ2 H2=>tb {D with nx:=Pv (i+1),ct:=Pv (i+1),bk:=D.nx} σ2 H2)(hd:∀σ H,Pv xs.length σ H->D.nx σ H) :
  ∃W:Nat->Nat->St->Hp->Prop,(∃m,W 0 m σ H)/\∀i m σ H,W i m σ H ->
   ((HH K a).stop i H/\D.nx σ H)\/((HH K a).go i H/\∃N:St->Hp->Prop,(∀σ' H',N σ' H'->∃G,G<m/\W (i+1) G σ' H')/\∀x H',(HH K a).DH i H x H'->g x σ H' λσ2 H2=>tb {D with nx:=N,ct:=N,bk:=D.nx} σ2 H2):=by
 show Aq (λi m σ H=>m=xs.length-i/\i<=xs.length/\Pv i σ H) (Bc xs.length (by simp) (LD _) U) ?_;rintro i m σ H ⟨rfl,hi,p⟩;have q:=hl i σ H hi p;by_cases O:i<xs.length
 .show .inr ⟨(Ce xs (xs[i]) q (by simp[O])),(Aq (Pv (i+1)) (λσ' H' Y=>(Ep (xs.length-(i+1)) (by omega) rfl O Y)) λx H' y=>?_)⟩;obtain⟨e,y⟩:=y;subst e;show hs i x σ _ (y xs q) p
 .have e:i=xs.length:=by omega
  subst e;show .inl ⟨(Aq xs q (JN _)),hd σ H p⟩
def Hu {K:A3}{a:Addr}{xs:List V}{g:TG}{tb:TS}{D:Ends}{σ:St}{H:Hp}(Pv:Nat->St->Hp->Prop)(U:Pv 0 σ H)(hl:∀i σ H,i<=xs.length->Pv i σ H->AC K H a xs)
  (hs:∀i x σ H,xs[i]?=some x->Pv i σ H->g x σ H λσ2 H2=>tb {D with nx:=Pv (i+1),ct:=Pv (i+1),bk:=D.nx} σ2 H2)(hd:∀σ H,Pv xs.length σ H->D.nx σ H) :
  ∃W:Nat->Nat->St->Hp->Prop,(∃m,W 0 m σ H)/\∀i m σ H,W i m σ H ->
   ((HK K a).stop i H/\D.nx σ H)\/((HK K a).go i H/\∃N:St->Hp->Prop,(∀σ' H',N σ' H'->∃G,G<m/\W (i+1) G σ' H')/\∀x H',(HK K a).DH i H x H'->g x σ H' λσ2 H2=>tb {D with nx:=N,ct:=N,bk:=D.nx} σ2 H2):=by
 show Aq (λi m σ H=>m=xs.length-i/\i<=xs.length/\Pv i σ H) (Bc xs.length (by simp) (LD _) U) ?_;rintro i m σ H ⟨rfl,hi,p⟩;have q:=hl i σ H hi p;by_cases O:i<xs.length
 .show .inr ⟨(Ce xs (xs[i]) q (by simp[O])),(Aq (Pv (i+1)) (λσ' H' Y=>(Ep (xs.length-(i+1)) (by omega) rfl O Y)) λx H' y=>?_)⟩;obtain⟨e,y⟩:=y;subst e;show hs i x σ _ (y xs q) p
 .have e:i=xs.length:=by omega
  subst e;show .inl ⟨(Aq xs q (JN _)),hd σ H p⟩
def Wc {lo:Int}{n:Nat}{g:TG}{tb:TS}{D:Ends}{σ:St}{H:Hp}(Pv:Nat->St->Hp->Prop)(U:Pv 0 σ H)
  (hs:∀i σ H,i<n->Pv i σ H->g (.int (lo+i)) σ H λσ2 H2=>tb {D with nx:=Pv (i+1),ct:=Pv (i+1),bk:=D.nx} σ2 H2)(hd:∀σ H,Pv n σ H->D.nx σ H) :
  ∃W:Nat->Nat->St->Hp->Prop,(∃m,W 0 m σ H)/\∀i m σ H,W i m σ H ->
   ((Itr lo n).stop i H/\D.nx σ H)\/((Itr lo n).go i H/\∃N:St->Hp->Prop,(∀σ' H',N σ' H'->∃O,O<m/\W (i+1) O σ' H')/\∀x H',(Itr lo n).DH i H x H'->g x σ H' λσ2 H2=>tb {D with nx:=N,ct:=N,bk:=D.nx} σ2 H2):=by
 show Aq (λi m σ H=>m=n-i/\i<=n/\Pv i σ H) (Bc n (by simp) (LD _) U) ?_;rintro i m σ H ⟨rfl,hi,p⟩;by_cases G:i<n
 .show .inr ⟨G,(Aq (Pv (i+1)) (λσ' H' Y=>(Ep (n-(i+1)) (by omega) rfl G Y)) λx H' y=>?_)⟩;obtain⟨e,y⟩:=y;subst e y;show hs i σ _ G p
 .have e:i=n:=by omega
  subst e;show .inl ⟨JN _,hd σ H p⟩
abbrev R2:=V->V->Hp->VK->Prop
def CO (X:Cx)(f:Value->Value->Sem Value)(r:R2):Prop:=
 ∀(pins:Dh) (s:Shared) (σ:St) (H:Hp) (x y:V) (v u:Value) (Q:VK),Inv X pins σ H s->RelV x v->RelV y u->r x y H Q ->
  wpAny (model X.prog X.w) X.A (f v u) (EP X pins σ Q) X.xe s
def UnR (X:Cx)(f:Value->Sem Value)(r:V->Hp->VK->Prop):Prop:=
 ∀(pins:Dh) (s:Shared) (σ:St) (H:Hp) (x:V) (v:Value) (Q:VK),Inv X pins σ H s->RelV x v->r x H Q ->
  wpAny (model X.prog X.w) X.A (f v) (EP X pins σ Q) X.xe s
def Fm (X:Cx)(f:Value)(r:List V->Hp->VK->Prop):Prop:=
 ∀(pins:Dh) (s:Shared) (σ:St) (H:Hp) (xs:List V) (us:List Value) (Q:VK),Inv X pins σ H s->AF xs us->r xs H Q ->
  wpAny (model X.prog X.w) X.A (call f us) (EP X pins σ Q) X.xe s
def tOp (r:R2)(ta tb:TE):TE:=λσ H Q=>ta σ H λx H1=>tb σ H1 λy H2=>r x y H2 Q
def tUn (r:V->Hp->VK->Prop)(ta:TE):TE:=λσ H Q=>ta σ H λx H1=>r x H1 Q
def rI (C:Int->Int->Prop)(g:Int->Int->V):R2:=λx y H Q=>∃i j,x=.int i/\y=.int j/\C i j/\Q (g i j) H
def rI0 (g:Int->Int->V):R2:=λx y H Q=>∃i j,x=.int i/\y=.int j/\Q (g i j) H
def rU (g:Int->V):V->Hp->VK->Prop:=λx H Q=>∃i,x=.int i/\Q (g i) H
section
def binT (ha:PE X a ta)(U:PE X b tb){pins:Dh}{s:Shared}{σ:St}{H:Hp}{R:V->V->Hp->Prop}(I:Inv X pins σ H s)
  (h:ta σ H λx H1=>tb σ H1 λy H2=>R x y H2){Q:Bf}{f:Value->Value->Sem Value}
  (Y:∀v u s2 x y H2,Inv X pins σ H2 s2->RelV x v->RelV y u->R x y H2->wpAny (model X.prog X.w) X.A (f v u) Q X.xe s2) :
  wpAny (model X.prog X.w) X.A (eval a X.env) (λv s₁=>wpAny (model X.prog X.w) X.A (eval b X.env) (λu s₂=>wpAny (model X.prog X.w) X.A (f v u) Q X.xe s₂) X.xe s₁) X.xe s:=by
 show AE (ha pins s σ H _ I h) λv s1 ⟨x,H1,G,r1,q1⟩=>AE (U pins s1 σ H1 _ G q1) λu s2 ⟨y,H2,O,r2,q2⟩=>Y v u s2 x y H2 O r1 r2 q2
def pe_op (ho:CO X (binaryOp op) r)(ha:PE X a ta)(O:PE X b tb):PE X (.BinOp a op b pos) (tOp r ta tb):=by
 intro pins s σ H Q I h;show wpAny_BinOp (binT ha O I h λv u s2 x y H2 G U Y q=>ho pins s2 σ H2 x y v u Q G U Y q)
def pe_un {r:V->Hp->VK->Prop}(ho:UnR X (unaryOp op) r)(ha:PE X a ta):PE X (.UnaryOp op a pos) (tUn r ta):=by
 intro pins s σ H Q I h;show UnaryOp_ (AE (ha pins s σ H _ I h) λv s1 ⟨x,H1,G,r1,O⟩=>ho pins s1 σ H1 x v Q G r1 O)
def opI {f:Value->Value->Sem Value}{C:Int->Int->Prop}{g:Int->Int->Int}
  (rule:∀(i j:Int) (t u:Tok) (s:Shared) (Q:Bf) (E:Bf),C i j->Q (.int (g i j) s.toks) {s with toks:=s.toks+1}->wpAny (model X.prog X.w) X.A (f (.int i t) (.int j u)) Q E s) :
  CO X f (rI C λi j=>.int (g i j)):=by
 intro pins s σ H x y v u Q I G O h;show Fw h λi j z1 U hc q=>?_;subst z1 U;obtain⟨t,rfl⟩:=G;obtain⟨t',rfl⟩:=O;show rule i j t t' s _ _ hc (Aw (.int (g i j)) H (I.tok _) ⟨_,rfl⟩ q)
def opI0 {f:Value->Value->Sem Value}{g:Int->Int->Int}
  (rule:∀(i j:Int) (t u:Tok) (s:Shared) (Q:Bf) (E:Bf),Q (.int (g i j) s.toks) {s with toks:=s.toks+1}->wpAny (model X.prog X.w) X.A (f (.int i t) (.int j u)) Q E s) :
  CO X f (rI0 λi j=>.int (g i j)):=by
 intro pins s σ H x y v u Q I G O h;show B7 h λi j z1 U q=>?_;subst z1 U;obtain⟨t,rfl⟩:=G;obtain⟨t',rfl⟩:=O;show rule i j t t' s _ _ (Aw (.int (g i j)) H (I.tok _) ⟨_,rfl⟩ q)
def Ab7 {f:Value->Value->Sem Value}{g:Int->Int->Bool}
  (rule:∀(i j:Int) (t u:Tok) (s:Shared) (Q:Bf) (E:Bf),Q (.bool (g i j)) s->wpAny (model X.prog X.w) X.A (f (.int i t) (.int j u)) Q E s) :
  CO X f (rI0 λi j=>.bl (g i j)):=by
 intro pins s σ H x y v u Q I G O h;show B7 h λi j z1 U q=>?_;subst z1 U;obtain⟨t,rfl⟩:=G;obtain⟨t',rfl⟩:=O;show rule i j t t' s _ _ (Aw (.bl (g i j)) H I rfl q)
def CDiv (i j:Int):Prop:=0<j/\j<1073741824
def CMul (i j:Int):Prop:=(-(2 ^ 64)<i/\i<2 ^ 64)\/(-(2 ^ 64)<j/\j<2 ^ 64)
def CMul.ok (h:CMul i j):IntMulOk i j:=by
 rcases h with⟨h1,h2⟩|⟨h1,h2⟩
 .show .of_left (intBits_le_64 h1 h2)
 .show .of_right (intBits_le_64 h1 h2)
def Fb:CO X (binaryOp .Add) (rI0 λi j=>.int (i+j)):=opI0 λ_ _ _ _ _ _ _ q=>add_int q
def Yn:CO X (binaryOp .Sub) (rI0 λi j=>.int (i-j)):=opI0 λ_ _ _ _ _ _ _ q=>sub_int q
def Hq:CO X (binaryOp .Mult) (rI CMul λi j=>.int (i*j)):=opI λ_ _ _ _ _ _ _ hc q=>mul_int q hc.ok
def J9:CO X (binaryOp .FloorDiv) (rI CDiv λi j=>.int (i/j)):=opI λi j _ _ _ _ _ hc q=>by
 have h1:(0:Int)<j:=hc.1;have h2:j<1073741824:=hc.2;show floordiv_int (by omega) (by rw[Int.fdiv_eq_ediv_of_nonneg i (by omega)];show q) (.inl (PyProof.noPylong_small (by omega)))
def Hr:CO X (binaryOp .Mod) (rI (λ_ j=>0<j) λi j=>.int (i%j)):=opI λi j _ _ _ _ _ hc q=>by
 have h1:(0:Int)<j:=hc;show mod_int' (by omega) (by rw[Int.fmod_eq_emod_of_nonneg i (by omega)];show q)
def unI {f:Value->Sem Value}{g:Int->Int}
  (rule:∀(i:Int) (t:Tok) (s:Shared) (Q:Bf) (E:Bf),Q (.int (g i) s.toks) {s with toks:=s.toks+1}->wpAny (model X.prog X.w) X.A (f (.int i t)) Q E s) :
  UnR X f (rU λi=>.int (g i)):=by
 intro pins s σ H x v Q I G h;show Am h λi z1 q=>?_;subst z1;obtain⟨t,rfl⟩:=G;show rule i t s _ _ (Aw (.int (g i)) H (I.tok _) ⟨_,rfl⟩ q)
def Es:UnR X (unaryOp .USub) (rU λi=>.int (-i)):=unI λ_ _ _ _ _ q=>neg_int q
end
noncomputable def scal:V->V->Bool
 | .AQ,.AQ=>true|.AQ,.int _=>true|.int _,.AQ=>true|.AQ,.bl _=>true|.bl _,.AQ=>true|.AQ,.str _=>true|.str _,.AQ=>true
 | .int _,.int _=>true|.bl _,.bl _=>true|.str _,.str _=>true|.JE _,.JE _=>true
 | .int _,.str _=>true|.str _,.int _=>true|.bl _,.str _=>true|.str _,.bl _=>true
 | _,_=>false
def rEq:R2:=λx y H Q=>scal x y=true/\Q (.bl (decide (x=y))) H
def rNe:R2:=λx y H Q=>scal x y=true/\Q (.bl (!decide (x=y))) H
def U9:decide (V.int i=V.int j)=(i==j):=by
 rw[MZ];simp
def Zc:decide (V.bl i=V.bl j)=(i==j):=by
 rw[MZ];simp
def U8:decide (V.str i=V.str j)=(i==j):=by
 rw[MZ];simp
def Va:decide (V.JE i=V.JE j)=(i.toList==j.toList):=by
 rw[MZ];cases i;cases j;simp
section
def Bz (I:Inv X pins σ H s)(q:Q (.bl k) H)(e:k=G):EP X pins σ Q (.bool G) s:=by
 subst e;show Aw (.bl k) H I rfl q
def Bs:CO X (compareOp .Eq) rEq:=by
 intro pins s σ H x y v u Q I O G h;obtain⟨hs,q⟩:=h
 cases x with
 | AQ=>
  cases O
  cases y with
  | AQ=>cases G;show PySem.EqNone.eq_none_none (Bz I q (by simp))
  | bl j=>cases G;show PySem.EqNone.eq_none_bool (Bz I q (by simp))
  | int j=>obtain⟨t',rfl⟩:=G;show PySem.EqNone.eq_none_int (Bz I q (by simp))
  | str j=>obtain⟨t',rfl⟩:=G;show PySem.EqNone.eq_none_str (Bz I q (by simp))
  | _=>show absurd (show false=true from hs) JX
 | bl i=>
  cases O
  cases y with
  | AQ=>cases G;show PySem.EqNone.eq_bool_none (Bz I q (by simp))
  | bl j=>cases G;show eq_bool (Bz I q Zc)
  | str j=>obtain⟨t',rfl⟩:=G;show PySem.EqMixed.eq_bool_str (Bz I q (by simp))
  | _=>show absurd (show false=true from hs) JX
 | int i=>
  obtain⟨t,rfl⟩:=O
  cases y with
  | AQ=>cases G;show PySem.EqNone.eq_int_none (Bz I q (by simp))
  | int j=>obtain⟨t',rfl⟩:=G;show eq_int (Bz I q U9)
  | str j=>obtain⟨t',rfl⟩:=G;show PySem.EqMixed.eq_int_str (Bz I q (by simp))
  | _=>show absurd (show false=true from hs) JX
 | str i=>
  obtain⟨t,rfl⟩:=O
  cases y with
  | AQ=>cases G;show PySem.EqNone.eq_str_none (Bz I q (by simp))
  | bl j=>cases G;show PySem.EqMixed.eq_str_bool (Bz I q (by simp))
  | int j=>obtain⟨t',rfl⟩:=G;show PySem.EqMixed.eq_str_int (Bz I q (by simp))
  | str j=>obtain⟨t',rfl⟩:=G;show eq_str (Bz I q U8)
  | _=>show absurd (show false=true from hs) JX
 | JE i=>
  obtain⟨t,rfl⟩:=O
  cases y with
  | JE j=>obtain⟨t',rfl⟩:=G;show PySem.W.eq_bytes (Bz I q Va)
  | _=>show absurd (show false=true from hs) JX
 | _=>cases y<;>show absurd (show false=true from hs) JX
def Uy:CO X (compareOp .NotEq) rNe:=by
 intro pins s σ H x y v u Q I O G h;obtain⟨hs,q⟩:=h
 cases x with
 | AQ=>
  cases O
  cases y with
  | AQ=>cases G;show PySem.EqNone.ne_none_none (Bz I q (by simp))
  | bl j=>cases G;show PySem.EqNone.ne_none_bool (Bz I q (by simp))
  | int j=>obtain⟨t',rfl⟩:=G;show PySem.EqNone.ne_none_int (Bz I q (by simp))
  | str j=>obtain⟨t',rfl⟩:=G;show PySem.EqNone.ne_none_str (Bz I q (by simp))
  | _=>show absurd (show false=true from hs) JX
 | bl i=>
  cases O
  cases y with
  | AQ=>cases G;show PySem.EqNone.ne_bool_none (Bz I q (by simp))
  | bl j=>cases G;show ne_bool (Bz I q (LR not Zc))
  | str j=>obtain⟨t',rfl⟩:=G;show PySem.EqMixed.ne_bool_str (Bz I q (by simp))
  | _=>show absurd (show false=true from hs) JX
 | int i=>
  obtain⟨t,rfl⟩:=O
  cases y with
  | AQ=>cases G;show PySem.EqNone.ne_int_none (Bz I q (by simp))
  | int j=>obtain⟨t',rfl⟩:=G;show ne_int (Bz I q (LR not U9))
  | str j=>obtain⟨t',rfl⟩:=G;show PySem.EqMixed.ne_int_str (Bz I q (by simp))
  | _=>show absurd (show false=true from hs) JX
 | str i=>
  obtain⟨t,rfl⟩:=O
  cases y with
  | AQ=>cases G;show PySem.EqNone.ne_str_none (Bz I q (by simp))
  | bl j=>cases G;show PySem.EqMixed.ne_str_bool (Bz I q (by simp))
  | int j=>obtain⟨t',rfl⟩:=G;show PySem.EqMixed.ne_str_int (Bz I q (by simp))
  | str j=>obtain⟨t',rfl⟩:=G;show ne_str (Bz I q (LR not U8))
  | _=>show absurd (show false=true from hs) JX
 | JE i=>
  obtain⟨t,rfl⟩:=O
  cases y with
  | JE j=>obtain⟨t',rfl⟩:=G;show PySem.W.ne_bytes (Bz I q (LR not Va))
  | _=>show absurd (show false=true from hs) JX
 | _=>cases y<;>show absurd (show false=true from hs) JX
def Yp:CO X (compareOp .Lt) (rI0 λi j=>.bl (decide (i<j))):=Ab7 λ_ _ _ _ _ _ _ q=>lt_int q
def Ii:CO X (compareOp .LtE) (rI0 λi j=>.bl (decide (i<=j))):=Ab7 λ_ _ _ _ _ _ _ q=>le_int q
def Uz:CO X (compareOp .Gt) (rI0 λi j=>.bl (decide (j<i))):=Ab7 λ_ _ _ _ _ _ _ q=>gt_int q
def Ag0:CO X (compareOp .GtE) (rI0 λi j=>.bl (decide (j<=i))):=Ab7 λ_ _ _ _ _ _ _ q=>ge_int q
def Mi:CO X (compareOp .Is) (λx y H Q=>y=.AQ/\Q (.bl (decide (x=.AQ))) H):=by
 intro pins s σ H x y v u Q I G O h;obtain⟨rfl,q⟩:=h;cases O;show is_none_gen (Bz I q ?_);cases x<;>first
  | (cases G;rfl)
  | (obtain⟨t,rfl⟩:=G;rfl)
def Px:CO X (compareOp .IsNot) (λx y H Q=>y=.AQ/\Q (.bl (!decide (x=.AQ))) H):=by
 intro pins s σ H x y v u Q I G O h;obtain⟨rfl,q⟩:=h;cases O;show isnot_none_gen (Bz I q ?_);cases x<;>first
  | (cases G;rfl)
  | (obtain⟨t,rfl⟩:=G;rfl)
def A1 (b:Expr)(h:op≠.In:=by decide)(h2:op≠.NotIn:=by decide):behindInMarks op b=false:=by
 have G:(op==CmpOp.In)=false:=by cases op<;>first|rfl|show absurd rfl h
 have O:(op==CmpOp.NotIn)=false:=by cases op<;>first|rfl|show absurd rfl h2
 cases b<;>simp[behindInMarks,G,O]
def Ab4 (ho:CO X (compareOp op) r)(ha:PE X a ta)(O:PE X b tb)(hm:behindInMarks op b=false):PE X (.Compare a [op] [b] pos) (tOp r ta tb):=by
 intro pins s σ H Q I h;show wpAny_Compare1 (binT ha O I h λv u s2 x y H2 G U Y q=>ho pins s2 σ H2 x y v u Q G U Y q) hm
def Uc (t:TE):TT:=λσ H Q=>t σ H λx H'=>∃k,x=.bl k/\Q k H'
def Z6 (ho:CO X (compareOp op) r)(ha:PE X a ta)(hb:PE X b tb)(hm:behindInMarks op b=false):PT X (.Compare a [op] [b] pos) (Uc (tOp r ta tb)):=by
 intro pins s σ H Q I h
 show wpAny_isTrue_Compare1 (AE (ha pins s σ H _ I h) λv s1 ⟨x,H1,O,r1,q1⟩=>AE (hb pins s1 σ H1 _ O q1) λu s2 ⟨y,H2,U,r2,q2⟩=>
  AE (ho pins s2 σ H2 x y v u _ U r1 r2 q2) λc s3 ⟨z,G,Y,r3,k,e,q3⟩=>?_) hm
 subst e;cases r3;show LQ (Aq G Y q3)
def Pg (r U:R2)(ta tb Y:TE):TE:=λσ H Q=>ta σ H λx H1=>tb σ H1 λy H2=>r x y H2 λz G=>∃k,z=.bl k /\
 (if k=true then Y σ G λw' O=>U y w' O Q else Q (.bl false) G)
def Yi (ho:CO X (compareOp op) r)(a1:CO X (compareOp Y) r')(ha:PE X a ta)(hb:PE X b tb)(hc:PE X c tc)
  (hm:lastMarks [op,Y] [b,c]=false:=by with_unfolding_all rfl):PE X (.Compare a [op,Y] [b,c] pos) (Pg r r' ta tb tc):=by
 intro pins s σ H Q I h
 show Compare_chain (AE (ha pins s σ H _ I h) λv s1 ⟨x,H1,I1,r1,q1⟩=>chain_link (AE (hb pins s1 σ H1 _ I1 q1) λu s2 ⟨y,H2,I2,r2,q2⟩=>
  AE (ho pins s2 σ H2 x y v u _ I2 r1 r2 q2) λd s3 ⟨z,G,O,r3,k,e,U⟩=>?_)) hm
 subst e;cases r3;show LQ ?_
 cases k with
 | false=>show ite_ff (Aw (.bl false) G O rfl U)
 | true=>show ite_tt (chain_last (AE (hc pins s3 σ G _ O U) λw' s4 ⟨z',H4,I4,r4,q4⟩=>a1 pins s4 σ H4 y z' u w' Q I4 r2 r4 q4))
def X3 (ho:CO X (compareOp op) r)(a1:CO X (compareOp Y) r')(ha:PE X a ta)(hb:PE X b tb)(hc:PE X c tc)
  (hm:lastMarks [op,Y] [b,c]=false:=by with_unfolding_all rfl):PT X (.Compare a [op,Y] [b,c] pos) (Uc (Pg r r' ta tb tc)):=by
 intro pins s σ H Q I h
 show isTrue_chain (AE (ha pins s σ H _ I h) λv s1 ⟨x,H1,I1,r1,q1⟩=>test_link (AE (hb pins s1 σ H1 _ I1 q1) λu s2 ⟨y,H2,I2,r2,q2⟩=>
  AE (ho pins s2 σ H2 x y v u _ I2 r1 r2 q2) λd s3 ⟨z,G,O,r3,k,e,U⟩=>?_)) hm
 subst e;cases r3;show LQ ?_
 cases k with
 | false=>
  show Am U λk' e' q'=>?_;cases e';show ite_ff (Aq G O q')
 | true=>
  show ite_tt (test_last (AE (hc pins s3 σ G _ O U) λw' s4 ⟨z',H4,I4,r4,q4⟩=>AE (a1 pins s4 σ H4 y z' u w' _ I4 r2 r4 q4) λd' s5 ⟨z2,H5,I5,r5,k2,e2,q5⟩=>?_));subst e2;cases r5;show LQ (Aq H5 I5 q5)
def Qf:(sizeLine:Nat)<2 ^ 63:=by rw[NJ];decide
def K5 (r:AF [x] us):∃u,us=[u]/\RelV x u:=by
 cases r with
 | cons r1 r2=>cases r2;show Ac rfl r1
def vals2 (r:AF [x,y] us):∃u G,us=[u,G]/\RelV x u/\RelV y G:=by
 cases r with
 | cons r1 r2=>
  cases r2 with
  | cons O U=>cases U;show Bu rfl r1 O
end
structure IC (h:Heap)(x dx C:Addr)(mA:Bv):Prop where
 obj:h.get? x=some (PySem.W.instObj C dx)
 ns:h.Ns1 dx mA
 ne:dx≠x
def Ow {h:Heap}{dx:Addr}{mA:Bv}(n:h.Ns1 dx mA):∃od,h.get? dx=some od/\∀name,PySem.W.lookIn name od=some (mA name):=by
 show Qn n λo es ep ho hd O _ hm=>Aq o ho λname=>?_;have e:=hm name;unfold nsFind findBy at e;rw[← Array.find?_toList]at e;unfold PySem.W.lookIn;rw[hd];dsimp only;split
 .rename_i y q;rw[q]at e;show LR some e
 .rename_i q;rw[q]at e;have a:es.toList.any (·.refKey)=false:=by
   rw[List.any_eq_false];intro y U;show G9 (O y (Array.mem_toList_iff.mp U)) λz t Y=>?_;simp[DictEntry.refKey,Y]
  have G:¬es.toList.any (·.refKey)=true:=by rw[a];show JX
  rw[JW G];show LR some e
def IC.look (I:IC h x dx C mA):∃od,PySem.W.InstAt h x (PySem.W.instObj C dx) C (some od)/\∀name,PySem.W.lookIn name od=some (mA name):=
 let ⟨od,ho,hl⟩:=Ow I.ns
 (Aq od ⟨I.obj,rfl,rfl,ho⟩ hl)
section
variable {prog:Program}{w:World}{A:Around}{E:Bf}{s:Shared}{K:A3}{x dx C f:Addr}{mA:Bv}{name:Str}{v:Value}
def Ad5 {Q:Bf}(X:K.In s.heap)(I:IC s.heap x dx C mA)(G:PySem.W.plainGet K C name=true)(O:PySem.W.hasDictIn K C=true)
  (ha:PySem.W.findIn K (.ref C) name=some none)(U:mA name=some v)(Y:PySem.W.handedIn v=true)(h:Q v {s with toks:=s.toks+1}) :
  wpAny (model prog w) A (getAttr (.ref x) name a1) Q E s:=by
 show Am I.look λod J hl=>PySem.W.get_value X J (PySem.W.plainGet_of G).1 (PySem.W.findObj_own O ha rfl (by rw[hl,U])) Y h
def Y2 {Q:Value×List Value->Shared->Prop}(X:K.In s.heap)(I:IC s.heap x dx C mA)(G:PySem.W.plainGet K C name=true)
  (O:PySem.W.findIn K (.ref C) name=some (some (.ref f)))(ht:PySem.W.isFn K (.ref f)=true)(U:mA name=none)(h:Q (.ref f,[.ref x]) s) :
  wpAny (model prog w) A (getMethod (.ref x) name pl) Q E s:=by
 show Am I.look λod J hl=>?_;show PySem.W.method_fn X J (PySem.W.plainGet_of G).1 (PySem.W.plainGet_of G).2 O (ND.mp ht) (by show(PySem.W.lookIn name od).map (·.isSome)=some false;rw[hl,U];rfl) h
def Zr {Q:Ju}(X:K.In s.heap)(I:IC s.heap x dx C mA)
  (hs:PySem.W.findIn K (.ref C) "__setattr__"=some (some (.builtin "object.__setattr__")))(Y:PySem.W.plainOver K C=true)(ht:PySem.W.takerIn K C name=some none)(U:PySem.W.hasDictIn K C=true)
  (hw:PySem.Within mA ns)(hsz:ns.length<=sizeLine)
  (h:∀h',IC h' x dx C (λy=>if y=name then some v else mA y)->Heap.SameBut dx s.heap h'->Q () {s with heap:=h',toks:=s.toks+2}) :
  wpAny (model prog w) A (setAttr (.ref x) name v) Q E s:=by
 show Am I.look λod J hl=>PySem.W.set_plain X J hs (PySem.W.osa_open (s:={s with toks:=s.toks+1}) (r:=none) X J Y ht λb=>Am (PySem.W.any_some U) λcd hc a2=>?_);have hx:s.heap.get? x=some ⟨.ref C,some dx,.plain,#[]⟩:=I.obj;show JH (JK (JH (JH (wpAny_loadPart hx (JH (PySem.W.Looks.here (s:={s with toks:=s.toks+1}) (PySem.W.looks_clsIn X hc) ?_))))));rw[a2];show JK (a:=some dx) (JH (JK (JH (wpAny_nsSet1 (s:={s with toks:=s.toks+1}) I.ns λh' G O=>Gp (G.count (PySem.Within.cons name v hw)) λoD a7 a6 a5 a4 a1=>?_))));show JH (wpAny_lookBehind a5 (by rw[a4];show pastItsLine_dict (JU a1 (by rw[KN];omega))) (JK (h _ ⟨(O.2 _ (ML I.ne)).trans I.obj,G,I.ne⟩ O)))
def Yv {R:Result->Shared->Prop}(X:K.In s.heap)(hm:PySem.W.makesIn K C=true)
   (hi:PySem.W.findIn K (.ref C) "__init__"=some (some (.ref f)))(O:PySem.W.typeIn K (.ref f)=some (.type "function"))
   (h:codeAny (model prog w) (A.under (.builtin "type.__call__" ⟨.ref C::vs,G⟩)) (.call (.ref f) ⟨.ref (s.heap.objs.size+1)::vs,G⟩) (PySem.W.InitBack (s.heap.objs.size+1) R)
     {s with heap:=(s.heap.push PySem.W.emptyDict).push (PySem.W.instObj C s.heap.objs.size)}) :
   codeAny (model prog w) A (.call (.ref C) ⟨vs,G⟩) R s:=by
 obtain⟨U,g,d,t,os⟩:=s;show PySem.W.make_core (PySem.W.makes_of X hm) (PySem.W.looks_findIn X hi) (λself=>PySem.W.bind_fn X self O) (.inl rfl) h
end
noncomputable def C8 (f:Str)(v:V):List (Str×V)->List (Str×V)
 | []=>[(f,v)]
 | (g,x)::r=>if g=f then(g,v)::r else(g,x)::C8 f v r
theorem Il (f g:Str)(v:V):∀fs:List (Str×V),(C8 f v fs).lookup g=if g=f then some v else fs.lookup g
 | []=>by
  show List.lookup g [(f,v)]=_
  by_cases h:g=f
  .have G:(g==f)=true:=ND.mpr h;simp only[List.lookup,G,KE h]
  .have G:(g==f)=false:=beq_eq_false_iff_ne.mpr h;simp only[List.lookup,G,JW h]
 | (k,x)::r=>by
  have U:=Il f g v r;rw[show C8 f v ((k,x)::r)=(if k=f then(k,v)::r else(k,x)::C8 f v r)from rfl];by_cases O:k=f
  .rw [KE O];by_cases h:g=k
   .have G:(g==k)=true:=ND.mpr h;simp only[List.lookup,G,KE (h.trans O)]
   .have G:(g==k)=false:=beq_eq_false_iff_ne.mpr h;simp only[List.lookup,G,JW (λe:g=f=>h (e.trans O.symm))]
  .rw [JW O];by_cases h:g=k
   .have G:(g==k)=true:=ND.mpr h;simp only[List.lookup,G,JW (λe:g=f=>O (h.symm.trans e))]
   .have G:(g==k)=false:=beq_eq_false_iff_ne.mpr h;simp only[List.lookup,G];show U
theorem K1 (f:Str)(v:V):∀fs:List (Str×V),f∈(C8 f v fs).map (·.1)/\∀g,g∈fs.map (·.1)->g∈(C8 f v fs).map (·.1)
 | []=>⟨by simp[C8],λg h=>by simp at h⟩
 | (k,x)::r=>by
  obtain⟨i1,i2⟩:=K1 f v r;rw[show C8 f v ((k,x)::r)=(if k=f then(k,v)::r else(k,x)::C8 f v r)from rfl];by_cases G:k=f
  .rw [KE G];subst G;show⟨by simp,λg h=>by simpa using h⟩
  .rw [JW G];show⟨?_,λg h=>?_⟩
   .rw [LK];show KO _ i1
   .rw [LK]at h ⊢
    rcases JS.mp h with e|e
    .show JS.mpr (.inl e)
    .show KO _ (i2 g e)
theorem K6 (f:Str)(v:V):∀fs:List (Str×V),(C8 f v fs).length<=fs.length+1
 | []=>by simp[C8]
 | (k,x)::r=>by
  have O:=K6 f v r;rw[show C8 f v ((k,x)::r)=(if k=f then(k,v)::r else(k,x)::C8 f v r)from rfl];by_cases G:k=f
  .rw [KE G,KN,KN];omega
  .rw [JW G,KN,KN];omega
def BP.some_of (r:BP (some v) o):∃u,o=some u/\RelV v u:=by
 cases o with
 | none=>show(show False from r).elim
 | some u=>show Aq u rfl r
def BP.none_of (r:BP none o):o=none:=by
 cases o with
 | none=>rfl
 | some u=>show(show False from r).elim
def O0 (r:RelV v u):PySem.W.handedIn u=true:=by
 cases v with
 | AQ=>cases(show u=Value.none from r);rfl
 | bl b=>cases(show u=Value.bool b from r);rfl
 | int i=>obtain⟨t,e⟩:=(show ∃t,u=Value.int i t from r);cases e;rfl
 | str x=>obtain⟨t,e⟩:=(show ∃t,u=Value.str x t from r);cases e;rfl
 | JE b=>obtain⟨t,e⟩:=(show ∃t,u=Value.bytes b t from r);cases e;rfl
 | flt b=>obtain⟨t,e⟩:=(show ∃t,u=Value.float b t from r);cases e;rfl
 | ref a=>cases(show u=Value.ref a from r);rfl
 | ty n=>cases(show u=Value.type n from r);rfl
section
def Lu (AJ:BH P w H h)(e:H a=some (.ins C dx fs)):∃mA,IC h a dx C mA/\(∀f,BP (fs.lookup f) (mA f))/\PySem.Within mA (fs.map (·.1))/\fs.length<=1000/\H dx=some (.own a):=by
 show Js ((show AL P w H h a (.ins C dx fs)from AJ a _ e)) λd z ne G z1=>Bp z1 λmA n r q=>Qj mA ⟨G,n,ne⟩ r q z d
end
structure HG (K:A3)(C:Addr):Prop where
 pg:PySem.W.plainGet K C Str.empty=true
 hd:PySem.W.hasDictIn K C=true
 po:PySem.W.plainOver K C=true
 sa:PySem.W.findIn K (.ref C) "__setattr__"=some (some (.builtin "object.__setattr__"))
def HG.get {K:A3}{C:Addr}(c:HG K C)(f:Str):PySem.W.plainGet K C f=true:=c.pg
def AR (K:A3)(C:Addr)(f:Str):Prop:=PySem.W.findIn K (.ref C) f=some none
def AR.taker {K:A3}{C:Addr}{f:Str}(n:AR K C f):PySem.W.takerIn K C f=some none:=by
 unfold PySem.W.takerIn;rw[show PySem.W.findIn K (.ref C) f=some none from n];rfl
structure EQ (K:A3)(C:Addr)(m:Str)(f:Addr):Prop where
 at_:PySem.W.findIn K (.ref C) m=some (some (.ref f))
 fn:PySem.W.isFn K (.ref f)=true
 kp:PySem.W.keepIn K (.ref f)=true
section
variable {E:Bf}
def M4 {Q:Bf}(I:Inv X pins σ H s)(e:H a=some (.ins C dx fs))(c:HG X.K C)(n:AR X.K C f)(l:fs.lookup f=some v)
  (h:∀u s',Inv X pins σ H s'->RelV v u->Q u s'):wpAny (model X.prog X.w) A (getAttr (.ref a) f b) Q E s:=by
 show Wi (Lu I.AJ e) λmA O r _ _ _=>?_;show Am (BP.some_of (v:=v) (o:=mA f) (by rw[← l];show r f)) λu U G=>Ad5 I.CQ O (c.get f) c.hd n U (O0 G) (h u _ (I.tok _) G)
def M3 {Q:Value×List Value->Shared->Prop}(I:Inv X pins σ H s)(e:H a=some (.ins C dx fs))(c:HG X.K C)(k:EQ X.K C m g)(l:fs.lookup m=none)
  (h:Q (.ref g,[.ref a]) s):wpAny (model X.prog X.w) A (getMethod (.ref a) m pl) Q E s:=by
 show Wi (Lu I.AJ e) λmA O r _ _ _=>?_;have hn:mA m=none:=BP.none_of (by rw[← l];show r m);show Y2 I.CQ O (c.get m) k.at_ k.fn hn h
def L6 {Q:Ju}(I:Inv X pins σ H s)(e:H a=some (.ins C dx fs))(c:HG X.K C)(n:AR X.K C f)(hl:fs.length<1000)(ry:RelV y u)
  (h:∀s',Inv X pins σ (upd H a (.ins C dx (C8 f y fs))) s'->Q () s'):wpAny (model X.prog X.w) A (setAttr (.ref a) f u) Q E s:=by
 show Wi (Lu I.AJ e) λmA O r U _ ho=>?_;have hz:(fs.map (·.1)).length<=sizeLine:=by rw[JR,NJ];omega
 show Zr I.CQ O c.sa c.po n.taker c.hd U hz λh' G sb=>h _ ?_;have hd:∃o,h'.get? dx=some o:=let ⟨o,_,_,Y,_⟩:=G.ns;⟨o,Y⟩
 show I.write (x:=a) (e:=dx) (by rw[e];show True.intro) (.inr ho) (λb q hb z=>(sb.2 b hb).trans z) hd ?_;show Fq (by rw[Ak O.ne];show ho) ?_ O.ne G.obj (A8 G.ns (λg=>?_) λg hg=>?_)
 .have:=K6 f y fs;omega
 .show BP ((C8 f y fs).lookup g) (if g=f then some u else mA g)
  rw[Il];by_cases q:g=f
  .rw [KE q,KE q];show ry
  .rw [JW q,JW q];show r g
 .by_cases q:g=f
  .rw [q];show(K1 f y fs).1
  .show (K1 f y fs).2 g (U g λz=>hg ?_)
   show(if g=f then some u else mA g)=none
   rw[JW q];show z
def Inv.made (I:Inv X pins σ H s):Inv X pins σ (upd (upd H s.heap.objs.size (.own (s.heap.objs.size+1))) (s.heap.objs.size+1) (.ins C s.heap.objs.size []))
  {s with heap:=(s.heap.push PySem.W.emptyDict).push (PySem.W.instObj C s.heap.objs.size)}:=by
 have G:(s.heap.push PySem.W.emptyDict).get? s.heap.objs.size=some PySem.W.emptyDict:=JO s.heap rfl;have U:((s.heap.push PySem.W.emptyDict).push (PySem.W.instObj C s.heap.objs.size)).get? (s.heap.objs.size+1)=some (PySem.W.instObj C s.heap.objs.size):=by
  have:=JO (s.heap.push PySem.W.emptyDict) (o:=PySem.W.instObj C s.heap.objs.size) rfl
  rwa [KZ]at this
 have Y:(s.heap.push PySem.W.emptyDict).Ns s.heap.objs.size (λ_=>none):=(Cr PySem.W.emptyDict (#[]) _ G rfl (λe he=>absurd he (by simp)) λ_=>rfl);have O:=I.laid (a:=s.heap.objs.size) (o:=.own (s.heap.objs.size+1)) (h':=s.heap.push PySem.W.emptyDict) (t':=s.toks) (λb u q=>JI _ q) (JN _) ⟨_,G⟩;show O.laid (a:=s.heap.objs.size+1) (o:=.ins C s.heap.objs.size []) (t':=s.toks) (λb u q=>JI _ q) (Nat.le_of_eq (KZ _ _)) ?_;have ne:s.heap.objs.size≠s.heap.objs.size+1:=JP (OG _);show Fq (by rw[Ak ne,Ag]) (LD _) ne U (Bc (λ_=>none) ((Heap.Ns1.of_empty Y).at λo q=>JI _ q) (λ_=>True.intro) λy hy=>absurd rfl hy)
def Vb {Q:Bf}(G:attributeBase e f env (eval e env)=eval e env)
  (h:wpAny (model prog w) A (eval e env) (λo O=>wpAny (model prog w) A (getAttr o f true) Q E O) E s):wpAny (model prog w) A (eval (.Attribute e f pos) env) Q E s:=
 Attribute_any_ h (by rw[arm_eval_Attribute,G])
end
def Xe (K:A3)(ta:TE)(f:Str):TE:=λσ H Q=>ta σ H λx H1=>∃a C dx fs v,x=.ref a/\H1 a=some (.ins C dx fs)/\HG K C/\AR K C f/\fs.lookup f=some v/\Q v H1
def sFld (K:A3)(ta G:TE)(f:Str):TS:=λD σ H=>G σ H λy H1=>ta σ H1 λx H2=>∃a C dx fs,x=.ref a/\H2 a=some (.ins C dx fs)/\HG K C/\AR K C f/\fs.length<1000 /\
 D.nx σ (upd H2 a (.ins C dx (C8 f y fs)))
def InOp (X:Cx)(op:Operator)(G:V->V->Hp->VK->Prop):Prop:=
 ∀(pins:Dh) (s:Shared) (σ:St) (H:Hp) (x y:V) (u v:Value) (Q:VK),Inv X pins σ H s->RelV x u->RelV y v->G x y H Q->wpAny (model X.prog X.w) X.A (inplaceOp op u v) (EP X pins σ Q) X.xe s
def Um (K:A3)(ta tv:TE)(Y:V->V->Hp->VK->Prop)(f:Str):TS:=λD σ H=>ta σ H λx H1=>∃a C dx fs v,x=.ref a/\H1 a=some (.ins C dx fs)/\HG K C/\AR K C f/\fs.lookup f=some v /\
 tv σ H1 λy H2=>Y v y H2 λz O=>∃U G,O a=some (.ins C U G)/\G.length<1000/\D.nx σ (upd O a (.ins C U (C8 f z G)))
section
def pe_fld (he:PE X e ta)(Y:attributeBase e f X.env (eval e X.env)=eval e X.env):PE X (.Attribute e f pos) (Xe X.K ta f):=by
 intro pins s σ H Q I h;show Vb Y (AE (he pins s σ H _ I h) λu s1 hq=>?_);show B7 hq λx H1 G rx z1=>Nz z1 λa C dx fs v ex U c n l q=>?_;subst ex;obtain rfl:u=Value.ref a:=rx;show M4 G U c n l λu' s2 O ru=>(Aw v H1 O ru q)
def ps_fld (ha:PE X o ta)(hv:PE X G tv)(hs:swapsWith G (some (.Attribute o f a1)) pos.line X.env=pure false):PS X (.Assign [.Attribute o f a1] G pos) (sFld X.K ta tv f):=by
 intro pins s σ H D I h;show plainObj_wpAny_Assign_Attribute (AE (hv pins s σ H _ I h) λu s1 ⟨y,H1,O,ry,q⟩=>AE (ha pins s1 σ H1 _ O q) λov s2 hq=>?_) hs;show B7 hq λx H2 U rx z1=>K3 z1 λa C dx fs ex ea c n l q2=>?_;subst ex;obtain rfl:ov=Value.ref a:=rx;show L6 U ea c n l ry λs3 Y=>(Ce σ _ Y q2)
def Vu {G:V->V->Hp->VK->Prop}(ha:PE X o ta)(hv:PE X a4 tv)(a2:InOp X op G):PS X (.AugAssign (.Attribute o f a7) op a4 pos) (Um X.K ta tv G f):=by
 intro pins s σ H D I h;show wpAny_AugAssign_AttributeAny (AE (ha pins s σ H _ I h) λov s1 ⟨x,H1,O,rx,a,C,dx,fs,v,ex,ea,c,n,l,q⟩=>?_);subst ex;obtain rfl:ov=Value.ref a:=rx;show M4 O ea c n l λu s2 U ru=>AE (hv pins s2 σ H1 _ U q) λw3 s3 ⟨y,H2,Y,ry,q3⟩=>AE (a2 pins s3 σ H2 v y u w3 _ Y ru ry q3) λw4 s4 ⟨z,H3,I4,rz,a5,a6,a1,l',q4⟩=>L6 I4 a1 c n l' rz λs5 I5=>(Ce σ _ I5 q4)
def rAdd:V->V->Hp->VK->Prop:=λx y H Q=>∃i j,x=.int i/\y=.int j/\Q (.int (i+j)) H
def Ty:InOp X .Add rAdd:=by
 rintro pins s σ H x y u v Q I G O ⟨i,j,rfl,rfl,q⟩;obtain⟨t,rfl⟩:=(show ∃t,u=Value.int i t from G);obtain⟨t',rfl⟩:=(show ∃t',v=Value.int j t' from O);show PyProof.Rows.iadd_int (Aw (.int (i+j)) H (I.tok _) ⟨_,rfl⟩ q)
end
section
variable {E:Bf}{Q:Bf}
inductive ED (K:A3)(H:Hp):V->Value->Prop where
 | AQ:ED K H .AQ (.type "NoneType")
 | bl (x:Bool):ED K H (.bl x) (.type "bool")
 | int (i:Int):ED K H (.int i) (.type "int")
 | str (x:Str):ED K H (.str x) (.type "str")
 | flt (x:UInt64):ED K H (.flt x) (.type "float")
 | lst {a:Addr} {xs:List V} (e:H a=some (.lst xs)):ED K H (.ref a) (.type "list")
 | EM {a:Addr} {o:Obj} {xs:List V} (e:H a=some (.EM o (.lst xs))):ED K H (.ref a) (.type "list")
 | tup {a:Addr} {xs:List V} (e:H a=some (.tup xs)):ED K H (.ref a) (.type "tuple")
 | dK {a:Addr} {kvs:List (Key×V)} (e:H a=some (.dK kvs)):ED K H (.ref a) (.type "dict")
 | dT {a:Addr} {kvs:List (List Key×V)} (e:H a=some (.dT kvs)):ED K H (.ref a) (.type "dict")
 | ins {a C dx:Addr} {fs:List (Str×V)} (e:H a=some (.ins C dx fs)) (cl:HG K C) (ha:PySem.W.findIn K (.ref C) "__class__"=some (some (.builtin "object.__class__")))
   (hn:PySem.W.specialIn K (.builtin "object.__class__") "__get__"=some (some (.builtin "getset_descriptor.__get__")))(htk:PySem.W.takesIn K (.builtin "object.__class__")=some true)
   (hm:PySem.W.mroIn K C (.type "object")=some true):ED K H (.ref a) (.ref C)
def V7 (I:Inv X pins σ H s)(U:RelV x u)(ty:ED X.K H x t)(e:PySem.W.kitOne X.K t c=some b)(h:∀tk,Q (.bool b) {s with toks:=tk}) :
  wpAny (model X.prog X.w) A (call (.builtin "isinstance") [u,c]) Q E s:=by
 cases ty with
 | AQ=>cases(show u=Value.none from U);show LZ PySem.W.kitx_none I.CQ True.intro e (λz=>nomatch z) h
 | bl y=>cases(show u=Value.bool y from U);show LZ PySem.W.kitx_bool I.CQ True.intro e (λz=>nomatch z) h
 | int i=>obtain⟨t,q⟩:=(show ∃t,u=Value.int i t from U);cases q;show LZ PySem.W.kitx_int I.CQ True.intro e (λz=>nomatch z) h
 | str y=>obtain⟨t,q⟩:=(show ∃t,u=Value.str y t from U);cases q;show LZ PySem.W.kitx_str I.CQ True.intro e (λz=>nomatch z) h
 | flt y=>obtain⟨t,q⟩:=(show ∃t,u=Value.float y t from U);cases q;show LZ PySem.W.kitx_float I.CQ True.intro e (λz=>nomatch z) h
 | @lst a xs G=>
  cases(show u=Value.ref a from U);show D7 ((show AL X.prog X.w H s.heap a (.lst xs)from I.AJ a _ G)) λ_ z1=>B5 z1 λ_ n _ h1=>LZ PySem.W.kitx_list I.CQ (Ac h1 rfl) e (λz=>nomatch z) h
 | @EM a Y xs G=>
  cases(show u=Value.ref a from U);show B9 ((show AL X.prog X.w H s.heap a (.EM Y (.lst xs))from I.AJ a _ G)) λ_ _ z1=>B5 z1 λ_ n _ h1=>LZ PySem.W.kitx_list I.CQ (Ac h1 rfl) e (λz=>nomatch z) h
 | @tup a xs G=>
  cases(show u=Value.ref a from U);show D7 ((show AL X.prog X.w H s.heap a (.tup xs)from I.AJ a _ G)) λ_ z1=>Am z1 λ_ _ p=>Bp p λo h1 h2 _=>LZ PySem.W.kitx_tuple I.CQ (Aq o h1 h2) e (λz=>nomatch z) h
 | @dK a kvs G=>
  cases(show u=Value.ref a from U);show B9 ((show AL X.prog X.w H s.heap a (.dK kvs)from I.AJ a _ G)) λ_ _ z1=>Am z1 λvs _ p=>Gp p λo es ep h1 h2 _=>LZ PySem.W.kitx_dict I.CQ (Aq o h1 h2.1) e (λz=>nomatch z) h
 | @dT a kvs G=>
  cases(show u=Value.ref a from U);show B9 ((show AL X.prog X.w H s.heap a (.dT kvs)from I.AJ a _ G)) λ_ _ z1=>Am z1 λxs _ z2=>Gp z2 λo es ep h1 h2 _=>LZ PySem.W.kitx_dict I.CQ (Aq o h1 h2.1) e (λz=>nomatch z) h
 | @ins a C dx fs G cl ha hn htk hm=>
  cases(show u=Value.ref a from U);show Am (Lu I.AJ G) λmA O _=>Am O.look λod J _=>LZ (PySem.W.kitx_own (cl.get _) cl.hd ha hn htk hm) I.CQ J e (λz=>nomatch z) h
end
structure AV (k:Nat)(A:Around):Prop where
 hd:A.handled=none
 dp:A.depth+3*k+5<recursionLimit
 un:A.units+16*k+200<cLine
def AV.mono (r:AV k A)(h:j<=k):AV j A:=⟨r.hd,by have:=r.dp;omega,by have:=r.un;omega⟩
def AV.deeper (r:AV (k+1) A)(env:Env):AV k (A.deeper env):=
 ⟨r.hd,by have:=r.dp;show A.depth+1+3*k+5<_;omega,by have:=r.un;show A.units+3+16*k+200<_;omega⟩
def Tr {A:Around}{C:Addr}{us:List Value}{G:List (Str×Value)}:(A.under (.builtin "type.__call__" ⟨.ref C::us,G⟩)).depth=A.depth+1:=by
 first|rfl|simp[Around.under,Code.weight,Code.isCreation,Code.isGuard,Code.isCaller,Code.frames,Code.isFrame,guardIds]
def Tq {A:Around}{C:Addr}{us:List Value}{G:List (Str×Value)}:(A.under (.builtin "type.__call__" ⟨.ref C::us,G⟩)).units=A.units+1:=by
 first|rfl|simp[Around.under,Code.cUnits,Code.frames,Code.isFrame]
def AV.make (r:AV (k+1) A)(C:Addr)(us:List Value)(G:List (Str×Value)):AV k (A.under (.builtin "type.__call__" ⟨.ref C::us,G⟩)):=
 ⟨r.hd,by have:=r.dp;rw[Tr];omega,by have:=r.un;rw[Tq];omega⟩
def AV.depth (r:AV k A):A.depth<recursionLimit:=by have:=r.dp;omega
def AV.units (r:AV k A):A.units+64<cLine:=by have:=r.un;omega
def Q0:TA:=λ_ H Q=>Q [] H
def Ia (ta:TE)(G:TA):TA:=λσ H Q=>ta σ H λx H1=>G σ H1 λxs H2=>Q (x::xs) H2
section
def pa_nil:PA X [] Q0:=λ_ _ _ _ H Q I h=>Calls.spliced_nil (Aw [] H I .nil h)
abbrev Hc (X:Cx)(e:Expr)(es:List Expr):Prop:=starEach (e::es) X.env=(false,eval e X.env)::starEach es X.env
def Ab6 (ha:PE X e te)(U:PA X es t)(hs:Hc X e es:=by rfl):PA X (e::es) (Ia te t):=by
 intro pos pins s σ H Q I h;rw[hs]
 show wpAny _ _ (spliced ((false,eval e X.env)::backTo pos (starEach es X.env))) _ _ s
 show Calls.spliced_cons (AE (ha pins s σ H _ I h) λu s1 ⟨x,H1,G,r1,Y⟩=>AE (U pos pins s1 σ H1 _ G Y) λus s2 ⟨xs,H2,O,r2,q2⟩=>(Aw (x::xs) H2 O (.cons r1 r2) q2))
def Zo (t:TA):TE:=λσ H Q=>t σ H λxs H1=>xs.length<=sizeLine/\∀p,H1 p=none->Q (.ref p) (upd H1 p (.tup xs))
def tLst (t:TA):TE:=λσ H Q=>t σ H λxs H1=>xs.length<=sizeLine/\∀p,H1 p=none->Q (.ref p) (upd H1 p (.lst xs))
def pe_tup {Y}(h:PA X es t):PE X (.Tuple es Y pos) (Zo t):=by
 intro pins s σ H Q I U;show wpAny_Tuple_spliced (AE (h pos pins s σ H _ I U) λus s1 ⟨xs,H1,G,r,z,q⟩=>⟨by rw[← r.length];show z,?_⟩);have O:H1 s1.heap.objs.size=none:=G.AJ.fresh (JN _);show Aw (.ref s1.heap.objs.size) (upd H1 s1.heap.objs.size (.tup xs)) (G.laid (t':=s1.toks) (λb u e=>JI _ e) (JN _) ?_) rfl (q _ O);show⟨⟨z,(Ac (JO _ rfl) rfl)⟩,(Aq us r (A8 (JO _ rfl) rfl ⟨_,rfl⟩))⟩
def pe_lst (h:PA X es t):PE X (.List es pos) (tLst t):=by
 intro pins s σ H Q I U;show wpAny_List_spliced (AE (h pos pins s σ H _ I U) λus s1 ⟨xs,H1,G,r,z,q⟩=>⟨by rw[← r.length];show z,?_⟩);have O:H1 s1.heap.objs.size=none:=G.AJ.fresh (JN _);show Aw (.ref s1.heap.objs.size) (upd H1 s1.heap.objs.size (.lst xs)) (G.laid (t':=s1.toks) (λb u e=>JI _ e) (JN _) ?_) rfl (q _ O);show⟨z,(Ce us 0 r (JO _ rfl))⟩
end
abbrev Sp:=List V->Hp->VK->XK->Prop
abbrev IJ:=List Env->Hp->Shared->XK->Value->Shared->Prop
structure GO (P:Program)(w:World)(K:A3)(mg:Bv)(base:Heap)(A:Around)(outer:List Env)(s:Shared)(H:Hp):Prop where
 frames:A.frames=some outer
 mod:Mod K mg base
 bs:∀b o,base.get? b=some o->s.heap.get? b=some o/\H b=none
 IS:base.objs.size<=s.heap.objs.size
 DY:s.heap.FunFrames base outer
 frf:∀b∈CP outer,H b=none
 AJ:BH P w H s.heap
 bare:AllBare s.gens
def CE (outer:List Env)(P:Program)(w:World)(H:Hp)(s:Shared)(Q:VK)(u:Value)(s':Shared):Prop:=
 ∃v H',s'.os=s.os/\AllBare s'.gens/\Un (CP outer) [] H H' s.heap s'.heap/\BH P w H' s'.heap/\RelV v u/\Q v H'
def CR (CX:IJ)(outer:List Env)(P:Program)(w:World)(H:Hp)(s:Shared)(Q:VK)(E:XK)(r:Result)(s':Shared):Prop:=
 match r with
 | .ok (.ret u)=>CE outer P w H s Q u s'
 | .ok _=>False
 | .error e=>CX outer H s E e s'
structure AD (P:Program)(w:World)(K:A3)(mg:Bv)(base:Heap)(CX:IJ)(k:Nat)(f:Addr)(fd:FuncData)(ps:List Str)(sp:Sp):Prop where
 len:∀vs H Q E,sp vs H Q E->vs.length=ps.length
 run:∀(A:Around) (outer:List Env) (s:Shared) (H:Hp) (args:Args) (us:List Value) (vs:List V) (Q:VK) (E:XK),AV k A->GO P w K mg base A outer s H->BindsTo s fd args (ps.zip us)->AF vs us->sp vs H Q E ->
  codeAny (model P w) A (.call (.ref f) args) (CR CX outer P w H s Q E) s
def AD.mono {P:Program}{w:World}{K:A3}{mg:Bv}{base:Heap}{CX:IJ}{j k:Nat}{f:Addr}{fd:FuncData}{ps:List Str}{sp:Sp}(F:AD P w K mg base CX j f fd ps sp)(h:j<=k) :
  AD P w K mg base CX k f fd ps sp:=⟨F.len,λA outer s H args us vs Q E G=>F.run A outer s H args us vs Q E (G.mono h)⟩
def GO.make {P:Program}{w:World}{K:A3}{mg:Bv}{base:Heap}{A:Around}{outer:List Env}{s:Shared}{H:Hp}(e:GO P w K mg base A outer s H)(C:Addr)(us:List Value)(G:List (Str×Value)) :
  GO P w K mg base (A.under (.builtin "type.__call__" ⟨.ref C::us,G⟩)) outer s H:=⟨by first|show e.frames|(simpa [Around.under,Code.envs,Code.isFrame,pushEnvs]using e.frames),e.mod,e.bs,e.IS,e.DY,e.frf,e.AJ,e.bare⟩
section
def Inv.env0 (I:Inv X pins σ H s):GO X.prog X.w X.K X.mg X.base X.A X.stack s H:=
 ⟨I.ok.frames,I.ok.mod,I.bs,JU I.ok.IS I.sz,I.stack,I.DG,I.AJ,I.bare⟩
def Inv.after (I:Inv X pins σ H s)(h:CE X.stack X.prog X.w H s Q u s'):EP X pins σ Q u s':=by
 show Fs h λv H' os bare un AJ r q=>?_;obtain⟨G,g,d,t,O⟩:=s';obtain rfl:O=s.os:=os;show Aw v H' (I.call (h':=G) (g':=g) (d':=d) (t':=t) (ch:=[]) un AJ bare (λb z=>absurd z (by simp))) r q
end
def Q2 (sp:Sp)(dvs:List V)(E:XK)(t:TA):TE:=λσ H Q=>t σ H λvs H1=>sp (vs++dvs) H1 Q E
def Ue (C:Addr)(m:Str)(sp:Sp)(dvs:List V)(E:XK)(ta:TE)(t:TA):TE:=λσ H Q=>ta σ H λx H1=>∃a dx fs,x=.ref a/\H1 a=some (.ins C dx fs)/\fs.lookup m=none /\
 t σ H1 λvs H2=>sp (x::(vs++dvs)) H2 Q E
def Ae7 (C:Addr)(sp:Sp)(dvs:List V)(E:XK)(t:TA):TE:=λσ H Q=>t σ H λvs H1=>∀x dx,H1 x=none->H1 dx=none->dx≠x ->
 sp (.ref x::(vs++dvs)) (upd (upd H1 dx (.own x)) x (.ins C dx [])) (λv H2=>v=.AQ/\Q (.ref x) H2) E
def Binds (K:A3)(fd:FuncData)(ps:List Str)(ds:List Value):Prop:=
 ∀(s:Shared) (us:List Value),K.In s.heap->(us++ds).length=ps.length->BindsTo s fd ⟨us,[]⟩ (ps.zip (us++ds))
def Binds.all {K:A3}(h:∀us:List Value,us.length=ps.length->bindArgs fd ⟨us,[]⟩=pure (ps.zip us)):Binds K fd ps []:=λs us _ hl=>by
 rw[List.append_nil]at hl ⊢;show .of_eq (h us hl)
def Ev (CX:IJ)(X:Cx)(E:XK):Prop:=∀(pins:Dh) (σ:St) (H:Hp) (s:Shared) (e:Value) (s':Shared),Inv X pins σ H s->CX X.stack H s E e s'->X.xe e s'
section
def Pp (F:AD X.prog X.w X.K X.mg X.base CX k f fd ps sp)(U:AV k X.A)(O:Binds X.K fd ps ds)(hd:AF dvs ds)(Y:Ev CX X E)
  (I:Inv X pins σ H s)(r:AF vs us)(h:sp (vs++dvs) H Q E):wpAny (model X.prog X.w) X.A (call (.ref f) us) (EP X pins σ Q) X.xe s:=by
 have r2:AF (vs++dvs) (us++ds):=r.append hd;have hl:(us++ds).length=ps.length:=by rw[← r2.length];show F.len _ _ _ _ h
 show OS (MH (F.run X.A X.stack s H ⟨us,[]⟩ (us++ds) (vs++dvs) Q E U I.env0 (O s us I.CQ hl) r2 h) λr s' G=>?_)
 cases r with
 | error e=>show Y pins σ H s e s' I G
 | ok fl=>
  cases fl with
  | ret u=>show I.after G
  | next=>show False.elim G
  | brk=>show False.elim G
  | cont=>show False.elim G
abbrev Hx (X:Cx)(p:Pos)(es:List Expr):Prop:=(backTo p (starEach es X.env)).any (·.1)=false
def Uu (F:AD X.prog X.w X.K X.mg X.base CX k f fd ps sp)(hr:AV k X.A)(Y:Gl X x)(hm:X.mg x=some (.ref f))(hk:PySem.W.keepIn X.K (.ref f)=true)(O:Binds X.K fd ps ds)(hd:AF dvs ds)(hx:Ev CX X E)
  (ha:PA X (e::es) t)(a1:Di x:=by decide)(U:Hc X e es:=by rfl)(a2:Hx X pos es:=by rfl) :
  PE X (.Call (.Name x p) (e::es) [] pos) (Q2 sp dvs E t):=by
 intro pins s σ H Q I h;show MS (Fv I Y hm (NS (h₀:=X.base) I.ok.mod.JB hk (AE (ha pos pins s σ H _ I h) λus s1 ⟨vs,H1,G,r,q⟩=>⟨G.CQ,Pp F hr O hd hx G r q⟩) U a2) a1)
def Aa6 (he:PE X o ta)(c:HG X.K C)(hm:EQ X.K C m f)(F:AD X.prog X.w X.K X.mg X.base CX k f fd ps sp)(hr:AV k X.A)(hb:Binds X.K fd ps ds)(hd:AF dvs ds)(hx:Ev CX X E)(ha:PA X (e::es) t)
   (a2:Hc X e es:=by rfl)(a1:Hx X pos es:=by rfl)
   (ht:eval (.Call (.Attribute o m apos) (e::es) [] pos) X.env=(do
     let U ← eval o X.env
     standAt apos.atName
     let (f,first) ← holding [U] (getMethod U m pl)
     callWith pos f first (backTo pos (starEach (e::es) X.env)) (backToKw pos (keywordEach [] X.env))):=by rfl) :
   PE X (.Call (.Attribute o m apos) (e::es) [] pos) (Ue C m sp dvs E ta t):=by
 intro pins s σ H Q I h;show PySem.W.methodCall_KW (pl:=pl) (AE (he pins s σ H _ I h) λu s1 ⟨x,H1,G,rx,a,dx,fs,ex,Y,l,q⟩=>?_) ht;subst ex;obtain rfl:u=Value.ref a:=rx;show M3 G Y c hm l (NS (first:=[.ref a]) (h₀:=X.base) I.ok.mod.JB hm.kp (AE (ha pos pins s1 σ H1 _ G q) λus s2 ⟨vs,H2,O,r,q2⟩=>⟨O.CQ,Pp (us:=.ref a::us) (vs:=.ref a::vs) F hr hb hd hx O (.cons rfl r) q2⟩) a2 a1)
def Yd (he:PE X o ta)(c:HG X.K C)(hm:EQ X.K C m f)(F:AD X.prog X.w X.K X.mg X.base CX k f fd ps sp)(hr:AV k X.A)(Y:Binds X.K fd ps ds)(hd:AF dvs ds)(hx:Ev CX X E)
   (ht:eval (.Call (.Attribute o m apos) [] [] pos) X.env=(do
     let O ← eval o X.env
     standAt apos.atName
     let (f,first) ← holding [O] (getMethod O m pl)
     callWith pos f first (backTo pos (starEach [] X.env)) (backToKw pos (keywordEach [] X.env))):=by rfl) :
   PE X (.Call (.Attribute o m apos) [] [] pos) (Ue C m sp dvs E ta Q0):=by
 intro pins s σ H Q I h;show PySem.W.methodCall_KW (pl:=pl) (AE (he pins s σ H _ I h) λu s1 ⟨x,H1,G,rx,a,dx,fs,ex,U,l,q⟩=>?_) ht;subst ex;obtain rfl:u=Value.ref a:=rx;show M3 G U c hm l (PySem.W.callWith_K0 (first:=[.ref a]) G.CQ hm.kp (Pp (us:=[.ref a]) (vs:=[.ref a]) F hr Y hd hx G (.cons rfl .nil) q))
structure Mk (K:A3)(C f:Addr):Prop where
 makes:PySem.W.makesIn K C=true
 init:PySem.W.findIn K (.ref C) "__init__"=some (some (.ref f))
 fn:PySem.W.isFn K (.ref f)=true
 kp:PySem.W.keepIn K (.ref C)=true
def Xq (M:Mk X.K C f)(F:AD X.prog X.w X.K X.mg X.base CX k f fd ps sp)(hr:AV (k+1) X.A)(hb:Binds X.K fd ps ds)(hd:AF dvs ds)
  (hx:Ev CX X E)(I:Inv X pins σ H s)(r:AF vs us)
  (h:∀x dx,H x=none->H dx=none->dx≠x->sp (.ref x::(vs++dvs)) (upd (upd H dx (.own x)) x (.ins C dx [])) (λv H2=>v=.AQ/\Q (.ref x) H2) E) :
  wpAny (model X.prog X.w) X.A (call (.ref C) us) (EP X pins σ Q) X.xe s:=by
 have U:=h (s.heap.objs.size+1) s.heap.objs.size (I.AJ.fresh (OU _)) (I.AJ.fresh (JN _)) (JP (OG _));have O:=Inv.made (C:=C) I;have r2:AF (V.ref (s.heap.objs.size+1)::(vs++dvs)) (Value.ref (s.heap.objs.size+1)::(us++ds)):=.cons rfl (r.append hd);have hl:(Value.ref (s.heap.objs.size+1)::us++ds).length=ps.length:=by
  have e:=r2.length;rw[F.len _ _ _ _ U]at e;show e.symm
 show OS (Yv (f:=f) I.CQ M.makes M.init (ND.mp M.fn) (MH (F.run _ X.stack _ _ ⟨Value.ref (s.heap.objs.size+1)::us,[]⟩ (Value.ref (s.heap.objs.size+1)::(us++ds)) _ _ E (hr.make C us [])
  (O.env0.make C us []) (hb _ (Value.ref (s.heap.objs.size+1)::us) O.CQ hl) r2 U) λr s' G=>?_))
 cases r with
 | error e=>show hx pins σ _ _ e s' O G
 | ok fl=>
  cases fl with
  | ret u=>
   show Fw (O.after G) λv H' Y rv ev q3=>?_;subst ev;show⟨rv,(Aw (V.ref (s.heap.objs.size+1)) H' Y rfl q3)⟩
  | next=>show False.elim G
  | brk=>show False.elim G
  | cont=>show False.elim G
def Aa7 (M:Mk X.K C f)(F:AD X.prog X.w X.K X.mg X.base CX k f fd ps sp)(hr:AV (k+1) X.A)(Y:Gl X x)(hm:X.mg x=some (.ref C))(O:Binds X.K fd ps ds)(hd:AF dvs ds)(hx:Ev CX X E)
  (ha:PA X (e::es) t)(a1:Di x:=by decide)(U:Hc X e es:=by rfl)(a2:Hx X pos es:=by rfl) :
  PE X (.Call (.Name x p) (e::es) [] pos) (Ae7 C sp dvs E t):=by
 intro pins s σ H Q I h;show MS (Fv I Y hm (NS (h₀:=X.base) I.ok.mod.JB M.kp (AE (ha pos pins s σ H _ I h) λus s1 ⟨vs,H1,G,r,q⟩=>⟨G.CQ,Xq M F hr O hd hx G r q⟩) U a2) a1)
end
section
end
structure AB (N P:List Str)(sc:Scope):Prop where
 kind:sc.kind=.function
 co:sc.isCoroutine=false
 gen:sc.isGenerator=false
 nd:N.Nodup
 pre:N.take P.length=P
 par:∀x∈P,sc.names.lookup x=some .local\/sc.names.lookup x=some .cell
 nofree:∀y∈sc.names,y.2≠.free
theorem Pa {kindOf:Str->Option NameKind}:∀{binds:List (Str×Value)} {m:Bv},(∀v,(x,v)∉binds)->bindL kindOf binds m x=m x
 | [],_,_=>rfl
 | (n,v)::r,m,h=>by
  unfold bindL;rw[Pa λw G=>h w (KO _ G)];split
  .have:x≠n:=by rintro rfl;show h v LH
   simp[this]
  .rfl
theorem Pc {kindOf:Str->Option NameKind}:∀{binds:List (Str×Value)} {m:Bv},(∀v,(x,v)∉binds)->bindC kindOf binds m x=m x
 | [],_,_=>rfl
 | (n,v)::r,m,h=>by
  unfold bindC;rw[Pc λw G=>h w (KO _ G)];split
  .rfl
  .have:x≠n:=by rintro rfl;show h v LH
   simp[this]
theorem Pb {kindOf:Str->Option NameKind}{x:Str}{v:Value}:∀{P:List Str} {vs:List Value} {i:Nat} {m:Bv},P.Nodup->P[i]?=some x->vs[i]?=some v->kindOf x=some .local ->
  bindL kindOf (P.zip vs) m x=some v
 | [],_,_,_,_,h,_,_=>by simp at h
 | _::_,[],_,_,_,_,h,_=>by simp at h
 | p::P,w::vs,0,m,nd,h1,h2,G=>by
  simp at h1 h2;subst h1 h2
  show bindL kindOf ((p,w)::P.zip vs) m p=_
  unfold bindL;rw[Pa λv O=>(NH.mp nd).1 (List.of_mem_zip O).1,KE G];simp
 | p::P,w::vs,i+1,m,nd,h1,h2,G=>by
  show bindL kindOf ((p,w)::P.zip vs) m x=_
  unfold bindL;show Pb (i:=i) (NH.mp nd).2 (by simpa using h1) (by simpa using h2) G
theorem Pd {kindOf:Str->Option NameKind}{x:Str}{v:Value}:∀{P:List Str} {vs:List Value} {i:Nat} {m:Bv},P.Nodup->P[i]?=some x->vs[i]?=some v->kindOf x≠some .local ->
  bindC kindOf (P.zip vs) m x=some v
 | [],_,_,_,_,h,_,_=>by simp at h
 | _::_,[],_,_,_,_,h,_=>by simp at h
 | p::P,w::vs,0,m,nd,h1,h2,G=>by
  simp at h1 h2;subst h1 h2
  show bindC kindOf ((p,w)::P.zip vs) m p=_
  unfold bindC;rw[Pc λv O=>(NH.mp nd).1 (List.of_mem_zip O).1,JW G];simp
 | p::P,w::vs,i+1,m,nd,h1,h2,G=>by
  show bindC kindOf ((p,w)::P.zip vs) m x=_
  unfold bindC;show Pd (i:=i) (NH.mp nd).2 (by simpa using h1) (by simpa using h2) G
noncomputable def start (N:List Str)(vs:List V):St:=vs.map some++List.replicate (N.length-vs.length) none
noncomputable def Na (CX:IJ)(P:Program)(w:World)(K:A3)(mg:Bv)(base:Heap)(N:List Str)(qual:Str)(scope:Scope)(f:Addr)(cd:Value)(A:Around)(outer:List Env)(s:Shared)(H:Hp)(E:XK):Cx where
 prog:=P
 w:=w
 K:=K
 mg:=mg
 base:=base
 A:=A.deeper (envOfC qual scope s.heap.objs.size f cd)
 N:=N
 s₀:=s
 H₀:=H
 env:=envOfC qual scope s.heap.objs.size f cd
 outer:=outer
 stack:=envOfC qual scope s.heap.objs.size f cd::outer
 ex:=[]
 calm:=true
 fn:=λ_=>true
 pn:=[]
 xe:=λe s'=>wpAny (model P w) (A.deeper (envOfC qual scope s.heap.objs.size f cd)) (leaving (envOfC qual scope s.heap.objs.size f cd) e) (λ_ G=>CX outer H s E e G) (λO G=>CX outer H s E O G) s'
def Sa {sc:Scope}{n:Nat}{x:Str}(h:sc.names.lookup x=some .cell):∃c,(cellsFrom n sc.names []).lookup x=some c:=by
 have q:=PySem.W.cellsFrom_some sc.names n [] (.inl h);show Option.isSome_iff_exists.mp q
def Oz {CX:IJ}{P:Program}{w:World}{K:A3}
  (S:AB N ps scope)(hd:A.handled=none)(G:GO P w K mg base A outer s H)(hl:vs.length=ps.length)(r:AF vs us)
  (x:InCallC s s.heap.objs.size (bindL (envOfC qual scope s.heap.objs.size f cd).kindOf (ps.zip us) λ_=>none) (cellsFrom (s.heap.objs.size+1) scope.names []) (bindC (envOfC qual scope s.heap.objs.size f cd).kindOf (ps.zip us) λ_=>none) s1) :
  Inv (Na CX P w K mg base N qual scope f cd A outer s H E) [] (start N vs) H s1:=by
 have a2:ps.length<=N.length:=by have:=LR List.length S.pre;rw[NC]at this;omega
 show B5 x.done λh1 tk z1 hk=>?_;subst z1;have Y:∀b:Addr,b∉(Na CX P w K mg base N qual scope f cd A outer s H E).ex:=λb z=>absurd (show b∈([]:List Addr)from z) (by simp)
 show⟨⟨G.mod,S.kind,rfl,rfl,JN _,λy z c h1 h2=>?_,λy O=>?_,λy c _ h=>?_,λ_=>hd,Around.frames_deeper G.frames,.inr ⟨rfl,rfl⟩,λb z=>absurd z (Y b),G.bs,G.IS,λb _ _=>Y b,λb z=>absurd z (Y b),G.DY,G.frf⟩,
  rfl,G.bare,Un.kept hk,(Ac x.toInCall.ns λi y v h1 h2 h3=>?_),λy c h=>⟨_,x.cell y c h⟩,G.AJ.fresh (JN _),λy c h=>?_,λp U=>absurd (show p∈([]:List (Addr×Obj))from U) (by simp),G.AJ.kept hk,?_⟩
 .show name_of_addr x.apart (LA h1) (LA h2)
 .have O:scope.names.lookup y=some .cell\/scope.names.lookup y=some .free:=O
  rcases O with O|O
  .show Sa O
  .show absurd rfl (S.nofree _ (LA O))
 .show Nat.le_of_lt (x.above y c (LA h))
 .have hi:i<vs.length:=by
   unfold start at h2;by_cases hi:i<vs.length
   .show hi
   .rw [OB (by simpa using hi)]at h2;rw[LP]at h2;split at h2<;>cases h2
  have ha:vs[i]?=some v:=by
   unfold start at h2;rw[OI (by simpa using hi),KP]at h2
   cases e:vs[i]? with
   | none=>rw[e]at h2;cases h2
   | some a=>rw[e]at h2;cases h2;rfl
  show Am (r.get ha) λu hu rv=>?_;have U:ps[i]?=some y:=by
   rw[← S.pre,List.getElem?_take_of_lt (by omega)];show h1
  have a1:ps.Nodup:=by rw[← S.pre];show S.nd.sublist (List.take_sublist _ _)
  show Aq u rv ?_
  rcases S.par y (JJ U)with k|k
  .show .inl ⟨k,Pb a1 U hu k⟩
  .obtain⟨c,e⟩:=Sa (n:=s.heap.objs.size+1) k;show .inr ⟨.inl k,(Aq c e ?_)⟩;have q:=x.cell y c e;rw[Pd a1 U hu (by show scope.names.lookup y≠_;rw[k];decide)]at q;show q
 .show G.AJ.fresh (Nat.le_of_lt (x.above y c (LA h)))
 .unfold start
  show _=N.length
  rw[JV,JR,MN];omega
def Y6 {CX:IJ}{P:Program}{w:World}{K:A3}{mg:Bv}{base:Heap}{k:Nat}{f:Addr}{name qual:Str}{params:Arguments}{body:List Stmt}{scope:Scope}{Y kV doc pm cdv ct oc:Value}{an od:Option Addr}
   {osl:Array (Option Value)}{N ps:List Str}{sp:Sp}(lk:K.lookup f=some ⟨oc,od,.func (PySem.W.fnOf name qual params body scope Y kV doc pm an cdv ct),osl⟩)(a2:PySem.W.codeIn K cdv qual=true)(S:AB N ps scope)
   (len:∀vs H Q E,sp vs H Q E->vs.length=ps.length)
   (a5:∀(A:Around) (outer:List Env) (s:Shared) (H:Hp) (vs:List V) (Q:VK) (E:XK),AV k (A.deeper (envOfC qual scope s.heap.objs.size f cdv))->sp vs H Q E ->
     ∃t,HU (Na CX P w K mg base N qual scope f cdv A outer s H E) body t/\t {nx:=λ_ H'=>Q .AQ H',rt:=Q} (start N vs) H) :
   AD P w K mg base CX (k+1) f (PySem.W.fnOf name qual params body scope Y kV doc pm an cdv ct) ps sp:=by
 show⟨len,λA outer s H args us vs Q E O G hb r a1=>?_⟩;have hl:=len _ _ _ _ a1;have U:K.In s.heap:=G.mod.JB.keeps λb o e=>(G.bs b o e).1;have a4:s.heap.NoLimit:=G.mod.nolimit.keeps λb o e=>(G.bs b o e).1;have a6:∀y∈ps.zip us,scope.names.lookup y.1=some .local\/(scope.names.lookup y.1=some .cell/\((cellsFrom (s.heap.objs.size+1) scope.names []).lookup y.1).isSome=true):=λ⟨n,v⟩ hy=>by
   rcases S.par n (List.of_mem_zip hy).1 with q|q
   . show .inl q
   . show .inr ⟨q,PySem.W.cellsFrom_some _ _ _ (.inl q)⟩
 show codeAny_call_function O.depth (U _ _ lk) rfl S.co S.gen rfl (PySem.W.codeRec_of U a2) (hb _ _ _ _ (wpAny_newFunctionEnv_cells S.kind a6 λenv he s1 x=>?_));subst he;show⟨a4.keeps x.toInCall.keep,codeAny_func ?_⟩;show Am (a5 A outer s H vs Q E (O.deeper _) a1) λt ht hq=>?_;have I:Inv (Na CX P w K mg base N qual scope f cdv A outer s H E) [] (start N vs) H s1:=Oz S O.hd G hl r x;show LB (ht [] s1 (start N vs) H _ I hq) (λfl s' hs=>?_) λe s' hs=>hs;have fin:∀{σ':St} {H':Hp} {v:V} {u:Value},Inv (Na CX P w K mg base N qual scope f cdv A outer s H E) [] σ' H' s'->RelV v u->Q v H'->CE outer P w H s Q u s':=
   fun {σ' H' v u} J rv q=>(D5 v H' J.os J.bare J.base J.AJ rv q)
 cases fl with
 | ret u=>
   show Gp hs λv σ' H' J rv q=>fin J rv q
 | next=>
   show B5 hs λσ' H' J q=>fin (v:=V.AQ) (u:=Value.none) J rfl q
 | brk=>
   show B5 hs λ_ _ _ q=>False.elim q
 | cont=>
   show B5 hs λ_ _ _ q=>False.elim q
section
variable {X:Cx}{x:Str}{p pos:Pos}{e:Expr}{es:List Expr}{t:TA}{id T:String}{r:List V->Hp->VK->Prop}
def tCB (r:List V->Hp->VK->Prop)(t:TA):TE:=λσ H Q=>t σ H λvs H1=>r vs H1 Q
def Yk (hc:Fm X (.builtin id) r)(U:Gl X x)(hm:X.mg x=none)(Y:bootBuiltins x=some (.builtin id))(ha:PA X (e::es) t)(hn:x≠"__name__":=by decide)(a1:Di x:=by decide)
  (O:Hc X e es:=by rfl)(a2:Hx X pos es:=by rfl):PE X (.Call (.Name x p) (e::es) [] pos) (tCB r t):=by
 intro pins s σ H Q I h;show MS (Hs I U hm Y (PyProof.Rows.callWith_builtin1 (AE (ha pos pins s σ H _ I h) λus s1 ⟨vs,H1,G,r1,q1⟩=>hc pins s1 σ H1 vs us Q G r1 q1) O a2) hn a1)
def Vy (hc:Fm X (.type T) r)(U:Gl X x)(hm:X.mg x=none)(Y:bootBuiltins x=some (.type T))(ha:PA X (e::es) t)(hn:x≠"__name__":=by decide)(a1:Di x:=by decide)
  (O:Hc X e es:=by rfl)(a2:Hx X pos es:=by rfl):PE X (.Call (.Name x p) (e::es) [] pos) (tCB r t):=by
 intro pins s σ H Q I h;show MS (Hs I U hm Y (LN (AE (ha pos pins s σ H _ I h) λus s1 ⟨vs,H1,G,r1,q1⟩=>hc pins s1 σ H1 vs us Q G r1 q1) O a2) hn a1)
end
end L2
namespace HT
open PySem PyProof.Rows
section
open PySem.SeqAt
open PySem.AutoSeq1 (wpAny_loadPart')
open PySem.MeetsSeq PySem.MeetsSeq2 PySem.MeetsSeq3
end
section
variable {E:Bf}
def cat_tup {Q:Bf}(ht:IsTup s.heap t vs.toArray)(hb:IsTup s.heap b G.toArray)(Y:vs≠[])
  (h1:G=[]->Q (.ref t) s)(h2:G≠[]->Q (.ref s.heap.objs.size) {s with heap:=s.heap.push {cls:=.type "tuple",data:=.seq (vs++G).toArray}})
  (hsz:vs.length+G.length<=sizeLine):wpAny (model prog w) A (binaryOp .Add (.ref t) (.ref b)) Q E s:=by
 obtain⟨⟨cls,dd,data,sl⟩,ho,hc,n,hd⟩:=id ht;obtain⟨⟨a6,a1,data2,a5⟩,U,a2,n2,a4⟩:=id hb;simp only at hc hd a2 a4;subst hc hd a2 a4;have e:vs.toArray++G.toArray=(vs++G).toArray:=by simp
 by_cases O:G=[]
 .show concat_meets ⟨_,ho,rfl⟩ ⟨_,U,rfl⟩ noFill_tuple_add seq_tuple_add PySem.F.slot_tuple_add PySem.F.entry_tuple_add (PySem.F.args_tuple_add_2 _ _)
   (tuple_addW1 t b vs.toArray G.toArray n n2 dd a1 sl a5 (by simpa using Y) (by simp[O])) ⟨ho,U,h1 O⟩
 .show concat_meets ⟨_,ho,rfl⟩ ⟨_,U,rfl⟩ noFill_tuple_add seq_tuple_add PySem.F.slot_tuple_add PySem.F.entry_tuple_add (PySem.F.args_tuple_add_2 _ _)
   (tuple_addW2 t b vs.toArray G.toArray n n2 dd a1 sl a5 (by simpa using Y) (by simpa using O) (by rw[JZ,JZ];show hsz)) ⟨ho,U,?_⟩
  rw[e];show h2 O
end
end HT
namespace L2
open PySem PySem.Spec PyProof.Rows
section
variable {X:Cx}{e:Expr}{te:TE}{lo hi:Option Expr}{tl th:TO}{pos p2:Pos}
def rCatT (K:A3):R2:=λx y H Q=>∃a b xs ys,x=.ref a/\y=.ref b/\AC K H a xs/\AC K H b ys/\xs≠[]/\xs.length+ys.length<=sizeLine /\
 (ys=[]->Q (.ref a) H)/\(ys≠[]->∀p,H p=none->Q (.ref p) (upd H p (.tup (xs++ys))))
def AF.GS (r:AF xs us):us=[]↔xs=[]:=by
 cases r with
 | nil=>simp
 | cons _ _=>simp
def Pz:CO X (binaryOp .Add) (rCatT X.K):=by
 intro pins s σ H x y v u Q I rx ry h;show K3 h λa b xs ys z1 z2 ha G O z3=>B9 z3 λhz Y q2=>?_;subst z1 z2;cases rx;cases ry;show Bp (I.tuple ha) λits r1 U _=>Bp (I.tuple G) λa1 r2 p2 _=>?_;show HT.cat_tup U p2 (λz=>O (r1.GS.mp z)) (λz=>(Aw (.ref a) H I rfl (Y (r2.GS.mp z)))) (λz=>(Aw (.ref s.heap.objs.size) _ (I.laid (t':=s.toks) (o:=.tup (xs++ys)) (λb ob q=>JI _ q) (JN _) ?_) rfl (q2 (λw=>z (r2.GS.mpr w)) _ (I.AJ.fresh (JN _))))) (by rw[← r1.length,← r2.length];show hz);show⟨⟨by rw[JV];show hz,(Ac (JO _ rfl) rfl)⟩,(Ac (r1.append r2) (IsTup.new _ _))⟩
end
noncomputable def ixN (n:Nat)(i:Int):Option Nat:=if 0<=i then(if i<n then some i.toNat else none)else if -(n:Int)<=i then some (i+n).toNat else none
noncomputable def atI {α:Type}(xs:List α)(i:Int):Option α:=(ixN xs.length i).bind λj=>xs[j]?
def Ad1 (h:ixN n i=some j):seqIndex? i n=some j/\j<n/\-(n:Int)<=i/\i<n:=by
 unfold ixN at h;by_cases G:0<=i
 .rw [KE G]at h;by_cases h1:i<n
  .rw [KE h1]at h;have e:i.toNat=j:=KC h;show C9 (by rw[seqIndex_of G h1,e]) (by omega) (by omega) h1
  .rw [JW h1]at h;cases h
 .rw [JW G]at h;by_cases h1:-(n:Int)<=i
  .rw [KE h1]at h;have e:(i+n).toNat=j:=KC h;show C9 (by rw[seqIndex_neg (by omega) h1,e]) (by omega) h1 (by omega)
  .rw [JW h1]at h;cases h
def Vd {α:Type}{xs:List α}{i:Int}{v:α}(h:atI xs i=some v):∃j,seqIndex? i xs.length=some j/\xs[j]?=some v/\j<xs.length/\-(xs.length:Int)<=i/\i<xs.length:=by
 unfold atI at h
 cases e:ixN xs.length i with
 | none=>rw[e]at h;cases h
 | some j=>
  rw[e]at h;show N0 (Ad1 e) λh1 h2 G O=>Qj j h1 h h2 G O
def Gz {α:Type}{xs:List α}{j:Nat}{v:α}(h:xs[j]?=some v):atI xs (j:Int)=some v:=by
 have G:j<xs.length:=(List.getElem?_eq_some_iff.mp h).1;have e:ixN xs.length (j:Int)=some j:=by
  unfold ixN;rw[KE (by omega),KE (by omega)];simp
 unfold atI;rw[e];show h
def Sd {α:Type}(xs:List α)(v:α):atI (xs++[v]) (-1)=some v:=by
 have hl:(xs++[v]).length=xs.length+1:=by simp
 have e:ixN (xs++[v]).length (-1)=some xs.length:=by
  unfold ixN;rw[hl,JW (by decide),KE (by omega)]
  congr 1
  omega
 unfold atI;rw[e]
 show(xs++[v])[xs.length]?=some v
 simp
def Vf (b:Expr):Prop:=∀o i,subscripted b false o i=operate [o,i] (getItem o i)
def IxR (X:Cx)(r:R2):Prop:=
 ∀(O G:Expr) (pins:Dh) (s:Shared) (σ:St) (H:Hp) (x y:V) (v u:Value) (Q:VK),Inv X pins σ H s->RelV x v->RelV y u->r x y H Q ->
  subscripted G false v u=operate [v,u] (getItem v u)->wpAny (model X.prog X.w) X.A (subscriptTail O G v u) (EP X pins σ Q) X.xe s
def MtR (X:Cx)(id:String)(r:V->List V->Hp->VK->Prop):Prop:=
 ∀(pins:Dh) (s:Shared) (σ:St) (H:Hp) (x:V) (xs:List V) (v:Value) (us:List Value) (Q:VK),Inv X pins σ H s->RelV x v->AF xs us->r x xs H Q ->
  wpAny (model X.prog X.w) X.A (call (.builtin id) (v::us)) (EP X pins σ Q) X.xe s
section
variable {X:Cx}{a b:Expr}{ta tb:TE}{pos:Pos}
def pe_ix (U:IxR X r)(ha:PE X a ta)(O:PE X b tb)(hs:Vf b):PE X (.Subscript a b pos) (tOp r ta tb):=by
 intro pins s σ H Q I h;show Subscript_ (binT ha O I h λv u s2 x y H2 G Y ry q=>U a b pins s2 σ H2 x y v u Q G Y ry q (hs _ _))
def rIxL (K:A3):R2:=λx y H Q=>∃p xs i v,x=.ref p/\y=.int i/\AK K H p xs/\atI xs i=some v/\Q v H
def rIxT (K:A3):R2:=λx y H Q=>∃p xs i v,x=.ref p/\y=.int i/\AC K H p xs/\atI xs i=some v/\Q v H
def Ls:IxR X (rIxL X.K):=by
 intro a4 a2 pins s σ H x y v u Q I rx ry h hs;show Lk h λp xs i z z1 z2 hq he q=>?_;subst z1 z2;cases rx;obtain⟨t,rfl⟩:=ry;show Bp (I.list hq) λits r pl hz=>Wi (Vd he) λj h1 h2 h3 Y h5=>Am (r.get h2) λw O a1=>?_;have hl:=r.length;have hn:=Qf;have fin:EP X pins σ Q w s:=(Aw z H I a1 q);by_cases U:0<=i
 .have G:i.toNat=j:=by
   rw[seqIndex_of U h5]at h1;show KC h1
  show item_listR pl.isList U (by omega) (by rw[G];simpa using O) fin hs
 .have G:(i+(its.toArray.size:Int)).toNat=j:=by
   rw[seqIndex_neg (by omega) Y]at h1;rw[JZ,← hl];show KC h1
  show subscriptTail_builtinR (x:=w) pl.isList.typeIs slot_list_getitem.lookup
   (wpAny_getItem_list_neg (Q:=λr s'=>r=w/\EP X pins σ Q r s') pl.isList (by omega) (by rw[JZ]<;>omega) (by omega) (by rw[G];simpa using O) ⟨rfl,fin⟩) hs
def ix_tup:IxR X (rIxT X.K):=by
 intro a4 a2 pins s σ H x y v u Q I Y ry h hs;show Lk h λp xs i z z1 z2 U O q=>?_;subst z1 z2;cases Y;obtain⟨t,rfl⟩:=ry;show Bp (I.tuple U) λits r pl hz=>Wi (Vd O) λj h1 h2 h3 h4 h5=>Am (r.get h2) λw G a1=>?_;have hl:=r.length;have hn:=Qf;have fin:EP X pins σ Q w s:=(Aw z H I a1 q);show subscriptTail_builtinR (x:=w) pl.typeIs slot_tuple_getitem.lookup
  (getItem_tuple (j:=j) (Q:=λr s'=>r=w/\EP X pins σ Q r s') pl (by omega) (by omega) (by rw[JZ,← hl];show h1) (by simpa using G) ⟨rfl,fin⟩) hs
noncomputable def Jd:V->Bool
 | .AQ=>true
 | .bl _=>true
 | .int _=>true
 | .str _=>true
 | _=>false
noncomputable def eqV:V->V->Bool
 | .AQ,.AQ=>true
 | .bl a,.bl b=>a==b
 | .bl a,.int b=>(if a then 1 else 0)==b
 | .int a,.bl b=>a==(if b then 1 else 0)
 | .int a,.int b=>a==b
 | .str a,.str b=>a==b
 | _,_=>false
def eqAt_V (U:RelV y u)(G:RelV x v)(Y:Jd y=true)(O:Jd x=true):SeqAt.EqAt A s u v (eqV y x):=by
 cases y with
 | AQ=>
  cases U
  cases x with
  | AQ=>cases G;show SeqAt.EqAt.same _
  | bl b=>cases G;show SeqAt.EqAt.none_bool b
  | int b=>obtain⟨t,rfl⟩:=G;show SeqAt.EqAt.none_int b t
  | str b=>obtain⟨t,rfl⟩:=G;show SeqAt.EqAt.none_str b t
  | _=>show absurd (show false=true from O) JX
 | bl a=>
  cases U
  cases x with
  | AQ=>cases G;show SeqAt.EqAt.bool_none a
  | bl b=>cases G;show SeqAt.EqAt.bool_bool a b
  | int b=>obtain⟨t,rfl⟩:=G;show SeqAt.EqAt.bool_int a b t
  | str b=>obtain⟨t,rfl⟩:=G;show SeqAt.EqAt.bool_str a b t
  | _=>show absurd (show false=true from O) JX
 | int a=>
  obtain⟨t',rfl⟩:=U
  cases x with
  | AQ=>cases G;show SeqAt.EqAt.int_none a t'
  | bl b=>cases G;show SeqAt.EqAt.int_bool a t' b
  | int b=>obtain⟨t,rfl⟩:=G;show SeqAt.EqAt.int_int a t' b t
  | str b=>obtain⟨t,rfl⟩:=G;show SeqAt.EqAt.int_str a t' b t
  | _=>show absurd (show false=true from O) JX
 | str a=>
  obtain⟨t',rfl⟩:=U
  cases x with
  | AQ=>cases G;show SeqAt.EqAt.str_none a t'
  | bl b=>cases G;show SeqAt.EqAt.str_bool a t' b
  | int b=>obtain⟨t,rfl⟩:=G;show SeqAt.EqAt.str_int a t' b t
  | str b=>obtain⟨t,rfl⟩:=G;show SeqAt.EqAt.str_str a t' b t
  | _=>show absurd (show false=true from O) JX
 | _=>show absurd (show false=true from Y) JX
noncomputable def IE (x:V)(u:Value):Bool:=match u with
 | .none=>eqV .AQ x
 | .bool b=>eqV (.bl b) x
 | .int i _=>eqV (.int i) x
 | .str z _=>eqV (.str z) x
 | _=>false
def Y9 (r:RelV y u)(f:Jd y=true):IE x u=eqV y x:=by
 cases y with
 | AQ=>cases r;rfl
 | bl b=>cases r;rfl
 | int i=>obtain⟨t,rfl⟩:=r;rfl
 | str z=>obtain⟨t,rfl⟩:=r;rfl
 | _=>show absurd (show false=true from f) JX
theorem Kl:∀{xs:List V} {us:List Value},AF xs us->xs.all Jd=true->us.any (IE x)=xs.any λy=>eqV y x
 | _,_,.nil,_=>rfl
 | y::xs,u::us,.cons r t,f=>by
  rw[List.all_cons,NM]at f;rw[OT,OT,Y9 r f.1,Kl t f.2]
theorem Ik (U:RelV x v)(O:Jd x=true):∀{xs:List V} {us:List Value},AF xs us->xs.all Jd=true->∀u∈us,SeqAt.EqAt A s u v (IE x u)
 | _,_,.nil,_=>λu G=>by cases G
 | y::xs,u::us,.cons r t,f=>λY G=>by
  rw[List.all_cons,NM]at f
  rcases JS.mp G with rfl|G
  .rw [Y9 r f.1];show eqAt_V r U f.1 O
  .show Ik U O t f.2 Y G
noncomputable def IT (x:V)(xs:List V):Bool:=xs.any λy=>eqV y x
def rIn (K:A3)(G:Bool):R2:=λx y H Q=>∃p xs,y=.ref p/\(AK K H p xs\/AC K H p xs)/\Jd x=true/\xs.all Jd=true/\Q (.bl (if G then !IT x xs else IT x xs)) H
def Ou:CO X (compareOp .In) (rIn X.K false):=by
 intro pins s σ H x y v u Q I Y ry h;show Jr h λp xs z1 G U fs q=>?_;subst z1;cases ry
 rcases G with G|G
 .show Bp (I.list G) λits r pl hz=>SeqAt.in_listAt (IE x) pl.isList (λw O=>Ik Y U r fs w (by simpa using O)) (Aw (.bl _) H I rfl ?_);rw[show its.toArray.any (IE x)=its.any (IE x)by simp,Kl r fs];show q
 .show Bp (I.tuple G) λits r pl hz=>SeqAt.in_tupleAt (IE x) pl (λw O=>Ik Y U r fs w (by simpa using O)) (Aw (.bl _) H I rfl ?_);rw[show its.toArray.any (IE x)=its.any (IE x)by simp,Kl r fs];show q
def Py:CO X (compareOp .NotIn) (rIn X.K true):=by
 intro pins s σ H x y v u Q I Y ry h;show Jr h λp xs z1 G U fs q=>?_;subst z1;cases ry
 rcases G with G|G
 .show Bp (I.list G) λits r pl hz=>SeqAt.notIn_listAt (IE x) pl.isList (λw O=>Ik Y U r fs w (by simpa using O)) (Aw (.bl _) H I rfl ?_);rw[show its.toArray.any (IE x)=its.any (IE x)by simp,Kl r fs];show q
 .show Bp (I.tuple G) λits r pl hz=>SeqAt.notIn_tupleAt (IE x) pl (λw O=>Ik Y U r fs w (by simpa using O)) (Aw (.bl _) H I rfl ?_);rw[show its.toArray.any (IE x)=its.any (IE x)by simp,Kl r fs];show q
def Qs:Fm X (.builtin "len") (λxs H Q=>∃p ys,xs=[.ref p]/\(AK X.K H p ys\/AC X.K H p ys)/\Q (.int ys.length) H):=by
 intro pins s σ H xs us Q I r h;show B7 h λp ys z1 G q=>?_;subst z1;show Am (K5 r) λu z1 Y=>?_;subst z1;cases Y;have hn:=Qf
 rcases G with G|G
 .show Bp (I.list G) λits O pl hz=>?_;have U:=O.length;show Calls.call_len_list pl.isList (by simp only[JZ]<;>omega) (Aw (.int ys.length) H (I.tok _) ⟨s.toks+1,by rw[JZ,U]⟩ q)
 .show Bp (I.tuple G) λits O pl hz=>?_;have U:=O.length;show len_tuple pl (by simp only[JZ]<;>omega) (Aw (.int ys.length) H (I.tok _) ⟨s.toks+1,by rw[JZ,U]⟩ q)
def Qr:Fm X (.builtin "len") (λxs H Q=>∃z,xs=[.str z]/\z.length<=sizeLine/\Q (.int z.length) H):=by
 intro pins s σ H xs us Q I r h;show Bp h λz z1 hz q=>?_;subst z1;show Am (K5 r) λu z1 G=>?_;subst z1;obtain⟨t,rfl⟩:=G;have hn:=Qf;show len_str (by omega) (Aw (.int z.length) H (I.tok _) ⟨_,rfl⟩ q)
def Qq:Fm X (.type "list") (λxs H Q=>∃p ys,xs=[.ref p]/\(AK X.K H p ys\/AC X.K H p ys)/\∀l,H l=none->Q (.ref l) (upd H l (.lst ys))):=by
 intro pins s σ H xs us Q I r h;show B7 h λp ys z1 O q=>?_;subst z1;show Am (K5 r) λu z1 U=>?_;subst z1;cases U;have fin:∀(its:List Value),AF ys its->ys.length<=sizeLine->∀(h':Heap) (c':Nat),(∀b o',s.heap.get? b=some o'->h'.get? b=some o') ->
   h'.get? s.heap.objs.size=some {cls:=.type "list",dict:=none,data:=.seq its.toArray c',slots:=#[]}->EP X pins σ Q (.ref s.heap.objs.size) {s with heap:=h'}:=λits G hz h' c' kp e=>
  (Aw (.ref s.heap.objs.size) _ (I.laid (t':=s.toks) kp (JN _) (show AL X.prog X.w _ h' _ (.lst ys)from⟨hz,(Ce its c' G e)⟩)) rfl (q _ (I.AJ.fresh (JN _))))
 rcases O with O|O
 .show Bp (I.list O) λits G pl hz=>?_;have Y:=G.length;show Bp pl.isList λo ho hc z1=>?_;obtain⟨n,hd⟩:=z1;show call_list_seq p (.inl rfl) ho hc hd (λh' c' kp e=>fin its G hz h' c' kp e) (by simp only[JZ]<;>omega)
 .show Bp (I.tuple O) λits G pl hz=>?_;have Y:=G.length;show Bp pl λo ho hc z1=>?_;obtain⟨n,hd⟩:=z1;show call_list_seq p (.inr rfl) ho hc hd (λh' c' kp e=>fin its G hz h' c' kp e) (by simp only[JZ]<;>omega)
def Je:Fm X (.type "tuple") (λxs H Q=>∃p ys,xs=[.ref p]/\((AK X.K H p ys/\∀l,H l=none->Q (.ref l) (upd H l (.tup ys)))\/(AC X.K H p ys/\Q (.ref p) H))):=by
 intro pins s σ H xs us Q I r h;obtain⟨p,ys,rfl,h⟩:=h;obtain⟨u,rfl,rx⟩:=K5 r;cases rx;rcases h with⟨G,q⟩|⟨G,q⟩
 .obtain⟨its,O,pl,hz⟩:=I.list G;have a1:=O.length;show call_tuple_list pl.isList (λh' kp=>?_) (by simp only[JZ]<;>omega);have U:Inv X pins σ H {s with heap:=h'}:=I.kept (t':=s.toks) kp;have Y:Inv X pins σ (upd H h'.objs.size (.tup ys)) {s with heap:=h'.push {cls:=.type "tuple",data:=.seq its.toArray}}:=
   U.laid (t':=s.toks) (λb o e=>JI _ e) (JN _) (show AL X.prog X.w _ _ _ (.tup ys)from⟨⟨hz,(Ac (JO _ rfl) rfl)⟩,(Aq its O (IsTup.new _ _))⟩)
  show Aw (.ref h'.objs.size) _ Y rfl (q _ (U.AJ.fresh (JN _)))
 .show Bp (I.tuple G) λits O pl hz=>call_tuple_same pl (Aw (.ref p) H I rfl q)
def tyV (K:A3)(T:String)(x:V)(H:Hp):Prop:=match x with
 | .str _=>T="str"
 | .int _=>T="int"
 | .ref p=>(T="list"/\∃xs,AK K H p xs)\/(T="tuple"/\∃o,K.lookup p=some o/\o.cls=.type "tuple"/\o.dict=none) \/
   (T="dict"/\((∃kvs,H p=some (.dK kvs))\/∃kvs,H p=some (.dT kvs)))\/(T="set"/\∃S n,H p=some (.set S n))
 | _=>False
def W3 (I:Inv X pins σ H s)(r:RelV x v)(ty:tyV X.K T x H) :
  s.TypeIs v T/\∀a,v=.ref a->∃Y,s.heap.get? a=some Y/\Y.dict=none:=by
 cases x with
 | str z=>
  obtain⟨t,rfl⟩:=r;cases(show T="str" from ty);show⟨typeIs_str s z t,λ_ e=>nomatch e⟩
 | int i=>
  obtain⟨t,rfl⟩:=r;cases(show T="int" from ty);show⟨typeIs_int s i t,λ_ e=>nomatch e⟩
 | ref p=>
  cases r;rcases ty with⟨rfl,xs,hq⟩|⟨rfl,o,G,hc,hd⟩|⟨rfl,G⟩|⟨rfl,S,n,G⟩
  .show Bp (I.list hq) λits _ pl _=>⟨pl.isList.typeIs,λa e=>?_⟩;cases e;show Fw pl λo n e c hd _=>Aq o e hd
  .show⟨(Aq o (I.CQ p o G) hc),λa e=>?_⟩;cases e;show Aq o (I.CQ _ o G) hd
  .have z:∃o,s.heap.get? p=some o/\o.ExactDict:=by
    rcases G with⟨kvs,G⟩|⟨kvs,G⟩
    .show B9 (I.AJ p _ G) λ_ _ z1=>Am z1 λ_ _ U=>Gp U λo _ _ e ex _=>Aq o e ex
    .show B9 (I.AJ p _ G) λ_ _ z1=>Am z1 λ_ _ U=>Gp U λo _ _ e ex _=>Aq o e ex
   show Am z λo e ex=>⟨(Aq o e ex.1),λa O=>?_⟩;cases O;show Aq o e ex.2.1
  .show Ad6 (I.AJ p _ G) λo _ _ _ e ex _=>⟨(Aq o e ex.1),λa O=>?_⟩;cases O;show Aq o e ex.2.1
 | _=>show False.elim ty
def tBM0 (K:A3)(T:String)(r:V->List V->Hp->VK->Prop)(to:TE):TE:=λσ H Q=>to σ H λx H1=>tyV K T x H1/\r x [] H1 Q
def tBM (K:A3)(T:String)(r:V->List V->Hp->VK->Prop)(to:TE)(t:TA):TE:=λσ H Q=>to σ H λx H1=>tyV K T x H1/\t σ H1 λxs H2=>r x xs H2 Q
variable {o e:Expr}{es:List Expr}{to:TE}{t:TA}{name:Str}{apos cpos:Pos}{T id:String}{r:V->List V->Hp->VK->Prop}
def pe_bm0 (pa:PlainAttrs T)(slot:Slot T name id)(U:typeOf (.builtin id)=pure (.type "method_descriptor"))(hm:MtR X id r)(ho:PE X o to)
  (Y:attributeBase o name X.env (eval o X.env)=eval o X.env:=by rfl)(a1:(apos.endLine==cpos.line)=true:=by rfl):PE X (.Call (.Attribute o name apos) [] [] cpos) (tBM0 X.K T r to):=by
 intro pins s σ H Q I h;show wpAny_Call_method0_late Y a1 (AE (ho pins s σ H _ I h) λv s1 ⟨x,H1,G,r1,ty,O⟩=>?_);obtain⟨h1,h2⟩:=W3 G r1 ty;show D5 T id pa slot U h1 h2 (Calls.callWith_builtin rfl (PySem.evalArgs_none (hm pins s1 σ H1 x [] v [] Q G r1 .nil O)))
def pe_bm (pa:PlainAttrs T)(slot:Slot T name id)(a1:typeOf (.builtin id)=pure (.type "method_descriptor"))(hm:MtR X id r)(ho:PE X o to)(ha:PA X (e::es) t)
   (a4:attributeBase o name X.env (eval o X.env)=eval o X.env:=by rfl)
   (a2:((backTo cpos (starEach (e::es) X.env)).all (λx=>!x.1)&&(backToKw cpos (keywordEach [] X.env)).all (λx=>x.1.isSome)
     && decide ((e::es).length+([]:List Keyword).length+(if([]:List Keyword).isEmpty then 0 else 1)<30))=true:=by rfl)
   (a5:(apos.endLine==cpos.line)=true:=by rfl)(hs:Hc X e es:=by rfl)(a6:Hx X cpos es:=by rfl) :
   PE X (.Call (.Attribute o name apos) (e::es) [] cpos) (tBM X.K T r to t):=by
 intro pins s σ H Q I h;show wpAny_Call_method_late a4 a2 a5 rfl (AE (ho pins s σ H _ I h) λv s1 ⟨x,H1,G,r1,ty,Y⟩=>?_);obtain⟨h1,h2⟩:=W3 G r1 ty;show D5 T id pa slot a1 h1 h2 ?_;have O:=ha cpos pins s1 σ H1 _ G Y;rw[hs]at O ⊢;show Calls.callWith_builtin (by show(false||(backTo cpos (starEach es X.env)).any (·.1))=false;rw[a6]<;>rfl) (Calls.evalArgs_plain ?_);show AE O λus s2 ⟨vs,H2,U,r2,q2⟩=>hm pins s2 σ H2 x vs v us Q U r1 r2 q2
end
def MtM (X:Cx)(id:String)(r:V->List V->Hp->VK->Prop):Prop:=
 ∀(pins:Dh) (s:Shared) (σ:St) (H:Hp) (x:V) (xs:List V) (v:Value) (us:List Value) (Q:VK),Inv X pins σ H s->RelV x v->AF xs us->r x xs H Q ->
  wpAny (model X.prog X.w) X.A (call (.builtin id) (v::us)) (EP X pins σ Q) X.xe s
theorem AF.one:∀{x:V} {us:List Value},AF [x] us->∃u,us=[u]/\RelV x u
 | _,_,.cons r .nil=>(Ac rfl r)
theorem AF.zero:∀{us:List Value},AF [] us->us=[]
 | _,.nil=>rfl
def AF.dropLast (h:AF xs us):AF xs.dropLast us.dropLast:=by
 induction h with
 | nil=>show .nil
 | cons r t G=>
  cases t with
  | nil=>show .nil
  | cons q t'=>show .cons r G
def T3 {α:Type}(l:List α):l.eraseIdx (l.length-1)=l.dropLast:=by
 induction l with
 | nil=>rfl
 | cons a r G=>
  cases r with
  | nil=>rfl
  | cons b r=>
   have e:(a::b::r).length-1=((b::r).length-1)+1:=by
    have h1:(a::b::r).length=r.length+2:=rfl;have h2:(b::r).length=r.length+1:=rfl;omega
   rw[e,List.eraseIdx_cons_succ,G]
   all_goals rfl
section
def Inv.IZ {its its':List Value}{n:Nat}{f:Array Value->Array Value}{t':Nat}(I:Inv X pins σ H s)(G:H l=some (.lst xs))
  (e:s.heap.get? l=some {cls:=.type "list",data:=.seq its.toArray n})(U:f its.toArray=its'.toArray)(hv:AF ys its')(hz:ys.length<=sizeLine) :
  Inv X pins σ (upd H l (.lst ys)) {s with heap:=s.heap.update l (Obj.mapSeq f),toks:=t'}:=by
 have q:=PySem.IsL.update e f;rw[U]at q;show I.write (x:=l) (e:=l) (by rw[G];show trivial) (.inl rfl) (λb' u O Y=>(KW s.heap (Obj.mapSeq f) (ML O)).trans Y) ⟨_,q⟩ ?_;show⟨hz,(Ce its' _ hv q)⟩
def Inv.lnew (I:Inv X pins σ H s)(G:AF ys its)(hz:ys.length<=sizeLine) :
  Inv X pins σ (upd H s.heap.objs.size (.lst ys)) {s with heap:=s.heap.push {cls:=.type "list",data:=.seq its.toArray},toks:=t'}:=
 I.laid (λ_ _ q=>JI _ q) (JN _) ⟨hz,(Ce its 0 G (JO _ rfl))⟩
def Inv.fresh (I:Inv X pins σ H s):H s.heap.objs.size=none:=I.AJ.fresh (JN _)
def Inv.HW (I:Inv X pins σ H s)(G:H l=some (.lst xs)):xs.length<=sizeLine/\∃(its:List Value) (n:Nat),AF xs its/\xs.length=its.length/\s.heap.get? l=some {cls:=.type "list",data:=.seq its.toArray n}:=by
 show D7 (I.AJ l _ G) λz z1=>B5 z1 λits n r e=>⟨z,(Aw its n r r.length e)⟩
def Ms (h:n<=sizeLine):Builtin.List.listTooLong n=false:=by
 unfold Builtin.List.listTooLong;show KL (by omega)
end
section
def Zw:V->List V->Hp->VK->Prop:=λx vs H Q=>∃l xs y,x=.ref l/\vs=[y]/\H l=some (.lst xs)/\xs.length<sizeLine/\Q .AQ (upd H l (.lst (xs++[y])))
def Ov:MtM X "list.append" Zw:=by
 intro pins s σ H x vs v us Q I U rv h;show Qn h λl xs y z1 Y G hz q=>?_;subst z1 Y;cases U;show Am rv.one λu z1 O=>?_;subst z1;show D7 (I.HW G) λz z1=>B7 z1 λits n r hl e=>?_;show OC F.slot_list_append (Ac e rfl) F.entry_list_append (F.args_list_append_2 _ _) (PySem.list_append l its.toArray n u (by rw[JZ];omega)) ⟨e,Aw .AQ _ (I.IZ (its':=its++[u]) G e (by simp) (r.append (.cons O .nil)) ?_) rfl q⟩;rw[JV,MO];omega
def Zv:V->List V->Hp->VK->Prop:=λx vs H Q=>∃l b xs zs,x=.ref l/\vs=[.ref b]/\H l=some (.lst xs)/\H b=some (.lst zs)/\xs.length+zs.length<=sizeLine/\Q .AQ (upd H l (.lst (xs++zs)))
def V2:MtM X "list.extend" Zv:=by
 intro pins s σ H x vs v us Q I rx rv h;show K3 h λl b xs zs z1 U O hB hz q=>?_;subst z1 U;cases rx;show Am rv.one λu z1 ru=>?_;subst z1;cases ru;show D7 (I.HW O) λz z1=>B7 z1 λits n r hl e=>?_;show D7 (I.HW hB) λU z1=>B7 z1 λG n2 r2 a2 Y=>?_;have hsz:its.toArray.size+G.toArray.size<=sizeLine:=by rw[JZ,JZ];omega
 have a1:¬(!its.toArray.isEmpty&&Builtin.List.listTooLong (its.toArray.size+G.toArray.size))=true:=by
  rw[Ms hsz,Bool.and_false];show JX
 show OC F.slot_list_extend (Ac e rfl) F.entry_list_extend (F.args_list_extend_2 _ _)
  (AutoSeq1.list_extend_list_list_0 l its.toArray n b G.toArray n2 a1 (by rw[JZ];omega) (by omega)) (A6 e Y ?_)
 show Aw .AQ _ (I.IZ (its':=its++G) O e (by simp) (r.append r2) ?_) rfl q;rw[JV];omega
def rPop:V->List V->Hp->VK->Prop:=λx vs H Q=>∃l xs y,x=.ref l/\vs=[]/\H l=some (.lst xs)/\xs[xs.length-1]?=some y/\Q y (upd H l (.lst xs.dropLast))
def Yt:MtM X "list.pop" rPop:=by
 intro pins s σ H x vs v us Q I rx rv h;show Qn h λl xs y z1 z2 G U q=>?_;subst z1 z2;cases rx;have a1:=rv.zero;subst a1;show D7 (I.HW G) λz z1=>B7 z1 λits n r hl e=>Am (r.get U) λu O Y=>?_;have a2:its.toArray[its.toArray.size-1]?=some u:=by
  show its.toArray[its.length-1]?=some u
  rw[← Array.getElem?_toList,← hl];show O
 show OC F.slot_list_pop (Ac e rfl) F.entry_list_pop (F.args_list_pop_1 _) (MeetsSeq.list_pop_last l its.toArray n u a2 (by rw[JZ];omega)) ⟨e,Aw y _ (I.IZ (its':=its.dropLast) G e ?_ r.dropLast ?_) Y q⟩
 .show its.toArray.eraseIdxIfInBounds (its.toArray.size-1)=its.dropLast.toArray
  rw[JZ,List.eraseIdxIfInBounds_toArray,T3]
 .rw [List.length_dropLast];omega
end
section
variable {E:Bf}
end
section
end
end L2
namespace Att
open PySem PySem.W PySem.Calls PyProof.Rows
def Li:∀(ns:List Int) (vs:List Value),WellAll P h vs (ns.map WData.int)->IntsAre vs ns:=by
 intro ns
 induction ns with
 | nil=>
  intro vs w;rw[List.map_nil]at w;cases w;show .nil
 | cons n ns G=>
  intro vs w;rw[LK]at w
  cases w with
  | cons a b=>
   cases a;show .cons _ _ (G _ b)
def Vq {l:OpenLaw}{n:Nat}(hn:l.most=some n){P:Params}{h:Heap}{args:List WData}{vals:List Value}
  (U:l.row.toRowW.claim.pre args=true)(a2:WellAll P h vals args) :
  ∃a vs ns,vals=[Value.ref a]/\args=[WData.list (ns.map WData.int)]/\h.get? a=some {cls:=.type "list",data:=.seq vs.toArray}/\IntsAre vs ns/\ns.length<=n:=by
 have a1:WShape.hasAll [] args [.list .int]=true:=(pre_splitW U).1;have hc:l.pre.holds [] {args:=args}=true:=(pre_splitW U).2;obtain⟨d,r,rfl,h1,h2⟩:=hasAllW_cons a1;obtain rfl:=hasAllW_nil h2;obtain⟨xs,rfl,Y⟩:=hasW_list h1;obtain⟨ns,rfl⟩:=items_int Y;have a5:ns.length<=n:=by
  unfold OpenLaw.pre at hc;have G:(WTm.not (.lt (.lit (.int (n:Int))) (.len (.arg 0)))).holds [] {args:=[.list (ns.map .int)]}=true:=by
   have G:=(holds_andW hc).1;rw[hn]at G;show G
  have O:=condW_of G (w_not (w_lt w_lit (w_len_list (w_arg rfl))));rw[JR]at O;show Nat.le_of_not_lt λq=>?_;have q':(n:Int)<((ns.length:Nat):Int):=by omega
  first
   | (rw[KH q']at O;show absurd O (by decide))
   | (simp at O;omega)
 cases a2 with
 | cons w1 w2=>
  cases w2
  cases w1 with
  | list ho a4=>show⟨_,_,ns,rfl,rfl,ho,Li ns _ a4,a5⟩
def Vw (l:OpenLaw)(args:List WData):l.row.toRowW.claim.post args (.bool true) args=true:=
 postW_of (r:=l.row.toRowW) (X:=(true==true))
  (show WShape.has [] (.bool true) .bool=true by first|rfl|decide|simp[WShape.has,WShape.arms,WShape.armsAll])
  (show(WTm.eq .res (.lit (.bool true))).value [] {args:=args,res:=some (.bool true),after:=args}=some (.bool (true==true))from w_eq_bool (w_res rfl) w_lit) rfl
def HJ {l:OpenLaw}{n:Nat}{q:Program}{a1:List Str}{U:(Str->Option Value)->Heap->Prop}{Y:World->Heap->Prop}{d:DefRec}
   (hn:l.most=some n)(a6:d.params.defaults=[])
   (call:∀(w:World) (s₀ G:Shared) (mg mb:Bv) (O:Addr) (o:Obj) (pm cd doc:Value) (a:Addr) (vs:List Value) (ns:List Int),
     Ground q a1 [] U w s₀ mg mb G.heap->Y w G.heap ->
     G.heap.get? O=some o->o.data=.func (docDef d.name d.params d.body d.scope pm cd doc)->G.heap.CodeRec cd d.name->mg d.name=some (.ref O) ->
     G.heap.get? a=some {cls:=.type "list",data:=.seq vs.toArray}->IntsAre vs ns->ns.length<=n->G.gens=#[] ->
     codeAny (model l.prog w) callerA (.call (.ref O) ⟨[.ref a],[]⟩) (λr s'=>r=.ok (.ret (.bool true))/\OldK G.heap s'.heap/\s'.os=G.os/\AllBare s'.gens) G) :
   WalkO q a1 U Y l.row.toRowW d [] (λf vs=>PySem.call f vs):=by
 intro w s₀ G mg mb a2 a4 O o pm cd doc dV kV ho hd a5 hD a7 hg args vals as aB aG aF a8 aD;obtain rfl:dV=.none:=Dflts.none hD a6;obtain rfl:kV=.none:=Dflts.noKw hD;obtain⟨a,vs,ns,rfl,rfl,aA,aC,a9⟩:=Vq hn aB a8;show enter_call (MH (call w s₀ G mg mb O o pm cd doc a vs ns a2 a4 ho (fd_plain hd) a5 a7 aA aC a9 hg) λr s' hq=>?_);obtain⟨rfl,h2,h3,h4⟩:=hq;show⟨.inl ⟨.bool true,.bool true,[],rfl,λ_=>rfl,.bool true,Vw l _,λ_=>⟨List.Pairwise.nil,λ_ hm=>(nomatch hm)⟩⟩,h2,h3,h4⟩
section
variable {prog:Program}{w:World}{A:Around}{E:Bf}{s:Shared}{K:Frag}
end
end Att
namespace L2
open PySem PySem.Spec PyProof.Rows
theorem N7:∀{vs:List Value} {ns:List Int},IntsAre vs ns->AF (ns.map V.int) vs
 | _,_,.nil=>.nil
 | _,_,.cons n t h=>.cons ⟨t,rfl⟩ (N7 h)
def D6 (s:Stmt)(j:Nat):Stmt:=match s with
 | .ClassDef _ _ _ body _ _ _ _ _ _ _=>body.getD j (.Pass ⟨0,0,0,0⟩)
 | _=>.Pass ⟨0,0,0,0⟩
def Au (s:Stmt):Arguments:=match s with
 | .FunctionDef _ a _ _ _ _ _ _ _ _=>a
 | _=>{posonlyargs:=[],args:=[],vararg:=none,kwonlyargs:=[],kw_defaults:=[],kwarg:=none,defaults:=[]}
def Ar (s:Stmt):List Stmt:=match s with
 | .FunctionDef _ _ b _ _ _ _ _ _ _=>b
 | _=>[]
def Af (s:Stmt):Scope:=match s with
 | .FunctionDef _ _ _ _ _ _ sc _ _ _=>sc
 | _=>{kind:=.function,names:=[],isGenerator:=false,isCoroutine:=false}
abbrev AU:IJ:=λ_ _ _ _ _ _=>False
abbrev E0:XK:=λ_ _ _=>False
def Fk:Ev AU X E0:=λ_ _ _ _ _ _ _ h=>h.elim
structure AG (K:A3)(x qual:Str)(st:Stmt)(f:Addr)(fd:FuncData):Prop where
 ex:∃(oc:Value) (od:Option Addr) (kV doc pm:Value) (an:Option Addr) (cdv ct:Value) (osl:Array (Option Value)),
  fd=PySem.W.fnOf x qual (Au st) (Ar st) (Af st) .none kV doc pm an cdv ct/\K.lookup f=some ⟨oc,od,.func fd,osl⟩/\PySem.W.codeIn K cdv qual=true
 kp:PySem.W.keepIn K (.ref f)=true
section
variable {P:Program}{w:World}{K:A3}{mg:Bv}{base:Heap}
def AG.ok {x qual:Str}{st:Stmt}{f:Addr}{fd:FuncData}{N ps:List Str}{k:Nat}{sp:Sp}(F:AG K x qual st f fd)(S:AB N ps (Af st))(len:∀vs H Q E,sp vs H Q E->vs.length=ps.length)
   (a1:∀(cdv:Value) (A:Around) (outer:List Env) (s:Shared) (H:Hp) (vs:List V) (Q:VK) (E:XK),AV k (A.deeper (envOfC qual (Af st) s.heap.objs.size f cdv))->sp vs H Q E ->
     ∃t,HU (Na AU P w K mg base N qual (Af st) f cdv A outer s H E).nox (Ar st) t/\t {nx:=λ_ H'=>Q .AQ H',rt:=Q} (start N vs) H):AD P w K mg base AU (k+1) f fd ps sp:=by
 show Dl F.ex λoc od kV doc pm an z1=>Gp z1 λcdv ct osl O lk U=>?_;subst O;show Y6 lk U S len λA outer s H vs Q E G Y=>Am (a1 cdv A outer s H vs Q E G Y) λt h q=>Aq t h.nox q
def AG.binds {x qual:Str}{st:Stmt}{f:Addr}{fd:FuncData}{ps:List Str}(F:AG K x qual st f fd)
  (h:∀(kV doc pm:Value) (an:Option Addr) (cdv ct:Value) (us:List Value),us.length=ps.length->bindArgs (PySem.W.fnOf x qual (Au st) (Ar st) (Af st) .none kV doc pm an cdv ct) ⟨us,[]⟩=pure (ps.zip us)):Binds K fd ps []:=by
 show Dl F.ex λoc od kV doc pm an z1=>Gp z1 λcdv ct osl G lk O=>?_;subst G;show .all (h kV doc pm an cdv ct)
def A5 {x qual:Str}{st:Stmt}{f:Addr}{oc:Value}{od an:Option Addr}{osl:Array (Option Value)}{kV doc pm cdv ct:Value}(l:K.lookup f=some ⟨oc,od,.func (PySem.W.fnOf x qual (Au st) (Ar st) (Af st) .none kV doc pm an cdv ct),osl⟩)
  (c:PySem.W.codeIn K cdv qual=true)(k:PySem.W.keepIn K (.ref f)=true):AG K x qual st f (PySem.W.fnOf x qual (Au st) (Ar st) (Af st) .none kV doc pm an cdv ct):=⟨(Fe oc od kV doc pm an (Qi cdv ct osl rfl l c)),k⟩
end
def B4 (G:AV k A):A.units+1<cLine:=NT (Nat.add_le_add_left (by decide:1<=64) _) G.units
def Iv (h:n<=1000):n<sizeLine:=NT h (by decide)
section
def pv (i:Nat)(G:X.N[i]?=some x:=by rfl)(O:Vis X.env.scope x:=by first|show Or.inl rfl|show Or.inr (Or.inl rfl)|show Or.inr (Or.inr rfl))(hd:Di x:=by decide)
  (U:(x==("__classdict__":Str))=false:=by decide):PE X (.Name x pos) (La i):=Pw G O hd U
end
def Fd {A B:Prop}(h:B):if false=true then A else B:=by
 rw[JW JX];show h
def Cq {A B:Prop}(h:A):if true=true then A else B:=by
 rw[KE rfl];show h
def Nx {c A B:Prop}[Decidable c](h1:c->A)(h2:¬c->B):if c then A else B:=by
 by_cases h:c
 .rw [KE h];show h1 h
 .rw [JW h];show h2 h
def AA (H H':Hp):Prop:=∀b o,H b=some o->H' b=some o
def AA.refl (H:Hp):AA H H:=λ_ _ h=>h
def AA.trans (a:AA H H1)(b:AA H1 H2):AA H H2:=λc o h=>b c o (a c o h)
def AA.free (e:AA H H')(h:H' l=Option.none):H l=Option.none:=by
 cases q:H l with
 | none=>rfl
 | some o=>
  rw[e l o q]at h;cases h
section
variable {R:Result->Shared->Prop}
def Kj (I:Nat->Shared->Prop)
   (a6:∀n s,I n s->wpAny (model prog w) A (pyNext it) (λr G=>match r with
     | none=>R (.ok .next) G
     | some v=>wpAny (model prog w) A (letOwnedTupleGo U it v) (λ_ a4=>wpAny (model prog w) A (assign U env v) (λ_ s₂=>
         wpAny (model prog w) A (forIn a2 true λc r=>if r=true then do let ok ← isTrue c env (eval c env);pure (ForInStep.yield ok)else pure (ForInStep.yield r)) (λok O=>
           if ok=true then wpAny (model prog w) A (eval a1 env) (λx s₄=>
             wpAny (model prog w) A (call (.builtin "list.append") [acc,x]) (λ_ s₅=>∃m,m<n/\I m s₅) (λ_ _=>False) s₄) (λ_ _=>False) O
           else ∃m,m<n/\I m O) (λ_ _=>False) s₂) (λ_ _=>False) a4) (λ_ _=>False) G) (λ_ _=>False) s)
   (n:Nat)(h:I n s) :
   codeAny (model prog w) A (.compLoop (.ListComp a1 [⟨U,iter,a2,0⟩] scope pos) 0 it acc env) R s:=by
 have nv:∀{α:Type} {t:Sem α} {Q:α->Shared->Prop} {E':Bf} {s':Shared},wpAny (model prog w) A t Q (λ_ _=>False) s'->wpAny (model prog w) A t Q E' s':=
   λh=>LB h (λ_ _ q=>q) λ_ _ z=>z.elim
 show codeAny_loop rfl I (λn s hI=>?_) n h
 show wpAny _ A ((compTurn (.ListComp a1 [⟨U,iter,a2,0⟩] scope pos) 0 it acc env).onRaise (λx=>do noteFrame x env;theTreesLotGoes x)) _ _ s
 show wpAny_noted (nv ?_);rw[compTurn_list];show JH (LS (JH (AE (a6 n s hI) (λr G h₁=>?_))))
 cases r with
 | none=>show JK h₁
 | some v=>
   show JH (AE h₁ (λ_ a4 a5=>JH (AE a5 (λ_ s₂ h₂=>JH (AE h₂ (λok O Y=>?_))))))
   cases ok with
   | false=>show JK ⟨rfl,Y⟩
   | true=>
     show JH (JH (AE Y (λx s₄ h₄=>JH (AE h₄ (λ_ s₅ h₅=>JK (JK ⟨rfl,h₅⟩))))))
end
noncomputable def AY (X:Cx)(N':List Str)(scope:Scope)(cl:List (Str×Addr))(G:Shared)(O:Hp)(ex:List Addr):Cx where
 prog:=X.prog
 w:=X.w
 K:=X.K
 mg:=X.mg
 base:=X.base
 A:=X.A
 N:=N'
 s₀:=G
 H₀:=O
 env:=compEnvC scope cl G.heap.objs.size X.env
 outer:=X.stack
 stack:=X.stack
 ex:=ex
 fn:=λ_=>false
 calm:=X.calm
 pn:=[]
 xe:=λ_ _=>False
noncomputable def Er (n:Nat)(js:List Nat)(σ:St):St:=List.replicate n none++js.map λj=>(σ[j]?).join
structure AS (X:Cx)(scope:Scope)(cl:List (Str×Addr))(N':List Str)(n:Nat)(js:List Nat):Prop where
 CG:closureFor scope X.env=pure cl
 kind:scope.kind=.function
 DF:∀y∈scope.names,y.2≠.cell
 names:∀y∈scope.names,y.2=.local->scope.names.lookup y.1=some .local
 len:N'.length=n+js.length
 sub:∀x c,cl.lookup x=some c->X.env.cells.lookup x=some c
 has:∀x,scope.names.lookup x=some .free->∃c,cl.lookup x=some c
 cap:∀k j,js[k]?=some j->∃x,N'[n+k]?=some x/\X.N[j]?=some x/\scope.names.lookup x=some .free/\(X.env.kindOf x=some .cell\/X.env.kindOf x=some .free)
theorem Go {env:Env}:∀{names:List (Str×NameKind)} {x:Str} {k:NameKind},(∀y∈names,y.2≠.cell) ->
  (names.map λ(n,k)=>if(k==NameKind.free&&env.scope.kind==.function&&env.kindOf n==some .cell)then(n,NameKind.cell)else(n,k)).lookup x=some k->k=.cell\/k=.free->names.lookup x=some .free
 | [],_,_,_,h,_=>by simp at h
 | (n,G)::r,x,k,hc,h,Y=>by
  have ih:=@Go env r x k (λy hy=>hc y (KO _ hy));have h':List.lookup x ((if(G==NameKind.free&&env.scope.kind==.function&&env.kindOf n==some .cell)=true then(n,NameKind.cell)else(n,G))::(r.map λ(n,k)=>if(k==NameKind.free&&env.scope.kind==.function&&env.kindOf n==some .cell)then(n,NameKind.cell)else(n,k)))=some k:=h;have hn:G≠.cell:=hc (n,G) LH;by_cases U:(G==NameKind.free&&env.scope.kind==.function&&env.kindOf n==some .cell)=true
  .rw [KE U]at h';have hf:G=.free:=by
    simp only[NM,ND]at U;show U.1.1
   subst hf
   cases O:x==n with
   | true=>simp[KJ,O]
   | false=>
    simp only[KJ,O]at h' ⊢;show ih h' Y
  .rw [JW U]at h'
   cases O:x==n with
   | true=>
    simp only[KJ,O,Option.some.injEq]at h' ⊢;subst h'
    rcases Y with z|z
    .show absurd z hn
    .show z
   | false=>
    simp only[KJ,O]at h' ⊢;show ih h' Y
section
def AS.inner (c:AS X scope cl N' n js)(h:(compEnvC scope cl 0 X.env).kindOf x=some .cell\/(compEnvC scope cl 0 X.env).kindOf x=some .free) :
  scope.names.lookup x=some .free:=by
 rcases h with h|h
 .show Go c.DF h (.inl rfl)
 .show Go c.DF h (.inr rfl)
theorem Ea {env:Env}:∀{names:List (Str×NameKind)} {x:Str},names.lookup x=some .free ->
  (names.map λ(n,k)=>if(k==NameKind.free&&env.scope.kind==.function&&env.kindOf n==some .cell)then(n,NameKind.cell)else(n,k)).lookup x=some .cell \/
  (names.map λ(n,k)=>if(k==NameKind.free&&env.scope.kind==.function&&env.kindOf n==some .cell)then(n,NameKind.cell)else(n,k)).lookup x=some .free
 | [],_,h=>by simp at h
 | (n,k)::r,x,h=>by
  have O:=@Ea env r x
  show List.lookup x ((if(k==NameKind.free&&env.scope.kind==.function&&env.kindOf n==some .cell)=true then(n,NameKind.cell)else(n,k))::_)=_\/List.lookup x ((if(k==NameKind.free&&env.scope.kind==.function&&env.kindOf n==some .cell)=true then(n,NameKind.cell)else(n,k))::_)=_
  cases G:x==n with
  | true=>
   simp only[KJ,G,Option.some.injEq]at h;subst h;split<;>simp[KJ,G]
  | false=>
   simp only[KJ,G]at h;split<;>(simp only[KJ,G];show O h)
def M1 (c:AS X scope cl N' n js)(I:Inv X pins σ H s)
  (f:∀b∈fp,Ff X pins H b)(fo:∀b∈fp,b<s.heap.objs.size)(Y:∃m,h₁.Ns s.heap.objs.size m)(O:∀b o,s.heap.get? b=some o->h₁.get? b=some o) :
  Inv (AY X N' scope cl s H fp) [] (Er n js σ) H {s with heap:=h₁,toks:=tk}:=by
 obtain⟨m,Y⟩:=Y
 show⟨⟨I.ok.mod,c.kind,I.ok.glob,I.ok.blt,JN _,λx y a h1 h2=>I.ok.inj x y a (c.sub x a h1) (c.sub y a h2),λx hx=>c.has x (c.inner hx),λx a h=>(nomatch h),I.ok.hd,I.ok.frames,.inl rfl,
  λb G=>⟨JP (fo b G),λx a h=>(f b G).2.2.2.2.1 x a (c.sub x a h)⟩,I.bs,JU I.ok.IS I.sz,λb o e G=>?_,λb G z=>?_,I.stack,I.DG⟩,
  rfl,I.bare,Un.kept O,(Aq m Y λi x v h1 h2 h3=>?_),λx a h=>?_,I.AJ.fresh (JN _),λx a h=>I.BB x a (c.sub x a h),λp hp=>absurd (show p∈([]:List (Addr×Obj))from hp) (by simp),I.AJ.kept O,?_⟩
 .rcases (f b G).2.2.2.1 with z|z
  .show I.ok.HN b o e z
  .show absurd (KA (JL e) (JU I.ok.IS z)) (LJ _)
 .rcases JS.mp (I.EN b z)with q|q
  .show (f b G).2.1 q
  .show (f b G).2.2.1 q
 . -- a captured name
  unfold Er at h2;by_cases hi:i<n
  .rw [OI (by simpa using hi),LP]at h2;rw[KE hi]at h2;cases h2
  .rw [OB (by simpa using hi),MN,KP]at h2
   cases e:js[i-n]? with
   | none=>rw[e]at h2;cases h2
   | some j=>
    rw[e]at h2;have U:(σ[j]?).join=some v:=KC h2;have hj:σ[j]?=some (some v):=by
     cases q:σ[j]? with
     | none=>rw[q]at U;cases U
     | some o=>rw[q]at U;show LR some U
    show Ad8 (c.cap (i-n) j e) λy e1 e2 e3 e4=>?_;have a4:n+(i-n)=i:=by omega
    rw[a4]at e1;have a2:N'[i]?=some x:=h1;rw[e1]at a2;cases a2;show Am I.loc λm0 a6 a5=>?_;have vis:Vis X.env.scope x:=by
     rcases e4 with z|z
     .show .inr (.inl z)
     .show .inr (.inr z)
    show Am (a5 j x v e2 hj vis) λu r l=>Aq u r (.inr ⟨?_,?_⟩)
    .show Ea (env:=X.env) e3
    .rcases l with⟨k,_⟩|⟨_,a,ea,ha⟩
     .rcases e4 with z|z
      .rw [z]at k;cases k
      .rw [z]at k;cases k
     .obtain⟨a',a1⟩:=c.has x e3;have:=c.sub x a' a1;rw[ea]at this;cases this;show Aq a a1 (Am ha λo ho hd=>Aq o (O _ _ ho) hd)
 .show B5 (I.cell x a (c.sub x a h)) λv o ho hd=>Ce v o (O _ _ ho) hd
 .show (Er n js σ).length=N'.length
  unfold Er;rw[JV,MN,JR,c.len]
def Nb (I:Inv X pins σ H s)(f:∀b∈fp,Ff X pins H b)
  (J:Inv (AY X N' scope cl s H fp) [] σ' H' s'):Inv X pins σ H' s':=
 I.GK (ch:=fp) J.os J.base J.AJ J.bare λb G=>(C9 ((f b G).2.2.2.1) ((f b G).2.1) ((f b G).2.2.2.2.1) ((f b G).2.2.2.2.2))
def Fz (I:Inv X pins σ H s)(J:Inv X pins σ' H' s')(G:H' s.heap.objs.size=none)(hs:Heap.SameBut s.heap.objs.size s'.heap h'):Inv X pins σ' H' {s' with heap:=h'}:=by
 show J.turned (t':=s'.toks) (λb o O e=>(hs.2 b O).trans e) G (KS I.lt) (.inr I.sz) (λx c e z=>?_) λp U z=>?_
 .obtain⟨v,q⟩:=I.cell x c e;show absurd q.lt (by rw[z];show LJ _)
 .show absurd (JL (I.pin p U).1) (by rw[z];show LJ _)
end
def IX (X:Cx)(G:List Expr)(tt:TT):Prop:=
 ∀(pins:Dh) (s:Shared) (σ:St) (H:Hp) (Q:Bool->Hp->Prop),Inv X pins σ H s->tt σ H Q ->
  wpAny (model X.prog X.w) X.A (forIn G true λc r=>if r=true then do let ok ← isTrue c X.env (eval c X.env);pure (ForInStep.yield ok)else pure (ForInStep.yield r)) (TP X pins σ Q) X.xe s
def tYes:TT:=λ_ H Q=>Q true H
def Z5:IX X [] tYes:=λ_ _ _ H _ I h=>wpAny_tests_nil (Aq H I h)
def Z4 (h:PT X c tt):IX X [c] tt:=λpins s σ H Q I q=>wpAny_tests_one (h pins s σ H Q I q)
def N9 (κ:St->St)(wi:TI)(g:TG)(tt:TT)(te:TE):TE:=λσ H Q=>wi σ H λJ H1=>∀D,H1 D=none->∃W:Nat->Nat->St->Hp->Prop,(∃m,W 0 m (κ σ) (upd H1 D (.lst [])))/\∀i m σ' H',W i m σ' H' ->
 (J.stop i H'/\Q (.ref D) H')\/(J.go i H'/\∃(Ay:V->St->Hp->Prop) (Y:St->Hp->Prop),(∀y σ3 O,Ay y σ3 O->∃ys,O D=some (.lst ys)/\ys.length<sizeLine/\∃U,U<m/\W (i+1) U σ3 (upd O D (.lst (ys++[y]))))/\(∀σ3 G,Y σ3 G->∃U,U<m/\W (i+1) U σ3 G) /\
   ∀x H2,J.DH i H' x H2->g x σ' H2 λσ3 H3=>tt σ3 H3 λok G=>if ok=true then te σ3 G (λy O=>Ay y σ3 O)else Y σ3 G)
section
def R3 {E:Bf}
   {RR:Value->Addr->Result->Shared->Prop}{tn:Nat->Heap->Prop}{W:Addr->Nat->Nat->St->Hp->Prop}{Fi:Addr->Hp->Prop}
   (c:AS X scope cl N' n js)(hc:X.calm=true)
   (aL:∀G H3 fp,PG (AY X N' scope cl G H3 fp) tg g/\IX (AY X N' scope cl G H3 fp) a8 tt/\PE (AY X N' scope cl G H3 fp) a6 te)
   (I:Inv X pins σ H s)(T:Turn X.prog X.w X.K tg J fp it tn)(st:tn 0 s.heap)(f:∀b∈fp,Ff X pins H b)
   (w0:∀D,H D=none->∃m,W D 0 m (Er n js σ) (upd H D (.lst [])))
   (aU:∀D,H D=none->∀i m σ' H',W D i m σ' H'->(J.stop i H'/\Fi D H')\/(J.go i H'/\∃(Ay:V->St->Hp->Prop) (An:St->Hp->Prop),(∀y σ3 Y,Ay y σ3 Y->∃ys,Y D=some (.lst ys)/\ys.length<sizeLine/\∃U,U<m/\W D (i+1) U σ3 (upd Y D (.lst (ys++[y]))))/\(∀σ3 H4,An σ3 H4->∃U,U<m/\W D (i+1) U σ3 H4) /\
     ∀x H2,J.DH i H' x H2->g x σ' H2 λσ3 H3=>tt σ3 H3 λok H4=>if ok=true then te σ3 H4 (λy Y=>Ay y σ3 Y)else An σ3 H4))
   (hR:∀(D:Addr) (G:Shared) (H3 H':Hp) (s':Shared),Inv X pins σ H3 G->Inv X pins σ H' s'->(∃m,s'.heap.Ns G.heap.objs.size m)->H' G.heap.objs.size=none->Fi D H'->RR (.ref D) G.heap.objs.size (.ok .next) s') :
   wpAny (model X.prog X.w) X.A (newList []) (λacc s₃=>wpAny (model X.prog X.w) X.A (newFunctionEnv scope X.env.globals cl [] X.env.qual none .none (some X.env)) (λaC s₄=>
     codeAny (model X.prog X.w) X.A (.compStart (.ListComp a6 [⟨tg,iter,a8,0⟩] scope pos) 0 (.ref it) acc {aC with scope:=relabel scope X.env}) (RR acc aC.locals) s₄) E s₃) E s:=by
 have hD:H s.heap.objs.size=none:=I.fresh;have I3:=I.lnew (ys:=[]) (its:=[]) (t':=s.toks) .nil (LD _);show MD ?_;have f3:∀b∈fp,Ff X pins (upd H s.heap.objs.size (.lst [])) b:=λb O=>by
   show Am (T.obj _ _ st b O) λo e _=>?_;show⟨by rw[Ak (JP (JL e))];show(f b O).1,(f b O).2⟩
 generalize aN:({s with heap:=s.heap.push {cls:=.type "list",data:=.seq ([]:List Value).toArray},toks:=s.toks}:Shared)=G at I3;have aK:s.heap.push {cls:=.type "list",data:=.seq ([]:List Value).toArray}=G.heap:=by rw[← aN]
 have k3:∀b o,s.heap.get? b=some o->G.heap.get? b=some o:=λb o e=>by rw[← aK];show JI _ e
 have fo:∀b∈fp,b<G.heap.objs.size:=λb O=>by
   show Am (T.obj _ _ st b O) λo e _=>JL (k3 b o e)
 show OD c.DF (by intro y hy;simp at hy) (λh₁ aR aS=>?_) c.kind;have k4:∀b o,G.heap.get? b=some o->h₁.get? b=some o:=λb o e=>aS.extBut b o (JP (JL e)) (JI _ e);have I4:=M1 (h₁:=h₁) (tk:=G.toks+([]:List (Str×Value)).length) c I3 f3 fo ⟨_,aR⟩ k4;have a9:tn 0 h₁:=T.keep _ _ _ st λb _ o e=>k4 b o (k3 b o e);have a2:∀{H':Hp},(∀b∈fp,H' b=none)->∀b∈fp,Ff (AY X N' scope cl G (upd H s.heap.objs.size (.lst [])) fp) [] H' b:=λhn b O=>
   (Qk (hn b O) (JP (fo b O)) (I4.ok.GB b O) (.inl O) (λx a h=>(f b O).2.2.2.2.1 x a (c.sub x a h)) λp hp=>absurd (show p∈([]:List (Addr×Obj))from hp) (by simp))
 show B9 (aL G (upd H s.heap.objs.size (.lst [])) fp) λhg aO aJ=>?_;have tr:=aU _ hD;have aD:codeAny (model X.prog X.w) X.A (.compLoop (.ListComp a6 [⟨tg,iter,a8,0⟩] scope pos) 0 (.ref it) (.ref s.heap.objs.size) (compEnvC scope cl G.heap.objs.size X.env))
     (RR (.ref s.heap.objs.size) G.heap.objs.size) {G with heap:=h₁,toks:=G.toks+([]:List (Str×Value)).length}:=by
   obtain⟨m0,w0⟩:=w0 _ hD;show Kj (λm s'=>∃i σ' H',Inv (AY X N' scope cl G (upd H s.heap.objs.size (.lst [])) fp) [] σ' H' s'/\tn i s'.heap/\(∀b∈fp,H' b=none)/\W s.heap.objs.size i m σ' H') ?_ m0 (Cr 0 _ _ I4 a9 (λb O=>(f3 b O).1) w0);rintro m s5 ⟨i,σ5,Y,I5,aA,a7,w5⟩;rcases tr i m σ5 Y w5 with⟨stop,qF⟩|⟨go,Ay,An,aI,aH,step⟩
   . show AE (T.done (AY X N' scope cl G (upd H s.heap.objs.size (.lst [])) fp) rfl rfl rfl hc i [] s5 σ5 Y (λ_ _=>False) I5 (a2 a7) aA stop) λr s6 ⟨hr,I6⟩=>?_;subst hr;show Am I6.loc λm6 aM _=>hR _ G _ Y s6 I3 (Nb I3 f3 I6) ⟨m6,aM⟩ I6.free qF
   . show AE (T.item (AY X N' scope cl G (upd H s.heap.objs.size (.lst [])) fp) rfl rfl rfl hc i [] s5 σ5 Y (λ_ _=>False) I5 (a2 a7) aA go) λr s6 ⟨u,hr,h6⟩=>?_;subst hr;show AE h6 λ_ s7 ⟨x,H7,I7,r7,y7,a1,aG⟩=>?_;have aF:=I7.pinned (a2 aG) (T.obj _ _ a1);show AE (hg _ s7 σ5 H7 x u _ aF r7 (step x H7 y7)) λ_ s8 ⟨σ8,H8,I8,q8⟩=>AE (aO _ s8 σ8 H8 _ I8 q8) λok s9 ⟨H9,I9,q9⟩=>?_;have aB:∀{H':Hp} {s':Shared},Inv (AY X N' scope cl G (upd H s.heap.objs.size (.lst [])) fp) ([]++G8 fp s7.heap) σ8 H' s'->(∃U,U<m/\W s.heap.objs.size (i+1) U σ8 H') ->
         ∃U,U<m/\∃i σ' H',Inv (AY X N' scope cl G (upd H s.heap.objs.size (.lst [])) fp) [] σ' H' s'/\tn i s'.heap/\(∀b∈fp,H' b=none)/\W s.heap.objs.size i U σ' H':=fun {H' s'} J' w'=>by
       obtain⟨U,hm,w'⟩:=w';show⟨U,hm,i+1,σ8,H',J'.BD,T.keep _ _ _ a1 λb O o e=>(J'.pin (b,o) (JQ _ (JQ _ (Ch O e)))).1,λb O=>(Am (T.obj _ _ a1 b O) λo e d=>((J'.pin (b,o) (JQ _ (JQ _ (Ch O e)))).2.1)),w'⟩
     cases ok with
     | false=>
       rw[JW (by decide)]at q9 ⊢;show aB I9 (aH _ _ q9)
     | true=>
       rw[KE rfl]at q9 ⊢;show AE (aJ _ s9 σ8 H9 _ I9 q9) λyv aX ⟨y,aW,a4,aQ,qA⟩=>Bp (aI _ _ _ qA) λys a5 aY aP=>?_;show D7 (a4.HW a5) λz z1=>B7 z1 λits nn r hl e=>?_;show OC F.slot_list_append (Ac e rfl) F.entry_list_append (F.args_list_append_2 _ _) (PySem.list_append _ its.toArray nn yv (by rw[JZ];omega)) ⟨e,aB (a4.IZ (its':=its++[yv]) a5 e (by simp) (r.append (.cons aQ .nil)) ?_) aP⟩;rw[JV,MO];omega
 show codeAny_compStart_list aD (T.self _ 0 _ _ _ a9 aD)
def Ab3
   (c:AS X scope cl N' n js)(hc:X.calm=true)(hi:PI X tg iter wi)
   (a4:∀s3 O fp,PG (AY X N' scope cl s3 O fp) tg g/\IX (AY X N' scope cl s3 O fp) a6 tt/\PE (AY X N' scope cl s3 O fp) a1 te)
   (hs:Kn X iter:=by intro _;rfl):PE X (.ListComp a1 [⟨tg,iter,a6,0⟩] scope pos) (N9 (Er n js) wi g tt te):=by
 intro pins s σ H Q I h;rw[eval_ListComp];show MG (use:=none) rfl hs c.CG c.kind c.names (AE (hi pins s σ H _ I h) λv s1 h1=>AE h1 λa9 s2 h2=>?_);obtain⟨it,fp,tn,J,H2,e,I2,T,a7,f2,h2⟩:=h2;subst e;have a2:∃W:Addr->Nat->Nat->St->Hp->Prop,(∀D,H2 D=none->∃m,W D 0 m (Er n js σ) (upd H2 D (.lst [])))/\∀D,H2 D=none->∀i m σ' H',W D i m σ' H' ->
     (J.stop i H'/\Q (.ref D) H')\/(J.go i H'/\∃(Ay:V->St->Hp->Prop) (An:St->Hp->Prop),(∀y σ3 Y,Ay y σ3 Y->∃ys,Y D=some (.lst ys)/\ys.length<sizeLine/\∃m',m'<m/\W D (i+1) m' σ3 (upd Y D (.lst (ys++[y]))))/\(∀σ3 U,An σ3 U->∃m',m'<m/\W D (i+1) m' σ3 U) /\
       ∀x H2,J.DH i H' x H2->g x σ' H2 λσ3 O=>tt σ3 O λok U=>if ok=true then te σ3 U (λy Y=>Ay y σ3 Y)else An σ3 U):=by
   show⟨λD=>if G:H2 D=none then(h2 D G).choose else λ_ _ _ _=>False,λD G=>?_,λD G=>?_⟩
   . simp only[G,NN];show(h2 D G).choose_spec.1
   . simp only[G,NN];show(h2 D G).choose_spec.2
 show Am a2 λW w0 a8=>R3 (RR:=λacc C=>compPost (model X.prog X.w) X.A X.xe none (EP X pins σ Q) acc C) (Fi:=λD H'=>Q (.ref D) H') (W:=W) c hc a4 I2 T a7 f2 w0 a8 ?_;intro D s3 O H' s' I3 I' ⟨m,hn⟩ hC q;show Aq m hn λh' a5=>(Aw (.ref D) H' (Fz I3 I' hC a5) rfl q)
def Aa0
   (hN:X.N.Nodup)(a6:X.N[i0]?=some y)(hx:X.env.scope.names.lookup y=some .local)
   (aA:swapsWith (.ListComp a1 [⟨tg,iter,a2,0⟩] scope pos) (some (.Name y py)) aD.line X.env=pure true)
   (c:AS X scope cl N' n js)(hc:X.calm=true)(hi:PI X tg iter wi)
   (a7:∀s3 O fp,PG (AY X N' scope cl s3 O fp) tg g/\IX (AY X N' scope cl s3 O fp) a2 tt/\PE (AY X N' scope cl s3 O fp) a1 te)
   (hs:Kn X iter:=by intro _;rfl):PS X (.Assign [.Name y py] (.ListComp a1 [⟨tg,iter,a2,0⟩] scope pos) aD) (Nh (N9 (Er n js) wi g tt te) (He i0)):=by
 intro pins s σ H D0 I h;rw[exec_Assign_Name_used _ _ _ _ aA];show JH (LS (JH ?_))
 show wpAny _ X.A (do let _ ← comprehension (.ListComp a1 [⟨tg,iter,a2,0⟩] scope pos) scope X.env _ (newList []) false (eval iter X.env) (some (assign (.Name y py) X.env))) _ _ s
 show JH (AE (MG (use:=some (assign (.Name y py) X.env)) (Q:=λ_ s'=>SP X pins D0 .next s') rfl hs c.CG c.kind c.names (AE (hi pins s σ H _ I h) λv s1 h1=>AE h1 λaG s2 h2=>?_))
   λ_ s' hq=>JK (JK hq))
 obtain⟨it,fp,tn,J,H2,e,I2,T,aB,f2,h2⟩:=h2;subst e;have a5:∃W:Addr->Nat->Nat->St->Hp->Prop,(∀D,H2 D=none->∃m,W D 0 m (Er n js σ) (upd H2 D (.lst [])))/\∀D,H2 D=none->∀i m σ' H',W D i m σ' H' ->
     (J.stop i H'/\D0.nx (σ.set i0 (some (.ref D))) H')\/(J.go i H'/\∃(Ay:V->St->Hp->Prop) (An:St->Hp->Prop),(∀y σ3 Y,Ay y σ3 Y->∃ys,Y D=some (.lst ys)/\ys.length<sizeLine/\∃m',m'<m/\W D (i+1) m' σ3 (upd Y D (.lst (ys++[y]))))/\(∀σ3 U,An σ3 U->∃m',m'<m/\W D (i+1) m' σ3 U) /\
       ∀x H2,J.DH i H' x H2->g x σ' H2 λσ3 O=>tt σ3 O λok U=>if ok=true then te σ3 U (λy Y=>Ay y σ3 Y)else An σ3 U):=by
   show⟨λD=>if G:H2 D=none then(h2 D G).choose else λ_ _ _ _=>False,λD G=>?_,λD G=>?_⟩
   . simp only[G,NN];show(h2 D G).choose_spec.1
   . simp only[G,NN];show(h2 D G).choose_spec.2
 show Am a5 λW w0 aF=>R3 (RR:=λacc C=>compPost (model X.prog X.w) X.A X.xe (some (assign (.Name y py) X.env)) (λ_ s'=>SP X pins D0 .next s') acc C) (Fi:=λD H'=>D0.nx (σ.set i0 (some (.ref D))) H') (W:=W) c hc a7 I2 T aB f2 w0 aF ?_;intro D s3 O H' s' I3 I' ⟨m,hn⟩ hC q
 show wpAny _ _ (assign (.Name y py) X.env (.ref D)) _ _ s'
 show wpAny_assign_Name (Iq (v:=.ref D) I' hN a6 (.inl hx) rfl (λaH a4 ⟨a,aC,ha⟩=>?_) (.inr hx));have a8:s3.heap.objs.size≠a:=by
   rcases ha with z|z
   . rw[z];show KS I3.lt
   . intro q;obtain⟨v,w⟩:=I3.cell y a z;show absurd w.lt (by rw[← q];show LJ _)
 show Aq m (hn.sameBut aC a8) λh' a9=>(Ce _ H' (Fz I3 a4 hC a9) q)
end
def Inv.GR {X:Cx}{pins:Dh}{σ:St}{H:Hp}{s:Shared}{h':Heap}{t':Nat}{fp:List Addr}{T:Addr}{xs:List V}{its:List Value}(I:Inv X pins σ H s)(f:∀b∈fp,Ff X pins H b)
  (k:∀b o,b∉fp->s.heap.get? b=some o->h'.get? b=some o)(kt:∀b∈fp,∃o,h'.get? b=some o)(O:s.heap.objs.size<=T)(hx:xs.length<=sizeLine)(Y:AF xs its)(ht:IsTup h' T its.toArray)(hd:∃o,h'.get? T=some o/\o.dict=none) :
  Inv X pins σ (upd H T (.tup xs)) {s with heap:=h',toks:=t'}:=by
 have hn:H T=none:=I.AJ.fresh O;have nL:X.env.locals∉fp:=λz=>(f _ z).2.1 rfl;show I.step (g':=s.gens) (d':=s.drawn) (ch:=fp) (λb G=>(C9 ((f b G).2.2.2.1) ((f b G).2.1) ((f b G).2.2.2.2.1) ((f b G).2.2.2.2.2))) (λb o _ _ hc e _=>k b o hc e) (λb o _ _ hc e _=>⟨o.slots,k b o hc e⟩)
  (λb o _ e n=>by rw[Ak (JP (KA (JL e) O))];show n) (λb o hc e=>⟨o,k b o hc e⟩)
  (λb ys e=>by rw[Ak (Aj e hn)];show e) (λb o u e=>by rw[Ak (Aj e hn)];show e) (λb ps e=>⟨#[],by rw[Ak (Aj e hn),e];simp⟩) (λm hm=>?_) (λb u e=>?_) I.bare
 .show Da hm λo es ep ho r=>Ht o es ep (k _ o nL ho) r
 .by_cases G:b=T
  .subst G;rw[Ag]at e;cases e;show⟨⟨hx,hd⟩,(Aq its Y ht)⟩
  .rw [Ak G]at e;have U:∀c v,H c=some v->c∉fp:=λc v q z=>by rw[(f c z).1]at q;cases q
   show(I.AJ b u e).CC (λc v hc q=>k c v ?_ q) (λc q=>by rw[Ak (Aj q hn)];show q) λc ys q=>by rw[Ak (Aj q hn)];show q
   rcases hc with z|z
   .rw [z];show U b u e
   .show U c _ z
def Inv.GY {X:Cx}{pins:Dh}{σ:St}{H:Hp}{s:Shared}{h':Heap}{t':Nat}{fp:List Addr}(I:Inv X pins σ H s)(f:∀b∈fp,Ff X pins H b)
  (k:∀b o,b∉fp->s.heap.get? b=some o->h'.get? b=some o):Inv X pins σ H {s with heap:=h',toks:=t'}:=by
 have U:X.env.locals∉fp:=λz=>(f _ z).2.1 rfl;show I.step (g':=s.gens) (d':=s.drawn) (ch:=fp) (λb G=>(C9 ((f b G).2.2.2.1) ((f b G).2.1) ((f b G).2.2.2.2.1) ((f b G).2.2.2.2.2))) (λb o _ _ hc e _=>k b o hc e) (λb o _ _ hc e _=>⟨o.slots,k b o hc e⟩)
  (λb o _ e n=>n) (λb o hc e=>⟨o,k b o hc e⟩) (λb ys e=>e) (λb o u e=>e) (λb ps e=>⟨#[],by rw[e];simp⟩) (λm hm=>?_) (λb u e=>?_) I.bare
 .show Da hm λo es ep ho r=>Ht o es ep (k _ o U ho) r
 .have O:∀c v,H c=some v->c∉fp:=λc v q z=>by rw[(f c z).1]at q;cases q
  show(I.AJ b u e).CC (λc v hc q=>k c v ?_ q) (λc q=>q) λc ys q=>q
  rcases hc with z|z
  .rw [z];show O b u e
  .show O c _ z
def Wo {K:A3}{a D:Addr}{xs:List V}{g:TG}{tt:TT}{te:TE}{σ0:St}{H1:Hp}{Q:Hp->Prop}(Pv:Nat->List V->St->Hp->Prop)(hx:xs.length<=sizeLine)(hD:H1 D=none)(h0:Pv 0 [] σ0 (upd H1 D (.lst [])))
   (hl:∀i ys σ H,i<=xs.length->Pv i ys σ H->AK K H a xs/\H D=some (.lst ys)/\ys.length<=i)
   (hs:∀i x ys σ H,xs[i]?=some x->Pv i ys σ H->g x σ H λσ3 Y=>tt σ3 Y λok O=>if ok=true then te σ3 O λy G=>G D=some (.lst ys)/\Pv (i+1) (ys++[y]) σ3 (upd G D (.lst (ys++[y])))else Pv (i+1) ys σ3 O)
   (hd:∀ys σ H,Pv xs.length ys σ H->Q H) :
   ∃W:Nat->Nat->St->Hp->Prop,(∃m,W 0 m σ0 (upd H1 D (.lst [])))/\∀i m σ' H',W i m σ' H' ->
     ((HH K a).stop i H'/\Q H')\/((HH K a).go i H'/\∃(Ay:V->St->Hp->Prop) (An:St->Hp->Prop),(∀y σ3 G,Ay y σ3 G->∃ys,G D=some (.lst ys)/\ys.length<sizeLine/\∃U,U<m/\W (i+1) U σ3 (upd G D (.lst (ys++[y])))) /\
       (∀σ3 O,An σ3 O->∃U,U<m/\W (i+1) U σ3 O) /\
       ∀x H2,(HH K a).DH i H' x H2->g x σ' H2 λσ3 Y=>tt σ3 Y λok O=>if ok=true then te σ3 O (λy G=>Ay y σ3 G)else An σ3 O):=by
 show Aq (λi m σ H=>m=xs.length-i/\i<=xs.length/\∃ys,Pv i ys σ H) (Bc xs.length (by simp) (LD _) ⟨[],h0⟩) ?_;rintro i m σ H ⟨rfl,hi,ys,p⟩;show B9 (hl i ys σ H hi p) λq hy a2=>?_;by_cases a1:i<xs.length
 . show .inr ⟨(Ce xs (xs[i]) q (by simp[a1])),(Aw (λy σ3 G=>G D=some (.lst ys)/\Pv (i+1) (ys++[y]) σ3 (upd G D (.lst (ys++[y])))) (λσ3 O=>Pv (i+1) ys σ3 O)
     (λy σ3 G ⟨e,p'⟩=>(Bc ys e (by omega) (Ep (xs.length-(i+1)) (by omega) rfl a1 ⟨_,p'⟩))) (λσ3 O p'=>(Ep (xs.length-(i+1)) (by omega) rfl a1 ⟨_,p'⟩)) λx H' y=>?_)⟩
   obtain⟨e,y⟩:=y;subst e;show hs i x ys σ H' (y xs q) p
 . have:i=xs.length:=by omega
   subst this;show .inl ⟨(Aq xs q (JN _)),hd ys σ H p⟩
def Sb:Fm X (.builtin "isinstance") (λxs H Q=>∃x n t b,xs=[x,.ty n]/\ED X.K H x t/\PySem.W.kitOne X.K t (.type n)=some b/\Q (.bl b) H):=by
 intro pins s σ H xs us Q I r h;show Qm h λx n t b z1 ty e q=>?_;subst z1;show B7 (vals2 r) λu G z1 r1 r2=>?_;subst z1;cases r2;show V7 I r1 ty e λtk=>(Aw (.bl b) H (I.tok _) rfl q)
structure AM (P:Program)(w:World)(K:A3)(mg:Bv)(base:Heap)(k:Nat)(x:Str)(ps:List Str)(sp:Sp):Prop where
 ex:∃f fd,AD P w K mg base AU k f fd ps sp/\mg x=some (.ref f)/\PySem.W.keepIn K (.ref f)=true/\Binds K fd ps []
section
def pe_fn (F:AM X.prog X.w X.K X.mg X.base k x ps sp)(hr:AV k X.A)(U:Gl X x)(ha:PA X (e::es) t)(a1:Di x:=by decide)
  (O:Hc X e es:=by rfl)(a2:Hx X pos es:=by rfl):PE X (.Call (.Name x p) (e::es) [] pos) (Q2 sp [] E0 t):=by
 show Fw F.ex λf fd F hm Y G=>Uu F hr U hm Y G .nil Fk ha a1 O a2
end
def Ab0 (G:Gl X x)(hm:X.mg x=some (.int i t))(hd:Di x:=by decide):PE X (.Name x pos) (tC (.int i)):=Ut (v:=.int i) G hm ⟨t,rfl⟩ hd
def Aa9 (G:Gl X x)(hm:X.mg x=some (.str y t))(hd:Di x:=by decide):PE X (.Name x pos) (tC (.str y)):=Ut (v:=.str y) G hm ⟨t,rfl⟩ hd
def Cu:bootBuiltins "isinstance"=some (.builtin "isinstance"):=by decide +kernel
def AS.nil (k:scope.kind=.function)(hc:∀y∈scope.names,y.2≠.cell)(G:∀y∈scope.names,y.2≠.free)(hn:∀y∈scope.names,y.2=.local->scope.names.lookup y.1=some .local)(hl:N'.length=n) :
  AS X scope [] N' n []:=
 ⟨closureFor_none G,k,hc,hn,by simpa using hl,λx c h=>(nomatch h),λx h=>absurd rfl (G _ (LA h)),λk j h=>(by simp at h)⟩
def AA.upd (e:AA H H1)(h:H1 p=none):AA H (upd H1 p o):=λb u q=>by
 rw[Ak (Aj (e b u q) h)];show e b u q
def Ae4 {xs:List Int}{i:Int}{P:Int->Prop}(h:∀x∈xs,P x)(O:0<=i)(h1:i<xs.length):∃c,atI (xs.map V.int) i=some (V.int c)/\P c:=by
 have G:i.toNat<xs.length:=by omega
 have e:(xs.map V.int)[i.toNat]?=some (V.int xs[i.toNat]):=by simp[G]
 have:=Gz e;rw[show((i.toNat:Nat):Int)=i by omega]at this;show Ac this (h _ (List.getElem_mem G))
def Vc {ns:List Int}{k:Int}(G:0<=k)(h1:k<ns.length):∃c,atI (ns.map V.int) k=some (V.int c):=by
 show Am (Ae4 (P:=λ_=>True) (xs:=ns) (λ_ _=>trivial) G h1) λc h _=>⟨c,h⟩
section
end
section
def Ot:CO X (compareOp .LtE) (λx y H Q=>∃i j,x=.str i/\y=.str j/\Q (.bl (!decide (j.cps.toList<i.cps.toList))) H):=by
 intro pins s σ H x y v u Q I G O h;show B7 h λi j z1 U q=>?_;subst z1 U;obtain⟨t,rfl⟩:=G;obtain⟨t',rfl⟩:=O;show PySem.P.le_str (Aw (.bl _) H I rfl q)
end
noncomputable def Its (x:Str):It:=⟨λi _=>i<x.cps.size,λi H v H'=>H'=H/\∃c,x.cps[i]?=some c/\v=.str ⟨#[c]⟩,λi _=>x.cps.size<=i⟩
theorem W4 {P:Program}{w:World}{K:A3}(it:Addr)(x:Str)(t:Tok):Turn P w K (.Name n pos) (Its x) [it] it (λi h=>h.IsStrIter it "str_ascii_iterator" x t i) where
 mem:=by simp
 obj:=λi h st b G=>by
  have e:b=it:=by simpa using G
  subst e;show Bp st λo e c d=>?_;show Aq o e λv z=>by rw[d]at z;cases z
 keep:=λi h h' st k=>let ⟨o,ho,r⟩:=st;(Aq o (k it (by simp) o ho) r)
 item:=by
  intro X hP hw hK hc i pins s σ H E I O st hg;subst hP hw hK;show Ll (O it (by simp)) λf0 f1 f2 U Y f5=>?_;have W:=Walks.strAscii (prog:=X.prog) (w:=X.w) (I.ok.hd hc) it x t;show W.item i s _ _ hg st λv h' tk hv a2 kk=>?_;show B5 hv λc t' a1 z1=>?_;subst z1;have I1:Inv X pins σ H {s with heap:=h',toks:=tk}:=I.turned (λb o G e=>kk b o (by simpa using G) e) f0 f1 U Y f5;show Ac rfl (JK (Ct (.str ⟨#[c]⟩) H I1 ⟨t',rfl⟩ ⟨rfl,(Aq c a1 rfl)⟩ a2 λb G=>(O b G).1))
 done:=by
  intro X hP hw hK hc i pins s σ H E I O st hg;subst hP hw hK;show Ll (O it (by simp)) λf0 f1 f2 U Y f5=>?_;have a4:x.cps.size<=i:=hg;show wpAny_pyNext_ascii_end (I.ok.hd hc) st (by simp;omega) λh' eb=>⟨rfl,I.turned (t':=s.toks) (λb o G e=>eb b o G e) f0 f1 U Y f5⟩
 self:=λ_ _ _ _ _ st h=>wpAny_pyIter_striter_ascii st h
def iStr (tl:TE):TI:=λσ H R=>tl σ H λx H1=>∃z,x=.str z/\z.cps.all (·<128)=true/\R (Its z) H1
def pi_str (hl:PE X l tl):PI X (.Name n p) l (iStr tl):=by
 intro pins s σ H R I h;show AE (hl pins s σ H _ I h) λv s1 ⟨x,H1,G,r1,U⟩=>Bp U λz e ha q=>?_;subst e;obtain⟨t,rfl⟩:=r1;show wpAny_pyIter_ascii ha (B8 s1.heap.objs.size [s1.heap.objs.size] _ _ H1 rfl (G.kept (t':=s1.toks) λb o e=>JI _ e) (W4 _ z t) (A8 (JO _ rfl) rfl rfl) (λb O=>?_) q);have e:b=s1.heap.objs.size:=by simpa using O
 subst e;show G.IB (JN _) (G.AJ.fresh (JN _))
section
variable {κ:Type}[DecidableEq κ]
noncomputable def Bt (kvs:List (κ×V))(k:κ):Option V:=(kvs.find? λG=>decide (G.1=k)).map (·.2)
noncomputable def Ci (kvs:List (κ×V))(k:κ)(v:V):List (κ×V):=
 if(kvs.any λG=>decide (G.1=k))=true then kvs.map (λG=>if G.1=k then(G.1,v)else G)else kvs++[(k,v)]
def C7 {p:κ×V}{r:List (κ×V)}{k:κ}(e:p.1=k):Bt (p::r) k=some p.2:=by simp[Bt,NA,e]
def Dj {p:κ×V}{r:List (κ×V)}{k:κ}(e:¬p.1=k):Bt (p::r) k=Bt r k:=by simp[Bt,NA,e]
theorem Jw (k:κ):∀kvs:List (κ×V),(kvs.any λG=>decide (G.1=k))=(Bt kvs k).isSome
 | []=>rfl
 | p::r=>by
  rw[OT];by_cases e:p.1=k
  .simp only[C7 e,KH e,Bool.true_or,Option.isSome_some]
  .rw [Dj e,KL e,Bool.false_or];show Jw k r
theorem Qy (k j:κ)(y:V):∀kvs:List (κ×V),Bt (kvs.map λG=>if G.1=k then(G.1,y)else G) j=(Bt kvs j).map λx=>if j=k then y else x
 | []=>rfl
 | p::r=>by
  have O:=Qy k j y r;rw[LK];by_cases h:p.1=k
  .rw [KE h];by_cases e:p.1=j
   .rw [C7 (p:=(p.1,y)) e,C7 e,Option.map_some,KE (e.symm.trans h)]
   .rw [Dj (p:=(p.1,y)) e,Dj e,O]
  .rw [JW h];by_cases e:p.1=j
   .rw [C7 (p:=p) e,C7 e,Option.map_some,JW (λz=>h (e.trans z))]
   .rw [Dj (p:=p) e,Dj e,O]
theorem N8 (k j:κ)(y:V):∀kvs:List (κ×V),Bt kvs k=none->Bt (kvs++[(k,y)]) j=if j=k then some y else Bt kvs j
 | [],_=>by
  by_cases e:k=j
  .rw [KE e.symm];show C7 (p:=(k,y)) e
  .rw [JW (λz=>e z.symm)];show Dj (p:=(k,y)) e
 | p::r,hn=>by
  rw[List.cons_append];have G:¬p.1=k:=λz=>by rw[C7 z]at hn;cases hn
  rw[Dj G]at hn;have O:=N8 k j y r hn;by_cases e:p.1=j
  .rw [C7 e,C7 e,JW (λz=>G (e.trans z))]
  .rw [Dj e,Dj e,O]
def Cd (kvs:List (κ×V))(k j:κ)(y:V):Bt (Ci kvs k y) j=if j=k then some y else Bt kvs j:=by
 unfold Ci;by_cases a:(kvs.any λO=>decide (O.1=k))=true
 .rw [KE a,Qy];rw[Jw]at a;by_cases e:j=k
  .obtain⟨x,G⟩:=Option.isSome_iff_exists.mp a;rw[KE e,e,G,Option.map_some,KE rfl]
  .rw [JW e]
   cases Bt kvs j with
   | none=>rfl
   | some x=>rw[Option.map_some,JW e]
 .rw [JW a];show N8 k j y kvs ?_;rw[Jw]at a
  cases q:Bt kvs k with
  | none=>rfl
  | some x=>rw[q]at a;show(a rfl).elim
def Bo (kvs:List (κ×V))(k:κ)(v:V):(Ci kvs k v).length<=kvs.length+1:=by
 unfold Ci;split
 .rw [JR];omega
 .rw [JV,KN,List.length_nil];omega
def BP.BY (r:BP o u):o.isSome=u.isSome:=by
 cases o with
 | none=>cases u with
  | none=>rfl
  | some _=>show(show False from r).elim
 | some _=>cases u with
  | none=>show(show False from r).elim
  | some _=>rfl
def KV.val (r:KV kvs vs)(k:κ):BP (Bt kvs k) (valueAt vs k):=by
 unfold KV at r
 induction r with
 | nil=>show True.intro
 | @cons p q ps O h t U=>
  obtain⟨h1,h2⟩:=h;by_cases e:p.1=k
  .have G:q.1=k:=h1.symm.trans e;have b:valueAt (q::O) k=some q.2:=by simp[valueAt,NA,G]
   rw[C7 e,b];show h2
  .have G:¬q.1=k:=λz=>e (h1.trans z);have b:valueAt (q::O) k=valueAt O k:=by simp[valueAt,NA,G]
   rw[Dj e,b];show U
def KV.any (r:KV kvs vs)(k:κ):(kvs.any λG=>decide (G.1=k))=vs.any λG=>decide (G.1=k):=by
 unfold KV at r
 induction r with
 | nil=>rfl
 | cons h t O=>rw[OT,OT,O,h.1]
def KV.repl (r:KV kvs vs)(k:κ)(U:RelV y u) :
  KV (kvs.map λG=>if G.1=k then(G.1,y)else G) (vs.map λG=>if G.1=k then(G.1,u)else G):=by
 unfold KV at r ⊢
 induction r with
 | nil=>show .nil
 | @cons p q ps Y h t O=>
  rw[LK,LK];show .cons ?_ O;obtain⟨h1,h2⟩:=h;by_cases e:p.1=k
  .rw [KE e,KE (h1.symm.trans e)];show⟨h1,U⟩
  .rw [JW e,JW (λz=>e (h1.trans z))];show⟨h1,h2⟩
def KV.put (r:KV kvs vs)(k:κ)(G:RelV y u):KV (Ci kvs k y) (stored vs k u):=by
 unfold Ci stored;rw[r.any k];by_cases e:(vs.any λO=>decide (O.1=k))=true
 .rw [KE e,KE e];show r.repl k G
 .rw [JW e,JW e];show Paired.snoc r ⟨rfl,G⟩
def KV.length {kvs:List (κ×V)}{vs:List (κ×Value)}(r:KV kvs vs):kvs.length=vs.length:=Paired.length r
end
def K8 (r:RelV (kV k) u):(B3 P w).is k u=true:=by
 cases k with
 | inl i=>obtain⟨t,e⟩:=(show ∃t,u=Value.int i t from r);subst e;show Ro P w i t
 | inr x=>obtain⟨t,e⟩:=(show ∃t,u=Value.str x t from r);subst e;show Rn P w x t
theorem Oy:∀{G:List Key} {us:List Value},AF (G.map kV) us->ItemsAre (B3 P w) G us
 | [],_,r=>by rw[List.map_nil]at r;cases r;show .nil
 | k::G,_,r=>by
  rw[LK]at r
  cases r with
  | cons h t=>show .cons (K8 h) (Oy t)
abbrev KT (H:Hp):List (List Key×V)->List (List Key×Addr×Value)->Prop:=Paired λp q=>p.1=q.1/\H q.2.1=some (.tup (p.1.map kV))/\RelV p.2 q.2.2
def KT.val (r:KT H kvs xs)(k:List Key):BP (Bt kvs k) ((atKey xs k).map (·.2)):=by
 induction r with
 | nil=>show True.intro
 | @cons p q ps O h t U=>
  show B9 h λh1 _ h2=>?_;by_cases e:p.1=k
  .have G:q.1=k:=h1.symm.trans e;have b:atKey (q::O) k=some q.2:=by simp[atKey,NA,G]
   rw[C7 e,b];show h2
  .have G:¬q.1=k:=λz=>e (h1.trans z);have b:atKey (q::O) k=atKey O k:=by simp[atKey,NA,G]
   rw[Dj e,b];show U
def KT.repl (r:KT H kvs xs)(k:List Key)(Y:RelV y u) :
  KT H (kvs.map λG=>if G.1=k then(G.1,y)else G) (xs.map (putAt k u)):=by
 induction r with
 | nil=>show .nil
 | @cons p q ps qs h t U=>
  rw[LK,LK];show .cons (B9 h λh1 h2 O=>?_) U;unfold putAt;by_cases e:p.1=k
  .rw [KE e,KE (h1.symm.trans e)];show A6 h1 h2 Y
  .rw [JW e,JW (λz=>e (h1.trans z))];show A6 h1 h2 O
def KT.put (r:KT H kvs xs)(k:List Key)(O:H b=some (.tup (k.map kV)))(G:RelV y u) :
  KT H (Ci kvs k y) (storedH xs k b u):=by
 have e:(kvs.any λU=>decide (U.1=k))=(atKey xs k).isSome:=by
  rw[Jw,(r.val k).BY,Option.isSome_map]
 unfold Ci storedH;rw[e];by_cases q:(atKey xs k).isSome=true
 .rw [KE q,KE q];show r.repl k G
 .rw [JW q,JW q];show Paired.snoc r (A6 rfl O G)
def KT.keeps (r:KT H kvs xs)(ht:∀b ys,H b=some (.tup ys)->H' b=some (.tup ys)):KT H' kvs xs:=
 Paired.CT r λ_ _ z=>(A6 z.1 (ht _ _ z.2.1) z.2.2)
section
def Af8 (ok:BH P w H h)(e:Rd H a u):AL P w H h a u:=e.ok ok
def O7 (ok:BH P w H h)(e:Rd H a (.dK kvs)):kvs.length<=sizeLine/\(a==sysModules)=false/\∃vs,KV kvs vs/\h.DictOf (B3 P w) a vs:=
 show AL P w H h a (.dK kvs)from Af8 ok e
def U7 (ok:BH P w H h)(e:H a=some (.dK kvs)):kvs.length<=sizeLine/\(a==sysModules)=false/\∃vs,KV kvs vs/\h.DictOf (B3 P w) a vs:=O7 ok (.inl e)
def M0 (ok:BH P w H h)(e:H a=some (.tup (G.map kV))):(tupleKind (B3 P w)).is h G a:=by
 show D7 ((show AL P w H h a (.tup (G.map kV))from ok a _ e)) λ_ z1=>Am z1 λits r U=>Bp U λo h1 h2 Y=>?_;obtain⟨n,O⟩:=Y;show Cr o its.toArray n h1 h2 O (by simpa using Oy r)
def Rz (ok:BH P w H h)(e:Rd H a (.dT kvs)):kvs.length<=sizeLine/\(a==sysModules)=false /\
  ∃xs,KT H kvs xs/\h.DictOfH (tupleKind (B3 P w)) a xs:=by
 show B9 ((show AL P w H h a (.dT kvs)from Af8 ok e)) λz y z1=>Am z1 λxs r z2=>Qn z2 λo es ep h1 h2 U Y h5=>A6 z y (Aq xs r (Qh o es ep h1 h2 U Y (λx G=>?_) h5));have all:∀{l:List (List Key×V)} {m:List (List Key×Addr×Value)},KT H l m->∀x∈m,(tupleKind (B3 P w)).is h x.1 x.2.1:=by
  intro l m q
  induction q with
  | nil=>intro x G;show nomatch G
  | @cons p q ps qs O t ih=>
   intro x G
   rcases JS.mp G with e|G
   .subst e;show M0 ok (by rw[← O.1];show O.2.1)
   .show ih x G
 show all r x G
def dt_of (ok:BH P w H h)(e:H a=some (.dT kvs)):kvs.length<=sizeLine/\(a==sysModules)=false /\
  ∃xs,KT H kvs xs/\h.DictOfH (tupleKind (B3 P w)) a xs:=Rz ok (.inl e)
end
def AX (H:Hp)(a:Addr)(y:V)(r:Option V):Prop:=
 (∃kvs k,Rd H a (.dK kvs)/\y=kV k/\r=Bt kvs k)\/∃kvs k b,Rd H a (.dT kvs)/\y=.ref b/\H b=some (.tup (k.map kV))/\r=Bt kvs k
def FH (H:Hp)(a:Addr)(y v:V)(H':Hp):Prop:=
 (∃kvs k,H a=some (.dK kvs)/\y=kV k/\kvs.length<sizeLine/\H'=upd H a (.dK (Ci kvs k v))) \/
 ∃kvs k b,H a=some (.dT kvs)/\y=.ref b/\H b=some (.tup (k.map kV))/\kvs.length<sizeLine/\H'=upd H a (.dT (Ci kvs k v))
def AX.k {H:Hp}{a:Addr}{kvs:List (Key×V)}{k:Key}(e:H a=some (.dK kvs)):AX H a (kV k) (Bt kvs k):=.inl (Aw kvs k (.inl e) rfl rfl)
def FH.k {H:Hp}{a:Addr}{kvs:List (Key×V)}{k:Key}{v:V}(e:H a=some (.dK kvs))(hl:kvs.length<sizeLine):FH H a (kV k) v (upd H a (.dK (Ci kvs k v))):=.inl (Br kvs k e rfl hl rfl)
section
variable {E:Bf}
def Inv.big (I:Inv X pins σ H s):sysModules<s.heap.objs.size:=by
 have h:mainGlobals<s.heap.objs.size:=(I.mod.glob.keeps I.bk).lt;show Nat.lt_trans (by decide) h
def Wk {Q:Bf}(hu:A.units+1<cLine)(I:Inv X pins σ H s)(g:AX H a y (some v))(ry:RelV y u)(h:∀G s',Inv X pins σ H s'->RelV v G->Q G s') :
  wpAny (model X.prog X.w) A (getItem (.ref a) u) Q E s:=by
 rcases g with⟨kvs,k,e,O,l⟩|⟨kvs,k,b,e,O,eb,l⟩
 .subst O;show B9 (O7 I.AJ e) λz hd z1=>Am z1 λvs Y dd=>?_;show Am (BP.some_of (v:=v) (o:=valueAt vs k) (by rw[l];show Y.val k)) λG U a1=>wpAny_getItem_of (K8 ry) dd.mapOf U (h G _ (I.tok _) a1)
 .subst O;cases(show u=Value.ref b from ry);show B9 (Rz I.AJ e) λz hd z1=>Am z1 λxs Y dd=>?_;show Am (BP.some_of (v:=v) (o:=(atKey xs k).map (·.2)) (by rw[l];show Y.val k)) λG U a1=>Am (Option.map_eq_some_iff.mp U) λp hp a2=>wpAny_getItem_heap (ON hu) (M0 I.AJ eb) dd hp ?_;rw[a2];show h G _ (I.tok _) a1
def d_in {Q:Bf}(hu:A.units+1<cLine)(I:Inv X pins σ H s)(g:AX H a y o)(U:RelV y u)(h:∀s',Inv X pins σ H s'->Q (.bool o.isSome) s') :
  wpAny (model X.prog X.w) A (compareOp .In u (.ref a)) Q E s:=by
 rcases g with⟨kvs,k,e,G,l⟩|⟨kvs,k,b,e,G,Y,l⟩
 .subst G;show B9 (O7 I.AJ e) λz hd z1=>Am z1 λvs O dd=>wpAny_in_of (K8 U) hd dd.mapOf ?_;rw[← (O.val k).BY,← l];show h _ (I.tok _)
 .subst G;cases(show u=Value.ref b from U);show B9 (Rz I.AJ e) λz hd z1=>Am z1 λxs O dd=>wpAny_in_heap (ON hu) (M0 I.AJ Y) hd dd ?_;have q:=(O.val k).BY;rw[Option.isSome_map]at q;rw[← q,← l];show h _ (I.tok _)
def Ad9 {Q:Bf}(hu:A.units+1<cLine)(I:Inv X pins σ H s)(g:AX H a y o)(U:RelV y u)(h:∀s',Inv X pins σ H s'->Q (.bool (!o.isSome)) s') :
  wpAny (model X.prog X.w) A (compareOp .NotIn u (.ref a)) Q E s:=by
 rcases g with⟨kvs,k,e,G,l⟩|⟨kvs,k,b,e,G,Y,l⟩
 .subst G;show B9 (O7 I.AJ e) λz hd z1=>Am z1 λvs O dd=>wpAny_notIn_of (K8 U) hd dd.mapOf ?_;rw[← (O.val k).BY,← l];show h _ (I.tok _)
 .subst G;cases(show u=Value.ref b from U);show B9 (Rz I.AJ e) λz hd z1=>Am z1 λxs O dd=>wpAny_notIn_heap (ON hu) (M0 I.AJ Y) hd dd ?_;have q:=(O.val k).BY;rw[Option.isSome_map]at q;rw[← q,← l];show h _ (I.tok _)
def Lw (I:Inv X pins σ H s)(Y:Mut (H a))(hs:Heap.SameBut a s.heap h')(U:∃q,h'.get? a=some q)(new:AL X.prog X.w (upd H a G) h' a G) :
  Inv X pins σ (upd H a G) {s with heap:=h',toks:=t'}:=
 I.write (x:=a) (e:=a) Y (.inl rfl) (λb q O z=>(hs.2 b O).trans z) U new
def M6 (z:kvs.length<=sizeLine)(hd:(a==sysModules)=false)(G:KV kvs vs)(dd:h'.DictOf (B3 P w) a vs) :
  AL P w H' h' a (.dK kvs):=(A6 z hd (Aq vs G dd))
def Wj {Q:Ju}(hu:A.units+1<cLine)(I:Inv X pins σ H s)(g:FH H a y v H')(ry:RelV y u)(rv:RelV v r)(h:∀s',Inv X pins σ H' s'->Q () s') :
  wpAny (model X.prog X.w) A (setItem (.ref a) u r) Q E s:=by
 rcases g with⟨kvs,k,e,ey,l,Y⟩|⟨kvs,k,b,e,ey,eb,l,Y⟩
 .subst ey Y;show B9 (U7 I.AJ e) λz hd z1=>Am z1 λvs G dd=>?_;have hz:vs.length<=sizeLine:=by rw[← G.length];show z
  have hl:(Ci kvs k v).length<=sizeLine:=by have:=Bo kvs k v;omega
  show wpAny_setItem_pairs (hsz:=hz) (K8 ry) dd λh' U hs=>h _ ?_;have he:∃q,h'.get? a=some q:=let ⟨q,_,_,O,_⟩:=U;⟨q,O⟩
  show Lw I (by rw[e];show True.intro) hs he (M6 hl hd (G.put k rv) U)
 .subst ey Y;cases(show u=Value.ref b from ry);show B9 (dt_of I.AJ e) λz hd z1=>Am z1 λxs G dd=>?_;have hz:xs.length<=sizeLine:=by rw[← Paired.length G];show z
  have hl:(Ci kvs k v).length<=sizeLine:=by have:=Bo kvs k v;omega
  show wpAny_setItem_heap (hsz:=hz) (ON hu) (M0 I.AJ eb) dd λh' U hs=>h _ (Zd U λq es ep O h2 h3 h4 _ h5=>?_);show Lw I (by rw[e];show True.intro) hs ⟨q,O⟩ (A6 hl hd (Ac ((G.put k eb rv).keeps λc ys ec=>?_) (Ny q es ep O h2 h3 h4 h5)));rw[Ak (Bl ec e (λz=>nomatch z))];show ec
end
section
variable {E:Bf}
end
def Zm (i:Expr):Prop:=∀O G,subscripted i false O G=operate [O,G] (getItem O G)
def Uf {E:Bf}{id:String}{Q:Bf}
  (hl:typeLookup (.type T) "__getitem__"=pure (some (.builtin id)))(hs:Zm U)
  (h:wpAny (model prog w) A (eval a1 env) (λo s₁=>wpAny (model prog w) A (eval U env) (λi G=>G.TypeIs o T/\wpAny (model prog w) A (getItem o i) Q E G) E s₁) E s) :
  wpAny (model prog w) A (eval (.Subscript a1 U pos) env) Q E s:=by
 show Subscript_ (LB h (λo s₁ h₁=>LB h₁ (λi G O=>?_) λ_ _ x=>x) λ_ _ x=>x);obtain⟨Y,O⟩:=O;unfold subscriptTail;show JH ?_;rw[getitemInPython_of_ne Y.not_modules];show JH (wpAny_specialOf Y hl ?_);have fin:wpAny (model prog w) A (subscripted U false o i) (λr s₃=>wpAny (model prog w) A (letTemporaryGo a1 o r >>= λ_=>pure r) Q E s₃) E G:=by
  rw[hs o i];show wpAny_operating (LB O (λr s₃ h₃=>JH (wpAny_letTemporaryGo (JK h₃))) λ_ _ x=>x)
 first
  | show JK (JH fin)
  | show JH (JK (JH fin))
  | show JH fin
def R1 (I:Inv X pins σ H s)(g:AX H a y o):s.TypeIs (.ref a) "dict":=by
 rcases g with⟨kvs,k,e,_,_⟩|⟨kvs,k,b,e,_,_,_⟩
 .show B9 (O7 I.AJ e) λ_ _ z1=>Am z1 λvs _ dd=>dd.typeIs
 .show B9 (Rz I.AJ e) λ_ _ z1=>Am z1 λxs _ dd=>dd.typeIs
def Af1 (G ty:TE):TE:=λσ H Q=>G σ H λx H1=>ty σ H1 λy H2=>∃a v,x=.ref a/\AX H2 a y (some v)/\Q v H2
def tDIn (ty G:TE):TE:=λσ H Q=>ty σ H λy H1=>G σ H1 λx H2=>∃a o,x=.ref a/\AX H2 a y o/\Q (.bl o.isSome) H2
def Pe (ty G:TE):TE:=λσ H Q=>ty σ H λy H1=>G σ H1 λx H2=>∃a o,x=.ref a/\AX H2 a y o/\Q (.bl (!o.isSome)) H2
def Af7 (U ty Y:TE):TS:=λD σ H=>Y σ H λv H1=>U σ H1 λx H2=>ty σ H2 λy O=>∃a G,x=.ref a/\FH O a y v G/\D.nx σ G
section
def Ab2 (Y:X.A.units+1<cLine)(ho:PE X o td)(hi:PE X i ty)(hs:Zm i):PE X (.Subscript o i pos) (Af1 td ty):=by
 intro pins s σ H Q I h;show Uf PySem.F.slot_dict_getitem.lookup hs (AE (ho pins s σ H _ I h) λu s1 ⟨x,H1,O,rx,q1⟩=>AE (hi pins s1 σ H1 _ O q1) λiv s2 ⟨y,H2,G,ry,a,v,ex,g,q2⟩=>?_);subst ex;obtain rfl:u=Value.ref a:=rx;show⟨R1 G g,Wk Y G g ry λw' s3 U a1=>(Aw v H2 U a1 q2)⟩
def Yl (Y:X.A.units+1<cLine)(hi:PE X i ty)(ho:PE X o td):PC X .In i o (tDIn ty td):=by
 intro pins s σ H Q I h;show AE (hi pins s σ H _ I h) λiv s1 ⟨y,H1,G,ry,q1⟩=>AE (ho pins s1 σ H1 _ G q1) λu s2 ⟨x,H2,O,rx,a,ov,ex,g,q2⟩=>?_;subst ex;obtain rfl:u=Value.ref a:=rx;show d_in Y O g ry λs3 U=>(Aw (.bl ov.isSome) H2 U rfl q2)
def Os (Y:X.A.units+1<cLine)(hi:PE X i ty)(ho:PE X o td):PC X .NotIn i o (Pe ty td):=by
 intro pins s σ H Q I h;show AE (hi pins s σ H _ I h) λiv s1 ⟨y,H1,G,ry,q1⟩=>AE (ho pins s1 σ H1 _ G q1) λu s2 ⟨x,H2,O,rx,a,ov,ex,g,q2⟩=>?_;subst ex;obtain rfl:u=Value.ref a:=rx;show Ad9 Y O g ry λs3 U=>(Aw (.bl (!ov.isSome)) H2 U rfl q2)
def Z9 (hu:X.A.units+1<cLine)(ho:PE X o td)(hi:PE X i ty)(hv:PE X G tv)(hs:swapsWith G (some (.Subscript o i a1)) pos.line X.env=pure false) :
  PS X (.Assign [.Subscript o i a1] G pos) (Af7 td ty tv):=by
 intro pins s σ H D I h;show wpAny_Assign_Subscript (AE (hv pins s σ H _ I h) λr s1 ⟨v,H1,U,rv,q1⟩=>AE (ho pins s1 σ H1 _ U q1) λu s2 ⟨x,H2,Y,rx,q2⟩=>AE (hi pins s2 σ H2 _ Y q2) λiv s3 ⟨y,H3,I3,ry,a,O,ex,g,q3⟩=>?_) hs;subst ex;obtain rfl:u=Value.ref a:=rx;show Wj hu I3 g ry rv λs4 I4=>(Ce σ O I4 q3)
end
def M7 (h:Heap)(G:sysModules<h.objs.size):AL P w H (h.push {cls:=.type "dict",data:=.dict #[]}) h.objs.size (.dK []):=
 (A6 (LD _) (beq_eq_false_iff_ne.mpr (ML (JP G))) (Aq [] .nil (Heap.DictOf.new h)))
def Xf:TE:=λ_ H Q=>∀p,H p=none->Q (.ref p) (upd H p (.dK []))
section
def Yf:PE X (.Dict [] [] pos) Xf:=λpins s σ H Q I h=>
 wpAny_Dict_empty (Aw (.ref s.heap.objs.size) _ (I.laid (a:=s.heap.objs.size) (o:=.dK []) (t':=s.toks) (λ_ _ q=>JI _ q) (JN _) (M7 s.heap I.big)) rfl (h _ (I.AJ.fresh (JN _))))
end
noncomputable def Fc (kvs more:List (Key×V)):List (Key×V):=more.foldl (λacc G=>Ci acc G.1 G.2) kvs
def KV.merge:∀{more:List (Key×V)} {rs:List (Key×Value)} {kvs:List (Key×V)} {vs:List (Key×Value)},KV more rs->KV kvs vs->KV (Fc kvs more) (merged vs rs):=by
 intro more rs kvs vs r;unfold KV at r
 induction r generalizing kvs vs with
 | nil=>intro q;show q
 | @cons p q ps O h t G=>
  intro r0;have e:KV (Ci kvs p.1 p.2) (stored vs q.1 q.2):=by
   have:=r0.put p.1 h.2;rw[← h.1];show this
  show G e
theorem Fg:∀(more kvs:List (Key×V)),(Fc kvs more).length<=kvs.length+more.length
 | [],kvs=>by show kvs.length<=kvs.length+0;omega
 | p::r,kvs=>by
  have h1:=Fg r (Ci kvs p.1 p.2);have h2:=Bo kvs p.1 p.2
  show(Fc (Ci kvs p.1 p.2) r).length<=_
  rw[KN];omega
section
variable {E:Bf}
end
section
end
section
variable {E:Bf}
end
section
variable {E:Bf}
end
section
end
section
variable {κ:Type}[DecidableEq κ]
end
def AS.of (CG:closureFor scope X.env=pure cl)(k:scope.kind=.function)(hc:∀y∈scope.names,y.2≠.cell)
  (hn:∀y∈scope.names,y.2=.local->scope.names.lookup y.1=some .local)(hl:N'.length=n+js.length)(a6:∀p∈cl,X.env.cells.lookup p.1=some p.2)(fr:List Str)(a1:cl.map (·.1)=fr)(a5:∀y∈scope.names,y.2=.free->y.1∈fr)
  (a4:∀q∈js.zip (N'.drop n),X.N[q.1]?=some q.2/\scope.names.lookup q.2=some .free/\(X.env.kindOf q.2=some .cell\/X.env.kindOf q.2=some .free)):AS X scope cl N' n js:=by
 show⟨CG,k,hc,hn,hl,λx c h=>a6 (x,c) (LA h),λx h=>?_,λi j h=>?_⟩
 .have hm:x∈cl.map (·.1):=by rw[a1];show a5 (x,.free) (LA h) rfl
  cases e:cl.lookup x with
  | some c=>show⟨c,rfl⟩
  | none=>
   rw[List.lookup_eq_none_iff]at e;show Am (LC.mp hm) λp Y O=>?_;have:=e p Y;simp[O]at this
 .have hi:i<js.length:=(List.getElem?_eq_some_iff.mp h).1;have a2:i<(N'.drop n).length:=by rw[List.length_drop];omega
  have G:(N'.drop n)[i]?=some (N'.drop n)[i]:=KG a2;have hz:(j,(N'.drop n)[i])∈js.zip (N'.drop n):=by
   show JJ (i:=i) ?_;rw[List.getElem?_zip_eq_some];show⟨h,G⟩
  show B9 (a4 _ hz) λh1 h2 U=>Ep ((N'.drop n)[i]) ?_ h1 h2 U;rw[← G,List.getElem?_drop]
def T5 {lo:Int}{n:Nat}{D:Addr}{g:TG}{tt:TT}{te:TE}{σ0:St}{H1:Hp}{Q:Hp->Prop}(Pv:Nat->List V->St->Hp->Prop)(hx:n<=sizeLine)(h0:Pv 0 [] σ0 (upd H1 D (.lst [])))
   (hl:∀i ys σ H,i<=n->Pv i ys σ H->H D=some (.lst ys)/\ys.length<=i)
   (hs:∀i ys σ H,i<n->Pv i ys σ H->g (.int (lo+i)) σ H λσ3 H3=>tt σ3 H3 λok O=>if ok=true then te σ3 O λy G=>G D=some (.lst ys)/\Pv (i+1) (ys++[y]) σ3 (upd G D (.lst (ys++[y])))else Pv (i+1) ys σ3 O)
   (hd:∀ys σ H,Pv n ys σ H->Q H) :
   ∃W:Nat->Nat->St->Hp->Prop,(∃m,W 0 m σ0 (upd H1 D (.lst [])))/\∀i m σ' H',W i m σ' H' ->
     ((Itr lo n).stop i H'/\Q H')\/((Itr lo n).go i H'/\∃(Ay:V->St->Hp->Prop) (An:St->Hp->Prop),(∀y σ3 G,Ay y σ3 G->∃ys,G D=some (.lst ys)/\ys.length<sizeLine/\∃U,U<m/\W (i+1) U σ3 (upd G D (.lst (ys++[y])))) /\
       (∀σ3 O,An σ3 O->∃U,U<m/\W (i+1) U σ3 O) /\
       ∀x H2,(Itr lo n).DH i H' x H2->g x σ' H2 λσ3 H3=>tt σ3 H3 λok O=>if ok=true then te σ3 O (λy G=>Ay y σ3 G)else An σ3 O):=by
 show Aq (λi m σ H=>m=n-i/\i<=n/\∃ys,Pv i ys σ H) (Bc n (by simp) (LD _) ⟨[],h0⟩) ?_;rintro i m σ H ⟨rfl,hi,ys,p⟩;obtain⟨hy,a1⟩:=hl i ys σ H hi p;by_cases Y:i<n
 . show .inr ⟨Y,(Aw (λy σ3 G=>G D=some (.lst ys)/\Pv (i+1) (ys++[y]) σ3 (upd G D (.lst (ys++[y])))) (λσ3 O=>Pv (i+1) ys σ3 O)
     (λy σ3 G ⟨e,p'⟩=>(Bc ys e (by omega) (Ep (n-(i+1)) (by omega) rfl Y ⟨_,p'⟩))) (λσ3 O p'=>(Ep (n-(i+1)) (by omega) rfl Y ⟨_,p'⟩)) λx H' y=>?_)⟩
   obtain⟨rfl,rfl⟩:=y;show hs i ys σ H' Y p
 . have:i=n:=by omega
   subst this;show .inl ⟨JN _,hd ys σ H p⟩
def Zf {K:A3}{a D:Addr}{xs:List V}{g:TG}{tt:TT}{te:TE}{σ0:St}{H1:Hp}{Q:Hp->Prop}(Pv:Nat->List V->St->Hp->Prop)(hx:xs.length<=sizeLine)(h0:Pv 0 [] σ0 (upd H1 D (.lst [])))
   (hl:∀i ys σ H,i<=xs.length->Pv i ys σ H->AC K H a xs/\H D=some (.lst ys)/\ys.length<=i)
   (hs:∀i x ys σ H,xs[i]?=some x->Pv i ys σ H->g x σ H λσ3 Y=>tt σ3 Y λok O=>if ok=true then te σ3 O λy G=>G D=some (.lst ys)/\Pv (i+1) (ys++[y]) σ3 (upd G D (.lst (ys++[y])))else Pv (i+1) ys σ3 O)
   (hd:∀ys σ H,Pv xs.length ys σ H->Q H) :
   ∃W:Nat->Nat->St->Hp->Prop,(∃m,W 0 m σ0 (upd H1 D (.lst [])))/\∀i m σ' H',W i m σ' H' ->
     ((HK K a).stop i H'/\Q H')\/((HK K a).go i H'/\∃(Ay:V->St->Hp->Prop) (An:St->Hp->Prop),(∀y σ3 G,Ay y σ3 G->∃ys,G D=some (.lst ys)/\ys.length<sizeLine/\∃U,U<m/\W (i+1) U σ3 (upd G D (.lst (ys++[y])))) /\
       (∀σ3 O,An σ3 O->∃U,U<m/\W (i+1) U σ3 O) /\
       ∀x H2,(HK K a).DH i H' x H2->g x σ' H2 λσ3 Y=>tt σ3 Y λok O=>if ok=true then te σ3 O (λy G=>Ay y σ3 G)else An σ3 O):=by
 show Aq (λi m σ H=>m=xs.length-i/\i<=xs.length/\∃ys,Pv i ys σ H) (Bc xs.length (by simp) (LD _) ⟨[],h0⟩) ?_;rintro i m σ H ⟨rfl,hi,ys,p⟩;show B9 (hl i ys σ H hi p) λq hy a2=>?_;by_cases a1:i<xs.length
 . show .inr ⟨(Ce xs (xs[i]) q (by simp[a1])),(Aw (λy σ3 G=>G D=some (.lst ys)/\Pv (i+1) (ys++[y]) σ3 (upd G D (.lst (ys++[y])))) (λσ3 O=>Pv (i+1) ys σ3 O)
     (λy σ3 G ⟨e,p'⟩=>(Bc ys e (by omega) (Ep (xs.length-(i+1)) (by omega) rfl a1 ⟨_,p'⟩))) (λσ3 O p'=>(Ep (xs.length-(i+1)) (by omega) rfl a1 ⟨_,p'⟩)) λx H' y=>?_)⟩
   obtain⟨e,y⟩:=y;subst e;show hs i x ys σ H' (y xs q) p
 . have:i=xs.length:=by omega
   subst this;show .inl ⟨(Aq xs q (JN _)),hd ys σ H p⟩
structure QE (X:Cx)(e:Expr)(t:TE):Prop where
 go:PE X e t
structure QT (X:Cx)(e:Expr)(t:TT):Prop where
 go:PT X e t
structure QW (X:Cx)(e:Expr)(t:TT):Prop where
 go:PW X e t
structure QA (X:Cx)(es:List Expr)(t:TA):Prop where
 go:PA X es t
structure QS (X:Cx)(s:Stmt)(t:TS):Prop where
 go:PS X s t
structure IP (X:Cx)(ss:List Stmt)(t:TS):Prop where
 go:HU X ss t
structure QG (X:Cx)(e:Expr)(t:TG):Prop where
 go:PG X e t
structure QGs (X:Cx)(es:List Expr)(t:TGs):Prop where
 go:PGs X es t
structure QI (X:Cx)(tg iter:Expr)(t:TI):Prop where
 go:PI X tg iter t
structure QTS (X:Cx)(es:List Expr)(t:TT):Prop where
 go:IX X es t
section
def Aa (ha:QE X e te)(G:QA X es t)(hs:Hc X e es:=by rfl):QA X (e::es) (Ia te t):=⟨Ab6 ha.go G.go hs⟩
def Ad :QA X [] Q0:=⟨pa_nil⟩
def Ah {i j pos}:QE X (.Constant (.int i) j pos) (tC (.int i)):=⟨pe_int⟩
def B1 (ho:CO X (binaryOp op) r)(ha:QE X a ta)(G:QE X b tb):QE X (.BinOp a op b pos) (tOp r ta tb):=⟨pe_op ho ha.go G.go⟩
def Ai (h1:QS X G t):IP X [G] t:=⟨Us h1.go⟩
def Ae (h1:QS X G t)(h2:IP X O u):IP X (G::O) (Zp t u):=⟨X4 h1.go h2.go⟩
def A0 (G:QE X e te):QS X (.Return (some e) pos) (Ah1 te):=⟨ps_ret G.go⟩
def Ax (F:AM X.prog X.w X.K X.mg X.base k x ps sp)(U:AV k X.A)(O:Gl X x)(ha:QA X (e::es) t)(Y:Di x:=by decide)(G:Hc X e es:=by rfl)(a1:Hx X pos es:=by rfl):QE X (.Call (.Name x p) (e::es) [] pos) (Q2 sp [] E0 t):=⟨pe_fn F U O ha.go Y G a1⟩
def A2 (ho:CO X (compareOp op) r)(ha:QE X a ta)(G:QE X b tb)(hm:behindInMarks op b=false):QT X (.Compare a [op] [b] pos) (Uc (tOp r ta tb)):=⟨Z6 ho ha.go G.go hm⟩
def Bh (hc:QT X c O)(ha:IP X a t)(G:IP X b u):QS X (.If c a b pos) (tIfS O t u):=⟨ps_if hc.go ha.go G.go⟩
def A4 :IP X [] Xb:=⟨Z7⟩
def Av {x j pos}:QE X (.Constant (.str x) j pos) (tC (.str x)):=⟨pe_str⟩
def A9 (G:X.N.Nodup)(a1:X.N[i]?=some x)(Y:Loc X.env.scope x)(O:QE X e te)(hs:swapsWith e (some (.Name x a2)) pos.line X.env=pure false:=by rfl)(U:T9 X x:=by first|show .inl rfl|show .inr rfl|assumption):QS X (.Assign [.Name x a2] e pos) (Nh te (He i)):=⟨X6 G a1 Y O.go hs U⟩
def Az (hc:Fm X (.builtin a2) r)(O:Gl X x)(hm:X.mg x=none)(U:bootBuiltins x=some (.builtin a2))(ha:QA X (e::es) t)(hn:x≠"__name__":=by decide)(Y:Di x:=by decide)(G:Hc X e es:=by rfl)(a1:Hx X pos es:=by rfl):QE X (.Call (.Name x p) (e::es) [] pos) (tCB r t):=⟨Yk hc O hm U ha.go hn Y G a1⟩
def Cb (ho:CO X (compareOp op) r)(ha:QE X a ta)(G:QE X b tb)(hm:behindInMarks op b=false):QE X (.Compare a [op] [b] pos) (tOp r ta tb):=⟨Ab4 ho ha.go G.go hm⟩
def G7 (h:QA X es t):QE X (.List es pos) (tLst t):=⟨pe_lst h.go⟩
def Al (G:X.N.Nodup)(Y:X.N[i]?=some x)(U:Loc X.env.scope x)(O:T9 X x:=by first|show .inl rfl|show .inr rfl|assumption):QG X (.Name x pos) (He i):=⟨Aa5 G Y U O⟩
def Ap (O:IxR X r)(ha:QE X a ta)(G:QE X b tb)(hs:Vf b):QE X (.Subscript a b pos) (tOp r ta tb):=⟨pe_ix O ha.go G.go hs⟩
def Dy (h:QE X e t)(G:∀whole,isTrue e X.env whole=(do let v ← whole;standAt e.pos;holding [v] (truthy v)):=by intro _;rfl):QT X e (tB t):=⟨pt_val h.go G⟩
def Hd {b j pos}:QE X (.Constant (.bool b) j pos) (tC (.bl b)):=⟨pe_bl⟩
def Gk (ha:QT X a tA):QT X (.UnaryOp .Not a pos) (tNot tA):=⟨pt_not ha.go⟩
def Dn (G:Gl X x)(hm:X.mg x=none)(O:bootBuiltins x=some u)(r:RelV v u)(hn:x≠"__name__":=by decide)(hd:Di x:=by decide):QE X (.Name x pos) (tC v):=⟨Ab5 G hm O r hn hd⟩
def Uo (ha:QT X a tA)(G:QW X (.BoolOp .Or (b::O) pos) tB'):QW X (.BoolOp .Or (a::b::O) pos) (tOr tA tB'):=⟨pw_or ha.go G.go⟩
def D8 (ha:QE X a ta)(G:QE X (.BoolOp .And (b::O) pos) tb):QE X (.BoolOp .And (a::b::O) pos) (Af2 ta tb):=⟨pe_and ha.go G.go⟩
def Bw (U:PassesOwn (model X.prog X.w) X.A X.env X.xe)(hc:X.calm=true)(a1:QI X tg iter Y)(O:QG X tg g)(G:IP X body tb)(hs:Kn X iter:=by intro _;rfl):QS X (.For tg iter body [] pos) (tFor Y g tb):=⟨ps_for U hc a1.go O.go G.go hs⟩
def Gw {r:V->Hp->VK->Prop}(ho:UnR X (unaryOp op) r)(ha:QE X a ta):QE X (.UnaryOp op a pos) (tUn r ta):=⟨pe_un ho ha.go⟩
def Dm {op}(h:QE X a t):QE X (.BoolOp op [a] pos) t:=⟨pe_one h.go⟩
def Pr (ha:QT X a tA):QW X (.BoolOp .Or [a] pos) tA:=⟨pw_or1 ha.go⟩
def Fu (G:Gl X x)(hm:X.mg x=some (.int i t))(hd:Di x:=by decide):QE X (.Name x pos) (tC (.int i)):=⟨Ab0 G hm hd⟩
def Fy (hc:Fm X (.type T) r)(O:Gl X x)(hm:X.mg x=none)(U:bootBuiltins x=some (.type T))(ha:QA X (e::es) t)(hn:x≠"__name__":=by decide)(Y:Di x:=by decide)(G:Hc X e es:=by rfl)(a1:Hx X pos es:=by rfl):QE X (.Call (.Name x p) (e::es) [] pos) (tCB r t):=⟨Vy hc O hm U ha.go hn Y G a1⟩
def Q7 (pa:PlainAttrs T)(a5:Slot T O G)(U:typeOf (.builtin G)=pure (.type "method_descriptor"))(hm:MtR X G r)(ho:QE X o Y)(ha:QA X (e::es) t)(a2:attributeBase o O X.env (eval o X.env)=eval o X.env:=by rfl)(a1:((backTo cpos (starEach (e::es) X.env)).all (λx=>!x.1)&&(backToKw cpos (keywordEach [] X.env)).all (λx=>x.1.isSome)&&decide ((e::es).length+([]:List Keyword).length+(if([]:List Keyword).isEmpty then 0 else 1)<30))=true:=by rfl)(a4:(apos.endLine==cpos.line)=true:=by rfl)(hs:Hc X e es:=by rfl)(a6:Hx X cpos es:=by rfl):QE X (.Call (.Attribute o O apos) (e::es) [] cpos) (tBM X.K T r Y t):=⟨pe_bm pa a5 U hm ho.go ha.go a2 a1 a4 hs a6⟩
def Ao (h1:QG X e t)(h2:QGs X es u)(hs:(assignEach (e::es) X.env).map (·.2)=assign e X.env::(assignEach es X.env).map (·.2):=by rfl):QGs X (e::es) (Ag4 t u):=⟨Yc h1.go h2.go hs⟩
def Bq {G}(h:QA X es t):QE X (.Tuple es G pos) (Zo t):=⟨pe_tup h.go⟩
def Bd :QS X G Xc:=⟨X7⟩
def Ob (G:Gl X "range")(hm:X.mg "range"=none)(ha:QA X [a] ta)(hs:starEach [a] X.env=[(false,eval a X.env)]:=by rfl):QI X tg (.Call (.Name "range" p) [a] [] pos) (Ag2 ta):=⟨Vx G hm ha.go hs⟩
def Zz (hl:QE X l tl):QI X tg l (Y0 X.K tl):=⟨Aa2 hl.go⟩
def A7 (G:QE X e te)(hs:swapsWith e none pos.line X.env=pure false:=by rfl):QS X (.Expr e pos) (Ae9 te):=⟨Z8 G.go hs⟩
def C6 {j pos}:QE X (.Constant .none j pos) (tC .AQ):=⟨pe_non⟩
def Bm :QTS X [] tYes:=⟨Z5⟩
def Bj :QGs X [] gNil:=⟨Aa4⟩
def qg_tup (hc:X.calm=true)(h:QGs X es t)(hn:(assignEach es X.env).length=n:=by rfl)(G:(assignEach es X.env).findIdx? (·.1)=none:=by rfl):QG X (.Tuple es k pos) (gTup X.K n t):=⟨pg_tup hc h.go hn G⟩
def Gm (hc:QT X c tA)(ha:QE X a ta)(G:QE X b tb):QE X (.IfExp c a b pos) (tIf tA ta tb):=⟨Ye hc.go ha.go G.go⟩
def X2 (pa:PlainAttrs T)(a4:Slot T O G)(U:typeOf (.builtin G)=pure (.type "method_descriptor"))(hm:MtR X G r)(ho:QE X o Y)(a1:attributeBase o O X.env (eval o X.env)=eval o X.env:=by rfl)(a2:(apos.endLine==cpos.line)=true:=by rfl):QE X (.Call (.Attribute o O apos) [] [] cpos) (tBM0 X.K T r Y):=⟨pe_bm0 pa a4 U hm ho.go a1 a2⟩
def Jz (ha:QT X a tA):QW X (.BoolOp .And [a] pos) tA:=⟨Z3 ha.go⟩
def Kq (ha:QT X a tA)(G:QW X (.BoolOp .And (b::O) pos) tB'):QW X (.BoolOp .And (a::b::O) pos) (tAnd tA tB'):=⟨pw_and ha.go G.go⟩
def Xv (ho:CO X (compareOp op) r)(a1:CO X (compareOp G) U)(ha:QE X a ta)(O:QE X b tb)(hc:QE X c Y)(hm:lastMarks [op,G] [b,c]=false:=by with_unfolding_all rfl):QT X (.Compare a [op,G] [b,c] pos) (Uc (Pg r U ta tb Y)):=⟨X3 ho a1 ha.go O.go hc.go hm⟩
def qi_tup (hl:QE X l tl):QI X tg l (iTup X.K tl):=⟨pi_tup hl.go⟩
def Xy (ha:QE X a ta)(G:QE X (.BoolOp .Or (b::O) pos) tb):QE X (.BoolOp .Or (a::b::O) pos) (tOrV ta tb):=⟨pe_or ha.go G.go⟩
def qe_not (ha:QE X a ta):QE X (.UnaryOp .Not a pos) (Ae6 ta):=⟨pe_not ha.go⟩
def Cj (G:X.A.units+1<cLine)(ho:QE X o O)(U:QE X i ty)(hs:Zm i):QE X (.Subscript o i pos) (Af1 O ty):=⟨Ab2 G ho.go U.go hs⟩
def Ih (ho:CO X (compareOp op) r)(a1:CO X (compareOp G) U)(ha:QE X a ta)(O:QE X b tb)(hc:QE X c Y)(hm:lastMarks [op,G] [b,c]=false:=by with_unfolding_all rfl):QE X (.Compare a [op,G] [b,c] pos) (Pg r U ta tb Y):=⟨Yi ho a1 ha.go O.go hc.go hm⟩
def Lq (h:QT X c tt):QTS X [c] tt:=⟨Z4 h.go⟩
def qi_str (hl:QE X l tl):QI X (.Name n p) l (iStr tl):=⟨pi_str hl.go⟩
def L8 (G:QE X e te)(O:QG X tg g)(hs:swapsWithSole [tg] e pos.line X.env=pure false:=by rfl)(U:swappedStores [tg] e X.env=pure none:=by rfl)(h1:(assignEach [tg] X.env).map (·.2)=[assign tg X.env]:=by rfl):QS X (.Assign [tg] e pos) (Nh te g):=⟨ps_asg G.go O.go hs U h1⟩
def Q6 (O:PassesOwn (model X.prog X.w) X.A X.env X.xe)(hc:QT X c U)(G:IP X body tb):QS X (.While c body [] pos) (Xa U tb):=⟨X5 O hc.go G.go⟩
def qe_var (G:X.N[i]?=some x)(O:Vis X.env.scope x)(hd:Di x:=by decide)(U:(x==("__classdict__":Str))=false:=by decide):QE X (.Name x pos) (La i):=⟨Pw G O hd U⟩
def qv (i:Nat)(G:X.N[i]?=some x:=by rfl)(O:Vis X.env.scope x:=by first|show Or.inl rfl|show Or.inr (Or.inl rfl)|show Or.inr (Or.inr rfl))(hd:Di x:=by decide)(U:(x==("__classdict__":Str))=false:=by decide):QE X (.Name x pos) (La i):=⟨pv i G O hd U⟩
def QW.pt (h:QW X e t):QT X e t:=⟨h.go.pt⟩
def Ck (c:AS X scope cl N' n js)(hc:X.calm=true)(hi:QI X tg iter Y)(U:∀O G fp,QG (AY X N' scope cl O G fp) tg g/\QTS (AY X N' scope cl O G fp) a2 tt/\QE (AY X N' scope cl O G fp) a1 te)(hs:Kn X iter:=by intro _;rfl):QE X (.ListComp a1 [⟨tg,iter,a2,0⟩] scope pos) (N9 (Er n js) Y g tt te):=⟨Ab3 c hc hi.go (λO G fp=>(A6 ((U O G fp).1.go) ((U O G fp).2.1.go) ((U O G fp).2.2.go))) hs⟩
def Ix (hN:X.N.Nodup)(a2:X.N[i0]?=some y)(hx:X.env.scope.names.lookup y=some .local)(a4:swapsWith (.ListComp Y [⟨tg,iter,a1,0⟩] scope pos) (some (.Name y py)) a5.line X.env=pure true)(c:AS X scope cl N' n js)(hc:X.calm=true)(hi:QI X tg iter wi)(U:∀O G fp,QG (AY X N' scope cl O G fp) tg g/\QTS (AY X N' scope cl O G fp) a1 tt/\QE (AY X N' scope cl O G fp) Y te)(hs:Kn X iter:=by intro _;rfl):QS X (.Assign [.Name y py] (.ListComp Y [⟨tg,iter,a1,0⟩] scope pos) a5) (Nh (N9 (Er n js) wi g tt te) (He i0)):=⟨Aa0 hN a2 hx a4 c hc hi.go (λO G fp=>(A6 ((U O G fp).1.go) ((U O G fp).2.1.go) ((U O G fp).2.2.go))) hs⟩
end
def AG.At {P:Program}{w:World}{K:A3}{mg:Bv}{base:Heap}{x qual:Str}{G:Stmt}{f:Addr}{fd:FuncData}{N ps:List Str}{k:Nat}{sp:Sp}(F:AG K x qual G f fd)(S:AB N ps (Af G))(len:∀vs H Q E,sp vs H Q E->vs.length=ps.length)(Y:∀(cdv:Value) (A:Around) (outer:List Env) (s:Shared) (H:Hp) (vs:List V) (Q:VK) (E:XK),AV k (A.deeper (envOfC qual (Af G) s.heap.objs.size f cdv))->sp vs H Q E->∃t,IP (Na AU P w K mg base N qual (Af G) f cdv A outer s H E).nox (Ar G) t/\t {nx:=λ_ H'=>Q .AQ H',rt:=Q} (start N vs) H):AD P w K mg base AU (k+1) f fd ps sp:=F.ok S len λcdv A outer s H vs Q E O U=>let ⟨t,h,q⟩:=Y cdv A outer s H vs Q E O U;(Aq t h.go q)
def AL.there (x:AL P w H h a o):∃O,h.get? a=some O:=by
 cases o with
 | lst xs=>show D7 x λ_ z1=>?_;show B5 z1 λ_ _ _ e=>?_;show⟨_,e⟩
 | tup xs=>show D7 x λ_ z1=>?_;show Am z1 λ_ _ G=>?_;show Am G λO e _=>?_;show⟨_,e⟩
 | dK kvs=>show B9 x λ_ _ z1=>?_;show Am z1 λ_ _ G=>?_;show Da G λo _ _ e _=>?_;show⟨_,e⟩
 | dT kvs=>show B9 x λ_ _ z1=>?_;show Am z1 λ_ _ G=>?_;show Da G λo _ _ e _=>?_;show⟨_,e⟩
 | set S n=>show Jp x λo _ _ _ e _=>?_;show⟨_,e⟩
 | ins C dx fs=>show Js x λ_ _ _ e _=>?_;show⟨_,e⟩
 | own y=>show x
 | xd fs=>show Am x λ_ z1 _=>?_;obtain⟨_,_,_,e,_⟩:=z1;show⟨_,e⟩
 | rng lo hi=>show dd30 x λ_ _ _ e=>?_;show⟨_,e⟩
 | EM O u=>obtain⟨e,_⟩:=x;show⟨_,e⟩
 | FK ps=>show⟨_,show h.get? a=some _ from x⟩
 | met f y=>show⟨_,show h.get? a=some _ from x⟩
 | ext φ=>show B9 x λ_ e _=>?_;show e
def BH.none_of (x:BH P w H h)(e:h.get? a=none):H a=none:=by
 cases q:H a with
 | none=>rfl
 | some o=>obtain⟨G,r⟩:=(x a o q).there;rw[e]at r;cases r
def BH.HI (x:BH P w H h)(k:∀b u o,H b=some o->h.get? b=some u->h'.get? b=some u):BH P w H h':=λa o e=>
 (x a o e).CC (λb u G q=>by
   rcases G with rfl|G
   . show k _ u o e q
   . show k b u _ G q) (λ_ q=>q) λ_ _ q=>q
def BH.FO (x:BH P w H h)(hn:H a=none)(new:AL P w (upd H a o) h a o):BH P w (upd H a o) h:=λb u e=>by
 by_cases G:b=a
 .subst G;rw[Ag]at e;cases e;show new
 .rw [Ak G]at e;show(x b u e).CC (λc v _ q=>q) (λc q=>by rw[Ak (Aj q hn)];show q) λc xs q=>by rw[Ak (Aj q hn)];show q
def Rec (h:Heap)(e:Addr)(cls:Value):Option Addr->Prop
 | none=>∃G vs,h.get? e=some G/\G.cls=cls/\G.data=.fields vs/\vs[1]?=some .none
 | some T=>∃G vs oT ts,h.get? e=some G/\G.cls=cls/\G.data=.fields vs/\vs[1]?=some (.ref T)/\T≠e/\h.get? T=some oT/\oT.data=.fields ts/\ts[3]?=some .none
structure Noted (l:List Env)(e:Addr)(cls:Value)(T:Option Addr)(h h':Heap)(T':Addr):Prop where
 rc:Rec h' e cls (some T')
 new:h.get? T'=none\/T=some T'
 keep:∀b o,h.get? b=some o->b∉CP l->b≠e->T≠some b->h'.get? b=some o
 slot:∀b o,h.get? b=some o->b∈CP l->∃sl,h'.get? b=some {o with slots:=sl}
section
variable {E:Bf}
end
def Inv.HM (I:Inv X pins σ H s)(hex:X.ex=[])(h:s.heap.get? a=none):X.s₀.heap.get? a=none:=by
 cases q:X.s₀.heap.get? a with
 | none=>rfl
 | some o=>
  obtain⟨o',r⟩:=I.base.there a o q (by rw[hex];simp);rw[h]at r;cases r
section
variable {P:Program}{w:World}{K:A3}{mg:Bv}{base:Heap}
end
section
end
section
variable {P:Program}{w:World}{K:A3}{mg:Bv}{base:Heap}
end
def XO (a:Addr)(cls:Value)(h:Heap):Prop:=∃o vs,h.get? a=some o/\o.cls=cls/\o.data=.fields vs
def Rec.xo (r:Rec h e cls (some T)):XO e cls h:=by
 show Qm r λY vs oT ts G O U _=>Aw Y vs G O U
def Un.noted (u:Un (CP l) [] H H' h h1)(n:Noted l e cls T h1 h2 T')(he:h.get? e=none)(hT:∀t,T=some t->h.get? t=none):Un (CP l) [] H H' h h2:=by
 have ne:∀b o,h.get? b=some o->b≠e:=λb o q z=>by rw[z,he]at q;cases q
 have nt:∀b o,h.get? b=some o->T≠some b:=λb o q z=>by rw[hT b z]at q;cases q
 show⟨λb o q m G O=>n.keep b o (u.keep b o q m G O) G (ne b o q) (nt b o q),λb o q m G O=>?_,u.free,λb o q O=>?_,u.AH,u.DI,u.DJ⟩
 .obtain⟨sl,U⟩:=u.slot b o q m G O;obtain⟨a1,Y⟩:=n.slot b _ U G;show⟨a1,Y⟩
 .obtain⟨o',U⟩:=u.there b o q O;by_cases G:b∈CP l
  .obtain⟨a1,Y⟩:=n.slot b _ U G;show⟨_,Y⟩
  .show⟨o',n.keep b o' U G (ne b o q) (nt b o q)⟩
def Un.but (u:Un fs [] H H' h h1)(k:∀b o,b≠T->h1.get? b=some o->h2.get? b=some o)(hT:h.get? T=none):Un fs [] H H' h h2:=by
 have U:∀b o,h.get? b=some o->b≠T:=λb o q z=>by rw[z,hT]at q;cases q
 show⟨λb o q m O G=>k b o (U b o q) (u.keep b o q m O G),λb o q m O G=>?_,u.free,λb o q G=>?_,u.AH,u.DI,u.DJ⟩
 .obtain⟨sl,Y⟩:=u.slot b o q m O G;show⟨sl,k b _ (U b o q) Y⟩
 .obtain⟨o',Y⟩:=u.there b o q G;show⟨o',k b o' (U b o q) Y⟩
def Un.FO (u:Un fs [] H H' h h1)(ha:h.get? a=none)(hn:H' a=none):Un fs [] H (upd H' a o) h h1:=by
 show⟨u.keep,u.slot,λb G q m O=>?_,u.there,λb xs q=>?_,λb G xs q=>?_,λb ps q=>?_⟩
 .rw [Ak (λz=>by rw[z,ha]at q;cases q)];show u.free b G q m O
 .have:=u.AH b xs q;rw[Ak (Aj this hn)];show this
 .have:=u.DI b G xs q;rw[Ak (Aj this hn)];show this
 .obtain⟨m,z⟩:=u.DJ b ps q;show⟨m,by rw[Ak (Aj z hn)];show z⟩
def Tv {E:Bf}{Q:Ju}(r:Rec s.heap e cls (some T))
  (k:∀h',Rec h' e cls (some T)->(∀b o,b≠T->s.heap.get? b=some o->h'.get? b=some o)->Q () {s with heap:=h'}):wpAny M A (setFlight (.ref e) none) Q E s:=by
 show K3 r λoe vs oT ts O g2 U Y g5 z1=>B9 z1 λg6 g7 g8=>?_;have hsz:=(Array.getElem?_eq_some_iff.mp g8).1;have a1:∀b,b≠T->(s.heap.update T (Obj.mapFields (·.setIfInBounds 3 Value.none))).get? b=s.heap.get? b:=λb G=>KW _ _ (ML G);have hd:=MT g7 (·.setIfInBounds 3 Value.none);show wpAny_setFlight_none O U Y g6 g7 hsz (k _ (B0 oe vs _ _ ((a1 e (ML g5)).trans O) g2 U Y g5 (A6 (LV _ g6 (MP hd)) hd ?_)) λb o G q=>(a1 b G).trans q);simp[hsz]
abbrev Cx.EY (X:Cx)(a:Addr)(pn:Dh):Cx:={X with A:=X.A.mark (some (.ref a)),calm:=false,pn:=pn,xe:=λ_ _=>False}
def Inv.EY (I:Inv X pins σ H s)(h:pn=X.pn++pins):Inv (X.EY a pn) [] σ H s:=by
 subst h
 show⟨⟨I.ok.mod,I.ok.kind,I.ok.glob,I.ok.blt,I.ok.above,I.ok.inj,I.ok.has,I.ok.cab,λz=>Bool.noConfusion z,I.ok.frames,I.ok.stk,I.ok.exf,I.ok.bs,I.ok.IS,I.ok.HN,I.ok.GB,I.ok.DY,I.ok.frf⟩,
  I.os,I.bare,I.base,I.loc,I.cell,I.free,I.BB,λp G=>I.pin p (by simpa using G),I.AJ,I.len⟩
def Inv.IF (ok:X.Ok)(I:Inv (X.EY a pn) [] σ H s)(h:pn=X.pn++pins):Inv X pins σ H s:=by
 subst h;show⟨ok,I.os,I.bare,I.base,I.loc,I.cell,I.free,I.BB,λp G=>I.pin p (by simpa using G),I.AJ,I.len⟩
def Iy {E:Bf}{Q:Ju}(I:Inv X pins σ H s)(hN:X.N.Nodup)(hi:X.N[i]?=some n)(hk:X.env.kindOf n=some .local)
  (h:∀s',Inv X pins (σ.set i none) H s'->Q () s'):wpAny M A (do bindName X.env n .none;unbindBehindTheSuite X.env n pos) Q E s:=by
 show Am (id I.loc) λm hn hl=>?_;have a2:i<σ.length:=by rw[I.len];show(List.getElem?_eq_some_iff.mp hi).1
 show wpAny_nameGoes_keeps hk hn (by rw[I.ok.kind];rfl) λh' v a4 hs=>h _ (Da (id hn) λoL _ _ a5 _=>?_);have a1:∀b o,X.s₀.heap.get? b=some o->b≠X.env.locals:=λb o e=>JP (KA (JL e) I.ok.above);show⟨I.ok,I.os,I.bare,⟨λb o e n O U=>?_,λb o e n O U=>?_,I.base.free,λb o e U=>?_,I.base.AH,I.base.DI,I.base.DJ⟩,(Ac a4 λj y v' G Y e3=>?_),λy c e=>?_,I.free,I.BB,λp hp=>?_,?_,by simpa using I.len⟩
 .show (hs.2 b (a1 b o e)).trans (I.base.keep b o e n O U)
 .obtain⟨sl,G⟩:=I.base.slot b o e n O U;show⟨sl,(hs.2 b (a1 b o e)).trans G⟩
 .obtain⟨o',G⟩:=I.base.there b o e U;show⟨o',(hs.2 b (a1 b o e)).trans G⟩
 .by_cases hj:j=i
  .subst hj;rw[List.getElem?_set_self a2]at Y;cases Y
  .rw [List.getElem?_set_ne (ML hj)]at Y;show Am (hl j y v' G Y e3) λu' r' q=>Aq u' r' ?_;rcases q with⟨k,e⟩|⟨k,c,e,z⟩
   .show .inl ⟨k,?_⟩;have:y≠n:=λe=>hj (Mu hN G (e▸hi));simp[this,e]
   .show .inr ⟨k,(Aq c e (z.sameBut hs (I.cne y c e)))⟩
 .obtain⟨w',z⟩:=I.cell y c e;show⟨w',z.sameBut hs (I.cne y c e)⟩
 .show Js (I.pin p hp) λe nn ne nf d=>Fq ((hs.2 p.1 ne).trans e) nn ne nf d
 .show I.AJ.HI λb u o O q=>(hs.2 b λz=>?_).trans q;rw[z,I.free]at O;cases O
abbrev Cx.tryx (X:Cx)(pn:Dh)(E:Bf):Cx:={X with pn:=pn,xe:=E}
def Inv.tryx {E:Bf}(I:Inv X pins σ H s)(h:pn=X.pn++pins):Inv (X.tryx pn E) [] σ H s:=by
 subst h
 show⟨⟨I.ok.mod,I.ok.kind,I.ok.glob,I.ok.blt,I.ok.above,I.ok.inj,I.ok.has,I.ok.cab,I.ok.hd,I.ok.frames,I.ok.stk,I.ok.exf,I.ok.bs,I.ok.IS,I.ok.HN,I.ok.GB,I.ok.DY,I.ok.frf⟩,
  I.os,I.bare,I.base,I.loc,I.cell,I.free,I.BB,λp G=>I.pin p (by simpa using G),I.AJ,I.len⟩
def Inv.FV {E:Bf}(ok:X.Ok)(I:Inv (X.tryx pn E) O σ H s)(h:pn=X.pn++pins):Inv X pins σ H s:=by
 subst h;show⟨ok,I.os,I.bare,I.base,I.loc,I.cell,I.free,I.BB,λp G=>I.pin p (LX _ G),I.AJ,I.len⟩
noncomputable def U5 (D:Ends)(i:Nat):Ends:={nx:=λσ H=>D.nx (σ.set i none) H,rt:=D.rt,bk:=λσ H=>D.bk (σ.set i none) H,ct:=λσ H=>D.ct (σ.set i none) H}
section
end
end L2
namespace L2
open PySem PySem.Spec PyProof.Rows PySem.W
structure JA (K:A3)(C:Addr):Prop where
 ga:PySem.W.findIn K (.ref C) "__getattribute__"=some (some (.builtin "BaseException.__getattribute__"))
 gt:PySem.W.findIn K (.ref C) "__getattr__"=some none
 cl:PySem.W.findIn K (.ref C) "__class__"=some (some (.builtin "object.__class__"))
 sub:PySem.W.subIn K (.ref C) (.type "BaseException")=some true
 obj:PySem.W.subIn K (.ref C) (.type "object")=some true
 is:PySem.W.isClsIn K C=true
section
variable {prog:Program}{w:World}{A:Around}{E:Bf}{h:Heap}{g:Array GenState}{d:Drawn}{t:Nat}{os:OsState}{a C:Addr}{o:Obj}{K:A3}
def U3 {Q:Option Value->Shared->Prop}(X:K.In h)(e:PySem.W.findIn K (.ref C) n=some r)(q:Q r ⟨h,g,d,t,os⟩):wpAny M A (typeLookup (.ref C) n) Q E ⟨h,g,d,t,os⟩:=(PySem.W.looks_findIn X e).here q
def Zs {Q:Bool->Shared->Prop}(X:K.In h)(e:PySem.W.subIn K (.ref C) c=some r)(q:Q r ⟨h,g,d,t,os⟩):wpAny M A (isSubtype (.ref C) c) Q E ⟨h,g,d,t,os⟩:=(PySem.W.looks_subIn X e).here q
def Vj {Q:Ju}(c:JA K C)(X:K.In h)(O:h.get? a=some o)(hc:o.cls=.ref C)(G:Q () ⟨h,g,d,t,os⟩):wpAny M A (checkBuiltinCall "BaseException.__getattribute__" ⟨[.ref a,U],[]⟩) Q E ⟨h,g,d,t,os⟩:=by
 have z1:builtinKind "BaseException.__getattribute__"=some .slot:=by decide +kernel
 have Y:splitId "BaseException.__getattribute__"=some ("BaseException","__getattribute__"):=by decide +kernel
 have z3:=F.args_bexc_ga (.ref a) U;simp only[checkBuiltinCall,z1,Y];show JH ?_;unfold isInstance
 repeat (first|(with_reducible show MV O ?_;rw[hc])|with_reducible show Zs X c.sub ?_|wp_step)
 show G
end
section
variable {E:Bf}
end
section
end
def Zj (hc:X.calm=true):Fm X (.builtin "all") (λxs H Q=>∃(a:Addr) (bs:List Bool),xs=[.ref a]/\AK X.K H a (bs.map V.bl)/\Q (.bl (bs.all id)) H):=by
 intro pins s σ H xs us Q I r h;show B7 h λa bs z1 ha q=>?_;subst z1;show Am (K5 r) λu z1 U=>?_;subst z1;cases U;show Bp (I.list ha) λits rv pl _=>?_;have hh:X.A.handled=none:=I.ok.hd hc;have a1:a<s.heap.objs.size:=by show B5 pl λo n e _=>?_;show JL e
 have hn:∀i:Nat,its.toArray[i]?=(bs[i]?).map Value.bool:=λi=>by
  have:=rv
  cases e:bs[i]? with
  | none=>
   have h1:(bs.map V.bl)[i]?=none:=by rw[KP,e];rfl
   have:=rv.none_of h1;simpa using this
  | some b=>
   have h1:(bs.map V.bl)[i]?=some (V.bl b):=by rw[KP,e];rfl
   show Am (rv.get h1) λu hu U=>?_;cases(show u=Value.bool b from U);simpa using hu
 have a4:its.length=bs.length:=by have:=rv.length;simpa using this.symm
 have W:=Walks.list (prog:=X.prog) (w:=X.w) (A:=X.A.in1) hh s.heap.objs.size a (JP a1) its.toArray;show call_all_walk (LW pl.isList (En (Qj (λi=>(bs[i]?).getD true) rfl W ?_ ?_ λh' tk k=>?_)))
 .show⟨(A8 (JO _ rfl) rfl rfl),Heap.IsList.push pl.isList _⟩
 .intro i v s' Q' E' G O;have O:Q' ((bs[i]?).getD true) s':=O;rw[hn i]at G
  cases e:bs[i]? with
  | none=>rw[e]at G;cases G
  | some b=>
   rw[e]at G O;cases G;show LQ O
 .have a2:(List.range its.toArray.size).all (λi=>(bs[i]?).getD true)=bs.all id:=by
   rw[JZ,a4,MZ,NO,NO];constructor
   .intro h x hx;obtain⟨i,hi,rfl⟩:=List.getElem_of_mem hx;have:=h i (List.mem_range.mpr hi);rw[KG hi]at this;show this
   .intro h i hi;have Y:=List.mem_range.mp hi;rw[KG Y];show h _ (List.getElem_mem Y)
  rw[a2];show Aw (.bl _) H (I.kept (t':=tk) λb u e=>k b u (by simp;show JP (JL e)) (JI _ e)) rfl q
section
variable {R:Result->Shared->Prop}
def N3 (I:Nat->Shared->Prop)
   (a5:∀n s,I n s->wpAny (model prog w) A (pyNext it) (λr G=>match r with
     | none=>R (.ok .next) G
     | some v=>wpAny (model prog w) A (letOwnedTupleGo U it v) (λ_ a2=>wpAny (model prog w) A (assign U env v) (λ_ s₂=>
         wpAny (model prog w) A (forIn a1 true λc r=>if r=true then do let ok ← isTrue c env (eval c env);pure (ForInStep.yield ok)else pure (ForInStep.yield r)) (λok O=>
           if ok=true then wpAny (model prog w) A (eval kx env) (λkv s₄=>wpAny (model prog w) A (eval vx env) (λvv s₅=>
             wpAny (model prog w) A (dictSet D kv vv) (λ_ s₆=>∃m,m<n/\I m s₆) (λ_ _=>False) s₅) (λ_ _=>False) s₄) (λ_ _=>False) O
           else ∃m,m<n/\I m O) (λ_ _=>False) s₂) (λ_ _=>False) a2) (λ_ _=>False) G) (λ_ _=>False) s)
   (n:Nat)(h:I n s) :
   codeAny (model prog w) A (.compLoop (.DictComp kx vx [⟨U,iter,a1,0⟩] scope pos) 0 it (.ref D) env) R s:=by
 have nv:∀{α:Type} {t:Sem α} {Q:α->Shared->Prop} {E':Bf} {s':Shared},wpAny (model prog w) A t Q (λ_ _=>False) s'->wpAny (model prog w) A t Q E' s':=
   λh=>LB h (λ_ _ q=>q) λ_ _ z=>z.elim
 show codeAny_loop rfl I (λn s hI=>?_) n h
 show wpAny _ A ((compTurn (.DictComp kx vx [⟨U,iter,a1,0⟩] scope pos) 0 it (.ref D) env).onRaise (λx=>do noteFrame x env;theTreesLotGoes x)) _ _ s
 show wpAny_noted (nv ?_);rw[compTurn_dict];show JH (LS (JH (AE (a5 n s hI) (λr G h₁=>?_))))
 cases r with
 | none=>show JK h₁
 | some v=>
   show JH (AE h₁ (λ_ a2 a4=>JH (AE a4 (λ_ s₂ h₂=>JH (AE h₂ (λok O Y=>?_))))))
   cases ok with
   | false=>show JK ⟨rfl,Y⟩
   | true=>
     show JH (JH (AE Y (λkv s₄ h₄=>JH (LL (AE h₄ (λvv s₅ h₅=>JH (LS (LL (AE h₅ (λ_ s₆ h₆=>JK ⟨rfl,h₆⟩))))))))))
end
def Pf (κ:St->St)(wi:TI)(g:TG)(tt:TT)(tk tv:TE):TE:=λσ H Q=>wi σ H λJ H1=>∀D,H1 D=none->∃W:Nat->Nat->St->Hp->Prop,(∃m,W 0 m (κ σ) (upd H1 D (.dK [])))/\∀i m σ' H',W i m σ' H' ->
 (J.stop i H'/\Q (.ref D) H')\/(J.go i H'/\∃(Ay:V->V->St->Hp->Prop) (Y:St->Hp->Prop),(∀y v σ3 O,Ay y v σ3 O->∃kvs a1,y=kV a1/\O D=some (.dK kvs)/\kvs.length<sizeLine/\∃U,U<m/\W (i+1) U σ3 (upd O D (.dK (Ci kvs a1 v))))/\(∀σ3 G,Y σ3 G->∃U,U<m/\W (i+1) U σ3 G) /\
   ∀x H2,J.DH i H' x H2->g x σ' H2 λσ3 H3=>tt σ3 H3 λok G=>if ok=true then tk σ3 G (λy O=>tv σ3 O λv H6=>Ay y v σ3 H6)else Y σ3 G)
section
def O9 {E:Bf}
   {RR:Value->Addr->Result->Shared->Prop}{tn:Nat->Heap->Prop}{W:Addr->Nat->Nat->St->Hp->Prop}{Fi:Addr->Hp->Prop}
   (c:AS X scope cl N' n js)(hc:X.calm=true)
   (aQ:∀G H3 fp,PG (AY X N' scope cl G H3 fp) tg g/\IX (AY X N' scope cl G H3 fp) a9 tt/\PE (AY X N' scope cl G H3 fp) kx tk/\PE (AY X N' scope cl G H3 fp) vx tv)
   (I:Inv X pins σ H s)(T:Turn X.prog X.w X.K tg J fp it tn)(st:tn 0 s.heap)(f:∀b∈fp,Ff X pins H b)
   (w0:∀D,H D=none->∃m,W D 0 m (Er n js σ) (upd H D (.dK [])))
   (af:∀D,H D=none->∀i m σ' H',W D i m σ' H'->(J.stop i H'/\Fi D H')\/(J.go i H'/\∃(Ay:V->V->St->Hp->Prop) (An:St->Hp->Prop),(∀y v σ3 Y,Ay y v σ3 Y->∃kvs a1,y=kV a1/\Y D=some (.dK kvs)/\kvs.length<sizeLine/\∃U,U<m/\W D (i+1) U σ3 (upd Y D (.dK (Ci kvs a1 v))))/\(∀σ3 H4,An σ3 H4->∃U,U<m/\W D (i+1) U σ3 H4) /\
     ∀x H2,J.DH i H' x H2->g x σ' H2 λσ3 H3=>tt σ3 H3 λok H4=>if ok=true then tk σ3 H4 (λy Y=>tv σ3 Y λv H6=>Ay y v σ3 H6)else An σ3 H4))
   (hR:∀(D:Addr) (G:Shared) (H3 H':Hp) (s':Shared),Inv X pins σ H3 G->Inv X pins σ H' s'->(∃m,s'.heap.Ns G.heap.objs.size m)->H' G.heap.objs.size=none->Fi D H'->RR (.ref D) G.heap.objs.size (.ok .next) s') :
   wpAny (model X.prog X.w) X.A newDict (λacc s₃=>wpAny (model X.prog X.w) X.A (newFunctionEnv scope X.env.globals cl [] X.env.qual none .none (some X.env)) (λaF s₄=>
     codeAny (model X.prog X.w) X.A (.compStart (.DictComp kx vx [⟨tg,iter,a9,0⟩] scope pos) 0 (.ref it) acc {aF with scope:=relabel scope X.env}) (RR acc aF.locals) s₄) E s₃) E s:=by
 have hD:H s.heap.objs.size=none:=I.fresh;have I3:Inv X pins σ (upd H s.heap.objs.size (.dK [])) {s with heap:=s.heap.push {cls:=.type "dict",data:=.dict #[]},toks:=s.toks}:=I.laid (t':=s.toks) (λ_ _ q=>JI _ q) (JN _) (M7 s.heap I.big);show MD ?_;have f3:∀b∈fp,Ff X pins (upd H s.heap.objs.size (.dK [])) b:=λb O=>by
   show Am (T.obj _ _ st b O) λo e _=>?_;show⟨by rw[Ak (JP (JL e))];show(f b O).1,(f b O).2⟩
 generalize aS:({s with heap:=s.heap.push {cls:=.type "dict",data:=.dict #[]},toks:=s.toks}:Shared)=G at I3;have aP:s.heap.push {cls:=.type "dict",data:=.dict #[]}=G.heap:=by rw[← aS]
 have k3:∀b o,s.heap.get? b=some o->G.heap.get? b=some o:=λb o e=>by rw[← aP];show JI _ e
 have fo:∀b∈fp,b<G.heap.objs.size:=λb O=>by
   show Am (T.obj _ _ st b O) λo e _=>JL (k3 b o e)
 show OD c.DF (by intro y hy;simp at hy) (λh₁ ac ae=>?_) c.kind;have k4:∀b o,G.heap.get? b=some o->h₁.get? b=some o:=λb o e=>ae.extBut b o (JP (JL e)) (JI _ e);have I4:=M1 (h₁:=h₁) (tk:=G.toks+([]:List (Str×Value)).length) c I3 f3 fo ⟨_,ac⟩ k4;have aB:tn 0 h₁:=T.keep _ _ _ st λb _ o e=>k4 b o (k3 b o e);have a4:∀{H':Hp},(∀b∈fp,H' b=none)->∀b∈fp,Ff (AY X N' scope cl G (upd H s.heap.objs.size (.dK [])) fp) [] H' b:=λhn b O=>
   (Qk (hn b O) (JP (fo b O)) (I4.ok.GB b O) (.inl O) (λx a h=>(f b O).2.2.2.2.1 x a (c.sub x a h)) λp hp=>absurd (show p∈([]:List (Addr×Obj))from hp) (by simp))
 show N0 (aQ G (upd H s.heap.objs.size (.dK [])) fp) λhg aU aN aO=>?_;have tr:=af _ hD;have aG:codeAny (model X.prog X.w) X.A (.compLoop (.DictComp kx vx [⟨tg,iter,a9,0⟩] scope pos) 0 (.ref it) (.ref s.heap.objs.size) (compEnvC scope cl G.heap.objs.size X.env))
     (RR (.ref s.heap.objs.size) G.heap.objs.size) {G with heap:=h₁,toks:=G.toks+([]:List (Str×Value)).length}:=by
   obtain⟨m0,w0⟩:=w0 _ hD;show N3 (λm s'=>∃i σ' H',Inv (AY X N' scope cl G (upd H s.heap.objs.size (.dK [])) fp) [] σ' H' s'/\tn i s'.heap/\(∀b∈fp,H' b=none)/\W s.heap.objs.size i m σ' H') ?_ m0 (Cr 0 _ _ I4 aB (λb O=>(f3 b O).1) w0);rintro m s5 ⟨i,σ5,Y,I5,aC,a8,w5⟩;rcases tr i m σ5 Y w5 with⟨stop,qF⟩|⟨go,Ay,An,aM,aL,step⟩
   . show AE (T.done (AY X N' scope cl G (upd H s.heap.objs.size (.dK [])) fp) rfl rfl rfl hc i [] s5 σ5 Y (λ_ _=>False) I5 (a4 a8) aC stop) λr s6 ⟨hr,I6⟩=>?_;subst hr;show Am I6.loc λm6 aR _=>hR _ G _ Y s6 I3 (Nb I3 f3 I6) ⟨m6,aR⟩ I6.free qF
   . show AE (T.item (AY X N' scope cl G (upd H s.heap.objs.size (.dK [])) fp) rfl rfl rfl hc i [] s5 σ5 Y (λ_ _=>False) I5 (a4 a8) aC go) λr s6 ⟨u,hr,h6⟩=>?_;subst hr;show AE h6 λ_ s7 ⟨x,H7,I7,r7,y7,a2,aK⟩=>?_;have aJ:=I7.pinned (a4 aK) (T.obj _ _ a2);show AE (hg _ s7 σ5 H7 x u _ aJ r7 (step x H7 y7)) λ_ s8 ⟨σ8,H8,I8,q8⟩=>AE (aU _ s8 σ8 H8 _ I8 q8) λok s9 ⟨H9,I9,q9⟩=>?_;have aD:∀{H':Hp} {s':Shared},Inv (AY X N' scope cl G (upd H s.heap.objs.size (.dK [])) fp) ([]++G8 fp s7.heap) σ8 H' s'->(∃U,U<m/\W s.heap.objs.size (i+1) U σ8 H') ->
         ∃U,U<m/\∃i σ' H',Inv (AY X N' scope cl G (upd H s.heap.objs.size (.dK [])) fp) [] σ' H' s'/\tn i s'.heap/\(∀b∈fp,H' b=none)/\W s.heap.objs.size i U σ' H':=fun {H' s'} J' w'=>by
       obtain⟨U,hm,w'⟩:=w';show⟨U,hm,i+1,σ8,H',J'.BD,T.keep _ _ _ a2 λb O o e=>(J'.pin (b,o) (JQ _ (JQ _ (Ch O e)))).1,λb O=>(Am (T.obj _ _ a2 b O) λo e d=>((J'.pin (b,o) (JQ _ (JQ _ (Ch O e)))).2.1)),w'⟩
     cases ok with
     | false=>
       rw[JW (by decide)]at q9 ⊢;show aD I9 (aL _ _ q9)
     | true=>
       rw[KE rfl]at q9 ⊢;show AE (aN _ s9 σ8 H9 _ I9 q9) λyv aa ⟨y,aH,aI,aY,aW⟩=>AE (aO _ aa σ8 aH _ aI aW) λvv ah ⟨v,ag,a5,aZ,qA⟩=>?_;show Fw (aM _ _ _ _ qA) λkvs a1 z1 a7 ai aX=>?_;subst z1;show B9 (U7 a5.AJ a7) λz hd z1=>Am z1 λvs aA dd=>?_;have hz:vs.length<=sizeLine:=by rw[← aA.length];show z
       have hl:(Ci kvs a1 v).length<=sizeLine:=by have:=Bo kvs a1 v;omega
       show wpAny_dictSet_pairs (hsz:=hz) (K8 aY) dd λh' a6 hs=>aD ?_ aX;have he:∃q,h'.get? s.heap.objs.size=some q:=let ⟨q,_,_,hq,_⟩:=a6;⟨q,hq⟩
       show Lw a5 (by rw[a7];show True.intro) hs he (M6 hl hd (aA.put a1 aZ) a6)
 show codeAny_compStart_dict aG (T.self _ 0 _ _ _ aB aG)
def Yh
   (c:AS X scope cl N' n js)(hc:X.calm=true)(hi:PI X tg iter wi)
   (a4:∀s3 G fp,PG (AY X N' scope cl s3 G fp) tg g/\IX (AY X N' scope cl s3 G fp) a6 tt/\PE (AY X N' scope cl s3 G fp) kx tk/\PE (AY X N' scope cl s3 G fp) vx tv)
   (hs:Kn X iter:=by intro _;rfl):PE X (.DictComp kx vx [⟨tg,iter,a6,0⟩] scope pos) (Pf (Er n js) wi g tt tk tv):=by
 intro pins s σ H Q I h;rw[arm_eval_DictComp];show MG (use:=none) rfl hs c.CG c.kind c.names (AE (hi pins s σ H _ I h) λv s1 h1=>AE h1 λa9 s2 h2=>?_);obtain⟨it,fp,tn,J,H2,e,I2,T,a7,f2,h2⟩:=h2;subst e;have a2:∃W:Addr->Nat->Nat->St->Hp->Prop,(∀D,H2 D=none->∃m,W D 0 m (Er n js σ) (upd H2 D (.dK [])))/\∀D,H2 D=none->∀i m σ' H',W D i m σ' H' ->
     (J.stop i H'/\Q (.ref D) H')\/(J.go i H'/\∃(Ay:V->V->St->Hp->Prop) (An:St->Hp->Prop),(∀y v σ3 Y,Ay y v σ3 Y->∃kvs a1,y=kV a1/\Y D=some (.dK kvs)/\kvs.length<sizeLine/\∃m',m'<m/\W D (i+1) m' σ3 (upd Y D (.dK (Ci kvs a1 v))))/\(∀σ3 U,An σ3 U->∃m',m'<m/\W D (i+1) m' σ3 U) /\
       ∀x H2,J.DH i H' x H2->g x σ' H2 λσ3 G=>tt σ3 G λok U=>if ok=true then tk σ3 U (λy Y=>tv σ3 Y λv H6=>Ay y v σ3 H6)else An σ3 U):=by
   show⟨λD=>if O:H2 D=none then(h2 D O).choose else λ_ _ _ _=>False,λD O=>?_,λD O=>?_⟩
   . simp only[O,NN];show(h2 D O).choose_spec.1
   . simp only[O,NN];show(h2 D O).choose_spec.2
 show Am a2 λW w0 a8=>O9 (RR:=λacc C=>compPost (model X.prog X.w) X.A X.xe none (EP X pins σ Q) acc C) (Fi:=λD H'=>Q (.ref D) H') (W:=W) c hc a4 I2 T a7 f2 w0 a8 ?_;intro D s3 G H' s' I3 I' ⟨m,hn⟩ hC q;show Aq m hn λh' a5=>(Aw (.ref D) H' (Fz I3 I' hC a5) rfl q)
def Ig
  (c:AS X scope cl N' n js)(hc:X.calm=true)(hi:QI X tg iter wi)
  (U:∀O G fp,QG (AY X N' scope cl O G fp) tg g/\QTS (AY X N' scope cl O G fp) a1 tt/\QE (AY X N' scope cl O G fp) Y tk/\QE (AY X N' scope cl O G fp) vx tv)
  (hs:Kn X iter:=by intro _;rfl):QE X (.DictComp Y vx [⟨tg,iter,a1,0⟩] scope pos) (Pf (Er n js) wi g tt tk tv):=
 ⟨Yh c hc hi.go (λO G fp=>(C9 ((U O G fp).1.go) ((U O G fp).2.1.go) ((U O G fp).2.2.1.go) ((U O G fp).2.2.2.go))) hs⟩
def X8
   (hN:X.N.Nodup)(a6:X.N[i0]?=some y)(hx:X.env.scope.names.lookup y=some .local)
   (aA:swapsWith (.DictComp kx vx [⟨tg,iter,a1,0⟩] scope pos) (some (.Name y py)) aD.line X.env=pure true)
   (c:AS X scope cl N' n js)(hc:X.calm=true)(hi:PI X tg iter wi)
   (a7:∀U G fp,PG (AY X N' scope cl U G fp) tg g/\IX (AY X N' scope cl U G fp) a1 tt/\PE (AY X N' scope cl U G fp) kx tk/\PE (AY X N' scope cl U G fp) vx tv)
   (hs:Kn X iter:=by intro _;rfl):PS X (.Assign [.Name y py] (.DictComp kx vx [⟨tg,iter,a1,0⟩] scope pos) aD) (Nh (Pf (Er n js) wi g tt tk tv) (He i0)):=by
 intro pins s σ H D0 I h;rw[exec_Assign_Name_used _ _ _ _ aA];show JH (LS (JH ?_))
 show wpAny _ X.A (do let _ ← comprehension (.DictComp kx vx [⟨tg,iter,a1,0⟩] scope pos) scope X.env _ newDict false (eval iter X.env) (some (assign (.Name y py) X.env))) _ _ s
 show JH (AE (MG (use:=some (assign (.Name y py) X.env)) (Q:=λ_ s'=>SP X pins D0 .next s') rfl hs c.CG c.kind c.names (AE (hi pins s σ H _ I h) λv s1 h1=>AE h1 λaG s2 h2=>?_))
   λ_ s' hq=>JK (JK hq))
 obtain⟨it,fp,tn,J,H2,e,I2,T,aB,f2,h2⟩:=h2;subst e;have a5:∃W:Addr->Nat->Nat->St->Hp->Prop,(∀D,H2 D=none->∃m,W D 0 m (Er n js σ) (upd H2 D (.dK [])))/\∀D,H2 D=none->∀i m σ' H',W D i m σ' H' ->
     (J.stop i H'/\D0.nx (σ.set i0 (some (.ref D))) H')\/(J.go i H'/\∃(Ay:V->V->St->Hp->Prop) (An:St->Hp->Prop),(∀y v σ3 H5,Ay y v σ3 H5->∃kvs a2,y=kV a2/\H5 D=some (.dK kvs)/\kvs.length<sizeLine/\∃m',m'<m/\W D (i+1) m' σ3 (upd H5 D (.dK (Ci kvs a2 v))))/\(∀σ3 Y,An σ3 Y->∃m',m'<m/\W D (i+1) m' σ3 Y) /\
       ∀x H2,J.DH i H' x H2->g x σ' H2 λσ3 G=>tt σ3 G λok Y=>if ok=true then tk σ3 Y (λy H5=>tv σ3 H5 λv H6=>Ay y v σ3 H6)else An σ3 Y):=by
   show⟨λD=>if O:H2 D=none then(h2 D O).choose else λ_ _ _ _=>False,λD O=>?_,λD O=>?_⟩
   . simp only[O,NN];show(h2 D O).choose_spec.1
   . simp only[O,NN];show(h2 D O).choose_spec.2
 show Am a5 λW w0 aF=>O9 (RR:=λacc C=>compPost (model X.prog X.w) X.A X.xe (some (assign (.Name y py) X.env)) (λ_ s'=>SP X pins D0 .next s') acc C) (Fi:=λD H'=>D0.nx (σ.set i0 (some (.ref D))) H') (W:=W) c hc a7 I2 T aB f2 w0 aF ?_;intro D U G H' s' I3 I' ⟨m,hn⟩ hC q
 show wpAny _ _ (assign (.Name y py) X.env (.ref D)) _ _ s'
 show wpAny_assign_Name (Iq (v:=.ref D) I' hN a6 (.inl hx) rfl (λaH a4 ⟨a,aC,ha⟩=>?_) (.inr hx));have a8:U.heap.objs.size≠a:=by
   rcases ha with z|z
   . rw[z];show KS I3.lt
   . intro q;obtain⟨v,w⟩:=I3.cell y a z;show absurd w.lt (by rw[← q];show LJ _)
 show Aq m (hn.sameBut aC a8) λh' a9=>(Ce _ H' (Fz I3 a4 hC a9) q)
def J0
  (hN:X.N.Nodup)(a2:X.N[i0]?=some y)(hx:X.env.scope.names.lookup y=some .local)
  (a4:swapsWith (.DictComp Y vx [⟨tg,iter,a1,0⟩] scope pos) (some (.Name y py)) a5.line X.env=pure true)
  (c:AS X scope cl N' n js)(hc:X.calm=true)(hi:QI X tg iter wi)
  (U:∀O G fp,QG (AY X N' scope cl O G fp) tg g/\QTS (AY X N' scope cl O G fp) a1 tt/\QE (AY X N' scope cl O G fp) Y tk/\QE (AY X N' scope cl O G fp) vx tv)
  (hs:Kn X iter:=by intro _;rfl):QS X (.Assign [.Name y py] (.DictComp Y vx [⟨tg,iter,a1,0⟩] scope pos) a5) (Nh (Pf (Er n js) wi g tt tk tv) (He i0)):=
 ⟨X8 hN a2 hx a4 c hc hi.go (λO G fp=>(C9 ((U O G fp).1.go) ((U O G fp).2.1.go) ((U O G fp).2.2.1.go) ((U O G fp).2.2.2.go))) hs⟩
end
def Jt {K:A3}{a D:Addr}{xs:List V}{g:TG}{tt:TT}{tk tv:TE}{σ0:St}{H1:Hp}{Q:Hp->Prop}(Pv:Nat->List (Key×V)->St->Hp->Prop)(hx:xs.length<=sizeLine)(h0:Pv 0 [] σ0 (upd H1 D (.dK [])))
   (hl:∀i ys σ H,i<=xs.length->Pv i ys σ H->AK K H a xs/\H D=some (.dK ys)/\ys.length<=i)
   (hs:∀i x ys σ H,xs[i]?=some x->Pv i ys σ H->g x σ H λσ3 H3=>tt σ3 H3 λok O=>if ok=true then tk σ3 O (λy U=>tv σ3 U λv H6=>∃G,y=kV G/\H6 D=some (.dK ys)/\Pv (i+1) (Ci ys G v) σ3 (upd H6 D (.dK (Ci ys G v))))else Pv (i+1) ys σ3 O)
   (hd:∀ys σ H,Pv xs.length ys σ H->Q H) :
   ∃W:Nat->Nat->St->Hp->Prop,(∃m,W 0 m σ0 (upd H1 D (.dK [])))/\∀i m σ' H',W i m σ' H' ->
     ((HH K a).stop i H'/\Q H')\/((HH K a).go i H'/\∃(Ay:V->V->St->Hp->Prop) (An:St->Hp->Prop),(∀y v σ3 U,Ay y v σ3 U->∃kvs G,y=kV G/\U D=some (.dK kvs)/\kvs.length<sizeLine/\∃Y,Y<m/\W (i+1) Y σ3 (upd U D (.dK (Ci kvs G v)))) /\
       (∀σ3 O,An σ3 O->∃Y,Y<m/\W (i+1) Y σ3 O) /\
       ∀x H2,(HH K a).DH i H' x H2->g x σ' H2 λσ3 H3=>tt σ3 H3 λok O=>if ok=true then tk σ3 O (λy U=>tv σ3 U λv H6=>Ay y v σ3 H6)else An σ3 O):=by
 show Aq (λi m σ H=>m=xs.length-i/\i<=xs.length/\∃ys,Pv i ys σ H) (Bc xs.length (by simp) (LD _) ⟨[],h0⟩) ?_;rintro i m σ H ⟨rfl,hi,ys,p⟩;show B9 (hl i ys σ H hi p) λq hy a2=>?_;by_cases a1:i<xs.length
 . show .inr ⟨(Ce xs (xs[i]) q (by simp[a1])),(Aw (λy v σ3 U=>∃G,y=kV G/\U D=some (.dK ys)/\Pv (i+1) (Ci ys G v) σ3 (upd U D (.dK (Ci ys G v)))) (λσ3 O=>Pv (i+1) ys σ3 O)
     (λy v σ3 U ⟨G,ek,e,p'⟩=>(Br ys G ek e (by omega) (Ep (xs.length-(i+1)) (by omega) rfl a1 ⟨_,p'⟩))) (λσ3 O p'=>(Ep (xs.length-(i+1)) (by omega) rfl a1 ⟨_,p'⟩)) λx H' y=>?_)⟩
   obtain⟨e,y⟩:=y;subst e;show hs i x ys σ H' (y xs q) p
 . have:i=xs.length:=by omega
   subst this;show .inl ⟨(Aq xs q (JN _)),hd ys σ H p⟩
def Ga {K:A3}{a D:Addr}{xs:List V}{g:TG}{tt:TT}{tk tv:TE}{σ0:St}{H1:Hp}{Q:Hp->Prop}(Pv:Nat->List (Key×V)->St->Hp->Prop)(hx:xs.length<=sizeLine)(h0:Pv 0 [] σ0 (upd H1 D (.dK [])))
   (hl:∀i ys σ H,i<=xs.length->Pv i ys σ H->AC K H a xs/\H D=some (.dK ys)/\ys.length<=i)
   (hs:∀i x ys σ H,xs[i]?=some x->Pv i ys σ H->g x σ H λσ3 H3=>tt σ3 H3 λok O=>if ok=true then tk σ3 O (λy U=>tv σ3 U λv H6=>∃G,y=kV G/\H6 D=some (.dK ys)/\Pv (i+1) (Ci ys G v) σ3 (upd H6 D (.dK (Ci ys G v))))else Pv (i+1) ys σ3 O)
   (hd:∀ys σ H,Pv xs.length ys σ H->Q H) :
   ∃W:Nat->Nat->St->Hp->Prop,(∃m,W 0 m σ0 (upd H1 D (.dK [])))/\∀i m σ' H',W i m σ' H' ->
     ((HK K a).stop i H'/\Q H')\/((HK K a).go i H'/\∃(Ay:V->V->St->Hp->Prop) (An:St->Hp->Prop),(∀y v σ3 U,Ay y v σ3 U->∃kvs G,y=kV G/\U D=some (.dK kvs)/\kvs.length<sizeLine/\∃Y,Y<m/\W (i+1) Y σ3 (upd U D (.dK (Ci kvs G v)))) /\
       (∀σ3 O,An σ3 O->∃Y,Y<m/\W (i+1) Y σ3 O) /\
       ∀x H2,(HK K a).DH i H' x H2->g x σ' H2 λσ3 H3=>tt σ3 H3 λok O=>if ok=true then tk σ3 O (λy U=>tv σ3 U λv H6=>Ay y v σ3 H6)else An σ3 O):=by
 show Aq (λi m σ H=>m=xs.length-i/\i<=xs.length/\∃ys,Pv i ys σ H) (Bc xs.length (by simp) (LD _) ⟨[],h0⟩) ?_;rintro i m σ H ⟨rfl,hi,ys,p⟩;show B9 (hl i ys σ H hi p) λq hy a2=>?_;by_cases a1:i<xs.length
 . show .inr ⟨(Ce xs (xs[i]) q (by simp[a1])),(Aw (λy v σ3 U=>∃G,y=kV G/\U D=some (.dK ys)/\Pv (i+1) (Ci ys G v) σ3 (upd U D (.dK (Ci ys G v)))) (λσ3 O=>Pv (i+1) ys σ3 O)
     (λy v σ3 U ⟨G,ek,e,p'⟩=>(Br ys G ek e (by omega) (Ep (xs.length-(i+1)) (by omega) rfl a1 ⟨_,p'⟩))) (λσ3 O p'=>(Ep (xs.length-(i+1)) (by omega) rfl a1 ⟨_,p'⟩)) λx H' y=>?_)⟩
   obtain⟨e,y⟩:=y;subst e;show hs i x ys σ H' (y xs q) p
 . have:i=xs.length:=by omega
   subst this;show .inl ⟨(Aq xs q (JN _)),hd ys σ H p⟩
def SI (b:Bool)(h:Heap)(it l:Addr)(i:Nat):Prop:=if b=true then h.IsListIter it l i else h.IsTupleIter it l i
def SQ (b:Bool)(h:Heap)(l:Addr)(xs:Array Value):Prop:=if b=true then h.IsList l xs else h.IsTuple l xs
def SI.at (x:SI b h it l i)(e:∀o,h.get? it=some o->h'.get? it=some o):SI b h' it l i:=by
 cases b
 .show Heap.IsTupleIter.at (show h.IsTupleIter it l i from x) e
 .show Heap.IsListIter.at (show h.IsListIter it l i from x) e
def SQ.at (x:SQ b h l xs)(e:∀o,h.get? l=some o->h'.get? l=some o):SQ b h' l xs:=by
 cases b
 .show Heap.IsTuple.at (show h.IsTuple l xs from x) e
 .show Heap.IsList.at (show h.IsList l xs from x) e
def SI.obj (x:SI b h it l i):∃o,h.get? it=some o/\∀v,o.data≠.cell v:=by
 cases b
 .show Bp ((show h.IsTupleIter it l i from x)) λo e _ d=>?_;show Aq o e λv z=>by rw[d]at z;cases z
 .show Bp ((show h.IsListIter it l i from x)) λo e _ d=>?_;show Aq o e λv z=>by rw[d]at z;cases z
section
variable {E:Bf}
def Lf {Q:Bf}(u:s.heap.IsTupleIter it l i)(q:s.heap.IsTuple l xs)(z:xs[i]?=some x)
  (k:∀h',h'.IsTupleIter it l (i+1)->Heap.SameBut it s.heap h'->Q x {s with heap:=h'}):wpAny (model prog w) A (Builtin.SmallTypes.nextOf (.ref it)) Q E s:=by
 show Bp (id u) λo e c d=>?_;show Bp q λU O _ z1=>?_;obtain⟨n2,G⟩:=z1
 delta Builtin.SmallTypes.nextOf
 show JH (LI (name:=Str.ofString "__next__") u.typeIs MM (MJ MM u.typeIs PySem.F.entry_tuple_iterator_next ?_ (PySem.F.args_tuple_iterator_next_1 _)))
 show wpAny _ _ (field (.ref it) 0 >>= λ_=>_) _ _ s
 show JH (KR e d (x:=.ref l) rfl ?_)
 show wpAny _ _ (if(Value.ref l==Value.none)=true then _ else(field (.ref it) 1 >>= λ_=>_)) _ _ s
 rw[JW (show ¬((Value.ref l==Value.none)=true)from λz=>JX z)];show JH (KR e d (x:=.int i 0) rfl ?_)
 show wpAny _ _ (seqItems? (.ref l) >>= λ_=>_) _ _ s
 show JH (LY O G ?_);simp only[z,Int.toNat_natCast];show JH (OO e d (by simp) (JK (Aq x rfl (JK (k _ (A8 (LV _ e (MP (MT d _))) ((Obj.cls_mapFields ..).trans c) ?_) (Heap.SameBut.update ..))))));rw[MT d];simp[rawInt]
def Mv {Q:Bf}(U:A.handled=none)(u:s.heap.IsTupleIter it l i)(q:s.heap.IsTuple l xs)(z:xs[i]?=none)
  (k:∀h' e,Heap.ExtBut it s.heap h'->(∃o,h'.get? e=some o/\o.cls=.type "StopIteration")->E (.ref e) {s with heap:=h'}):wpAny (model prog w) A (Builtin.SmallTypes.nextOf (.ref it)) Q E s:=by
 show Bp (id u) λo e c d=>?_;show Bp q λY O _ z1=>?_;obtain⟨n2,G⟩:=z1
 delta Builtin.SmallTypes.nextOf
 show JH (LI (name:=Str.ofString "__next__") u.typeIs MM (MJ MM u.typeIs PySem.F.entry_tuple_iterator_next ?_ (PySem.F.args_tuple_iterator_next_1 _)))
 show wpAny _ _ (field (.ref it) 0 >>= λ_=>_) _ _ s
 show JH (KR e d (x:=.ref l) rfl ?_)
 show wpAny _ _ (if(Value.ref l==Value.none)=true then _ else(field (.ref it) 1 >>= λ_=>_)) _ _ s
 rw[JW (show ¬((Value.ref l==Value.none)=true)from λz=>JX z)];show JH (KR e d (x:=.int i 0) rfl ?_)
 show wpAny _ _ (seqItems? (.ref l) >>= λ_=>_) _ _ s
 show JH (LY O G ?_);simp only[z,Int.toNat_natCast];show JH (NU (JH (OO e d (by simp) ?_)))
 show wpAny _ _ (newExc (.type "StopIteration") [] >>= λ_=>_) _ _ _
 show JH ?_;simp only[newTuple,newExc];show JH (MD (JH (m:=firstArgMember _ _) (wpAny_of_eq (a:=Value.none) (by first|rfl|(simp only[firstArgMember];rfl)) (MD ?_ (by size_fits)))) (by size_fits));simp only[raiseNew];show JH (wpAny_handled ?_);rw[show A.in1.handled=none from U];show JH (JK (wpAny_throw (k _ _ (((Heap.SameBut.update ..).extBut.push _).push _) (Ac (JO _ rfl) rfl))))
def Dz {Q:Bf}(u:SI b s.heap it l i)(q:SQ b s.heap l xs)(z:xs[i]?=some x)
  (k:∀h',SI b h' it l (i+1)->Heap.SameBut it s.heap h'->Q x {s with heap:=h'}):wpAny (model prog w) A (Builtin.SmallTypes.nextOf (.ref it)) Q E s:=by
 cases b
 .show Lf u q z k
 .show wpAny_nextOf_list_item u q z k
def Gn {Q:Bf}(G:A.handled=none)(u:SI b s.heap it l i)(q:SQ b s.heap l xs)(z:xs[i]?=none)
  (k:∀h' e,Heap.ExtBut it s.heap h'->(∃o,h'.get? e=some o/\o.cls=.type "StopIteration")->E (.ref e) {s with heap:=h'}):wpAny (model prog w) A (Builtin.SmallTypes.nextOf (.ref it)) Q E s:=by
 cases b
 .show Mv G u q z k
 .show wpAny_nextOf_list_end G u q z k
def Wh {b:Bool}{e it l:Addr}{i:Nat}{xs:Array Value}{x a1:Value}{Q:Option Value->Shared->Prop}(he:IsEnum s.heap e it i a1)(u:SI b s.heap it l i)(q:SQ b s.heap l xs)(z:xs[i]?=some x)(ne:e≠it)
   (k:∀h',IsEnumOut h' e it ((i:Int)+1) x s.heap.objs.size->SI b h' it l (i+1)->h'.get? s.heap.objs.size=some {cls:=.type "tuple",data:=.seq #[.int i s.toks,x]}->h'.objs.size=s.heap.objs.size+1 ->
     (∀c o,c≠e->c≠it->s.heap.get? c=some o->h'.get? c=some o)->Q (some (.ref s.heap.objs.size)) {s with heap:=h',toks:=s.toks+1}):wpAny (model prog w) A (pyNext (.ref e)) Q E s:=by
 have ty:s.TypeIs (.ref e) "enumerate":=(Ac he rfl);unfold pyNext;show JH (NX (LI (name:=Str.ofString "__next__") ty NZ (MJ NZ ty F.entry_enumerate_next ?_ (F.args_enumerate_next_1 _))));obtain⟨O,g,d,tk,os⟩:=s
 show wpAny _ _ (field (.ref e) 2 >>= λ_=>_) _ _ _
 show JH (KR he rfl (x:=.ref it) rfl (JH (Dz u q z λh1 u1 s1=>?_)));replace s1:Heap.SameBut it O h1:=s1;have e1:IsEnum h1 e it i a1:=(s1.2 e ne).trans he
 show wpAny _ _ (field (.ref e) 3 >>= λ_=>_) _ _ ⟨h1,g,d,tk,os⟩
 show JH (KR e1 rfl (x:=rawInt i) rfl ?_)
 show wpAny _ _ (field (.ref e) 4 >>= λ_=>_) _ _ ⟨h1,g,d,tk,os⟩
 show JH (KR e1 rfl (x:=.none) rfl ?_)
 show wpAny _ _ (mkInt i >>= λ_=>_) _ _ ⟨h1,g,d,tk,os⟩
 show JH (wpAny_mkInt (?_))
 show wpAny _ _ (setField (.ref e) 3 (rawInt ((i:Int)+1)) >>= λ_=>_) _ _ ⟨h1,g,d,tk+1,os⟩
 show JH (LM e1 (by simp) λh2 e2 s2=>?_);replace s2:Heap.SameBut e h1 h2:=s2;replace e2:IsEnum h2 e it ((i:Int)+1) a1:=e2
 show wpAny _ _ (setField (.ref e) 4 .none >>= λ_=>_) _ _ ⟨h2,g,d,tk+1,os⟩
 show JH (LM e2 (by simp) λY e3 s3=>?_);replace s3:Heap.SameBut e h2 Y:=s3;replace e3:IsEnum Y e it ((i:Int)+1) a1:=e3
 show wpAny _ _ (newTuple [.int i tk,x] >>= λ_=>_) _ _ ⟨Y,g,d,tk+1,os⟩
 show JH (wpAny_newTuple (?_));have e4:IsEnum (Y.push {cls:=.type "tuple",data:=.seq #[.int i tk,x]}) e it ((i:Int)+1) a1:=JI _ e3;generalize p4:Y.push {cls:=.type "tuple",data:=.seq #[.int i tk,x]}=U at e4;have sz:Y.objs.size=O.objs.size:=by rw[s3.1,s2.1,s1.1]
 have le:e<O.objs.size:=JL he;have t4:U.get? O.objs.size=some {cls:=.type "tuple",data:=.seq #[.int i tk,x]}:=by rw[← p4,← sz];show JO _ rfl
 have z4:U.objs.size=O.objs.size+1:=by rw[← p4,KZ,sz]
 have k4:∀c o,c≠e->c≠it->O.get? c=some o->U.get? c=some o:=λc o G c2 y=>by
   rw[← p4];show JI _ (s3.extBut c o G (s2.extBut c o G (s1.extBut c o c2 y)))
 have u4:SI b U it l (i+1):=u1.at λo y=>by
   rw[← p4];show JI _ (s3.extBut _ _ (ML ne) (s2.extBut _ _ (ML ne) y))
 show wpAny _ _ (Builtin.SmallTypes.ownedTupleIsFree (.ref e) >>= λ_=>_) _ _ ⟨U,g,d,tk+1,os⟩
 rw[sz];show JH ?_
 delta Builtin.SmallTypes.ownedTupleIsFree
 show JH (KR e4 rfl (x:=.none) rfl (JK ?_));simp only[if_true];show JH (NU (JH (KR e4 rfl (x:=a1) rfl (JH (LM e4 (by simp) λh5 e5 s5=>?_)))));replace s5:Heap.SameBut e U h5:=s5;replace e5:IsEnum h5 e it ((i:Int)+1) x:=e5
 show wpAny _ _ (Builtin.SmallTypes.ownedTupleHandOut (.ref e) (.ref O.objs.size) >>= λ_=>_) _ _ ⟨h5,g,d,tk+1,os⟩
 show JH ?_
 delta Builtin.SmallTypes.ownedTupleHandOut
 show JH (LM e5 (by simp) λh6 e6 s6=>?_);replace s6:Heap.SameBut e h5 h6:=s6;replace e6:IsEnumOut h6 e it ((i:Int)+1) x O.objs.size:=e6;show LM e6 (by simp) λh7 e7 s7=>?_;replace s7:Heap.SameBut e h6 h7:=s7;replace e7:IsEnumOut h7 e it ((i:Int)+1) x O.objs.size:=e7;have up:∀c o,c≠e->U.get? c=some o->h7.get? c=some o:=λc o G y=>s7.extBut c o G (s6.extBut c o G (s5.extBut c o G y));show JH (wpAny_letGo (JK (Ac rfl (JK (k h7 e7 (u4.at λo y=>up _ _ (ML ne) y) (up _ _ (KS le) t4) (by rw[s7.1,s6.1,s5.1,z4]) λc o G c2 y=>up c o G (k4 c o G c2 y))))))
def Za {b:Bool}{e it l:Addr}{i:Nat}{xs:Array Value}{a1:Value}{Q:Option Value->Shared->Prop}(O:A.handled=none)(G:IsEnum s.heap e it i a1)(u:SI b s.heap it l i)(q:SQ b s.heap l xs)(z:xs[i]?=none)
  (k:∀h',Heap.ExtBut it s.heap h'->Q none {s with heap:=h'}):wpAny (model prog w) A (pyNext (.ref e)) Q E s:=by
 have ty:s.TypeIs (.ref e) "enumerate":=(Ac G rfl);unfold pyNext;show JH (NX (LI (name:=Str.ofString "__next__") ty NZ (MJ NZ ty F.entry_enumerate_next ?_ (F.args_enumerate_next_1 _))))
 show wpAny _ _ (field (.ref e) 2 >>= λ_=>_) _ _ _
 show JH (KR G rfl (x:=.ref it) rfl (JH (Gn O u q z λh' x U ⟨o,Y,y3⟩=>JH (NP (T:="StopIteration") (b:=true) (Aq o Y y3) OP (JK (k _ U))))))
end
def My (l:Addr)(xs:Array Value)(o:Obj) :
  Meets (Builtin.«enumerate.__new__» ⟨[.type "enumerate",.ref l],[]⟩) (λ_ R s=>s.heap.get? l=some o/\s.heap.IsTuple l xs /\
   R (.ok (.ret (.ref (s.heap.push {cls:=.type "tuple_iterator",data:=.fields #[.ref l,.int 0 0]}).objs.size)))
    {s with heap:=(s.heap.push {cls:=.type "tuple_iterator",data:=.fields #[.ref l,.int 0 0]}).push {cls:=.type "enumerate",data:=.fields #[.none,.bool false,.ref s.heap.objs.size,rawInt 0,.none,.none]}}):=
 .of_wp λprog w A R s h=>by
  obtain⟨O,g,d,tk,os⟩:=s;obtain⟨hl,q,h⟩:=h;have sub:=sub_enumerate;have G:Heap.IsTuple (Shared.heap ⟨O,g,d,tk,os⟩) l xs:=q
  wp_walk using LF hl
  show wpAny_stack_any λst=>JK ?_;split
  .rename_i c _ _ _ _ _;cases(c==Value.type "enumerate")
   .wp_walk using LF hl,LU G
    show⟨_,rfl,h⟩
   .wp_walk using LF hl,LU G
    show Ac rfl h
  .wp_walk using LF hl,LU G
   show Ac rfl h
def Lh (l:Addr)(xs:Array Value)(o:Obj) :
  Meets (Builtin.«enumerate.__new__» ⟨[.type "enumerate",.ref l],[]⟩) (λ_ R s=>s.heap.get? l=some o/\s.heap.IsList l xs /\
   R (.ok (.ret (.ref (s.heap.push {cls:=.type "list_iterator",data:=.fields #[.ref l,.int 0 0]}).objs.size)))
    {s with heap:=(s.heap.push {cls:=.type "list_iterator",data:=.fields #[.ref l,.int 0 0]}).push {cls:=.type "enumerate",data:=.fields #[.none,.bool false,.ref s.heap.objs.size,rawInt 0,.none,.none]}}):=
 .of_wp λprog w A R s h=>by
  obtain⟨O,g,d,tk,os⟩:=s;obtain⟨hl,q,h⟩:=h;have sub:=sub_enumerate;have G:Heap.IsList (Shared.heap ⟨O,g,d,tk,os⟩) l xs:=q
  wp_walk using LF hl
  show wpAny_stack_any λst=>JK ?_;split
  .rename_i c _ _ _ _ _;cases(c==Value.type "enumerate")
   .wp_walk using LF hl,LW G
    show⟨_,rfl,h⟩
   .wp_walk using LF hl,LW G
    show Ac rfl h
  .wp_walk using LF hl,LW G
   show Ac rfl h
section
variable {E:Bf}
def Wr {Q:Bf}(q:SQ b s.heap l xs)
  (k:∀h',IsEnum h' (s.heap.objs.size+1) s.heap.objs.size 0 .none->SI b h' s.heap.objs.size l 0->h'.objs.size=s.heap.objs.size+2->(∀c o,s.heap.get? c=some o->h'.get? c=some o)->Q (.ref (s.heap.objs.size+1)) {s with heap:=h'}) :
  wpAny (model prog w) A (call (.type "enumerate") [.ref l]) Q E s:=by
 have O:∀(n:String) (h1:Heap),h1=s.heap.push {cls:=.type n,data:=.fields #[.ref l,.int 0 0]}->SI b h1 s.heap.objs.size l 0 ->
   (∃o',(h1.push {cls:=.type "enumerate",data:=.fields #[.none,.bool false,.ref s.heap.objs.size,rawInt 0,.none,.none]}).get? h1.objs.size=some o'/\o'.cls=.type "enumerate") /\
   Q (.ref h1.objs.size) {s with heap:=h1.push {cls:=.type "enumerate",data:=.fields #[.none,.bool false,.ref s.heap.objs.size,rawInt 0,.none,.none]}}:=λn h1 e u=>by
  have z:h1.objs.size=s.heap.objs.size+1:=by rw[e];show KZ ..
  have G:=JO h1 (o:={cls:=.type "enumerate",data:=.fields #[.none,.bool false,.ref s.heap.objs.size,rawInt 0,.none,.none]}) rfl;show⟨(Ac G rfl),?_⟩;rw[z]at G ⊢;show k _ G (u.at λo y=>JI _ y) (by rw[KZ,z]) λc o y=>JI _ (by rw[e];show JI _ y)
 cases b
 .show Am ((show s.heap.IsTuple l xs from q)) λo e _=>callType_new F.called_enumerate (by decide) (F.typeCall_enumerate_1 _) (F.newCall_enumerate_1 _) (λobj=>F.args_object_init_2 obj _) F.entry_enumerate_new (My l xs o) (A6 e q (O "tuple_iterator" _ rfl (A8 (JO _ rfl) rfl rfl)))
 .show Am ((show s.heap.IsList l xs from q)) λo e _=>callType_new F.called_enumerate (by decide) (F.typeCall_enumerate_1 _) (F.newCall_enumerate_1 _) (λobj=>F.args_object_init_2 obj _) F.entry_enumerate_new (Lh l xs o) (A6 e q (O "list_iterator" _ rfl (A8 (JO _ rfl) rfl rfl)))
end
def EL (b:Bool)(K:A3)(H:Hp)(a:Addr)(xs:List V):Prop:=if b=true then AK K H a xs else AC K H a xs
section
def Inv.sq (I:Inv X pins σ H s)(h:EL b X.K H a xs):∃its:List Value,AF xs its/\SQ b s.heap a its.toArray/\xs.length<=sizeLine:=by
 cases b
 .show I.tuple h
 .show Bp (I.list h) λits r p z=>Bc its r p.isList z
def Inv.HZ (I:Inv X pins σ H s)(h:EL b X.K H a xs)(h':EL b X.K H a ys):xs=ys:=by
 cases b
 .show I.GJ h h'
 .show I.HQ h h'
end
noncomputable def Ite (b:Bool)(K:A3)(a:Addr):It:=
 ⟨λi H=>∃xs x,EL b K H a xs/\xs[i]?=some x,
  λi H v H'=>∃p x,H p=none/\v=.ref p/\H'=upd H p (.tup [.int i,x])/\∀xs,EL b K H a xs->xs[i]?=some x,
  λi H=>∃xs,EL b K H a xs/\xs.length<=i⟩
def eTn (b:Bool)(e it a:Addr)(i:Nat)(h:Heap):Prop:=(∃G,IsEnum h e it i G)/\SI b h it a i
theorem Vo {P:Program}{w:World}{K:A3}{b:Bool}{kk}(ne:e≠it) :
  Turn P w K (.Tuple a8 kk pos) (Ite b K a) [it,e] e (eTn b e it a) where
 mem:=by simp
 obj:=λi h st c hc=>by
  obtain⟨⟨U,G⟩,u⟩:=st;simp only[JS,KI,MC]at hc
  rcases hc with rfl|rfl
  .show u.obj
  .show Ac G λv z=>(nomatch z)
 keep:=λi h h' st k=>by
  obtain⟨⟨U,G⟩,u⟩:=st;show⟨⟨U,k _ (by simp) _ G⟩,u.at λo y=>k _ (by simp) o y⟩
 item:=by
  intro X hP hw hK hc i pins s σ H E I Y st hg;subst hP hw hK;show B5 hg λxs x hq hx=>?_;obtain⟨⟨U,G⟩,u⟩:=st;show Bp (I.sq hq) λits rv p z=>Am (rv.get hx) λv hv ru=>Wh G u p (x:=v) (by simpa using hv) ne λh' o1 u1 t1 z1 k1=>Ac rfl (wpAny_letOwnedTupleGo_enum (s:={s with heap:=h',toks:=s.toks+1}) o1 λO e2 sb=>?_);have a1:@LT.lt Nat _ e s.heap.objs.size:=JL G;have a6:@LT.lt Nat _ it s.heap.objs.size:=by show Am u.obj λo y _=>?_;show JL y
  have up:∀c o,c≠e->h'.get? c=some o->O.get? c=some o:=λc o a4 y=>(sb.2 c a4).trans y;have kk:∀c o,c∉[it,e]->s.heap.get? c=some o->O.get? c=some o:=λc o hc y=>by
   simp only[JS,KI,MC,not_or]at hc;show up c o hc.2 (k1 c o hc.2 hc.1 y)
  have a2:eTn b e it a (i+1) O:=⟨⟨_,by simpa using e2⟩,u1.at λo y=>up _ o (ML ne) y⟩;have kt:∀c∈[it,e],∃o,O.get? c=some o:=λc hc=>by
   obtain⟨⟨a9,a5⟩,u'⟩:=a2;simp only[JS,KI,MC]at hc
   rcases hc with rfl|rfl
   .show Am u'.obj λo y _=>⟨o,y⟩
   .show⟨_,a5⟩
  have I1:Inv X pins σ (upd H s.heap.objs.size (.tup [.int i,x])) {s with heap:=O,toks:=s.toks+1}:=
   I.GR (t':=s.toks+1) (its:=[.int i s.toks,v]) Y kk kt (JN _) (zl 2) (.cons ⟨_,rfl⟩ (.cons ru .nil)) (A8 (up _ _ (KS a1) t1) rfl ⟨_,rfl⟩) (Ac (up _ _ (KS a1) t1) rfl)
  show Ct (.ref s.heap.objs.size) _ I1 rfl (Br _ x I.fresh rfl rfl λa7 h=>by rw[I.HZ h hq];show hx) a2 λc hc=>?_;rw[Ak ?_]
  .show (Y c hc).1
  .simp only[JS,KI,MC]at hc
   rcases hc with rfl|rfl
   .show JP a6
   .show JP a1
 done:=by
  intro X hP hw hK hc i pins s σ H E I Y st hg;subst hP hw hK;show Am hg λxs hq hl=>?_;obtain⟨⟨U,G⟩,u⟩:=st;show Bp (I.sq hq) λits rv p z=>?_;have e1:=rv.length;show Za (I.ok.hd hc) G u p (by simp;omega) λh' k1=>⟨rfl,I.GY (t':=s.toks) Y λc o hc y=>?_⟩;simp only[JS,KI,MC,not_or]at hc;show k1 c o hc.1 y
 self:=λ_ _ _ _ _ st h=>by
  obtain⟨⟨U,G⟩,u⟩:=st;show wpAny_pyIter_enum G h
def Ag3 (b:Bool)(K:A3)(ta:TA):TI:=λσ H R=>ta σ H λvs H1=>∃a,vs=[.ref a]/\(∃xs,EL b K H1 a xs)/\R (Ite b K a) H1
def Ws:bootBuiltins "enumerate"=some (.type "enumerate"):=by decide +kernel
def Aa3 {kk}(Y:Gl X "enumerate")(hm:X.mg "enumerate"=none)(ha:PA X [a] ta)(hs:starEach [a] X.env=[(false,eval a X.env)]:=by rfl) :
  PI X (.Tuple a1 kk a2) (.Call (.Name "enumerate" p) [a] [] pos) (Ag3 b X.K ta):=by
 intro pins s σ H R I h;show Call_ (Hs I Y hm Ws (LN (AE (ha pos pins s σ H _ I h) λus s1 ⟨vs,H1,G,r1,q1⟩=>?_) hs rfl));show Bp q1 λl e z1 q=>?_;obtain⟨xs,hq⟩:=z1;subst e
 cases r1 with
 | cons r rr=>
  cases rr;cases r;show Bp (G.sq hq) λits rv p1 z=>Wr p1 λh' O u sz k1=>wpAny_pyIter_enum (s:={s1 with heap:=h'}) O (B8 (s1.heap.objs.size+1) [s1.heap.objs.size,s1.heap.objs.size+1] (eTn b _ _ l) (Ite b X.K l) H1 rfl (G.kept (t':=s1.toks) k1) (Vo (Nat.succ_ne_self _)) ⟨⟨_,O⟩,u⟩ (λc hc=>?_) q);have U:s1.heap.objs.size<=c:=by
   simp only[JS,KI,MC]at hc
   rcases hc with rfl|rfl<;>omega
  show G.IB U (G.AJ.fresh U)
def Gv {O}(G:Gl X "enumerate")(hm:X.mg "enumerate"=none)(ha:QA X [a] ta)(hs:starEach [a] X.env=[(false,eval a X.env)]:=by rfl) :
  QI X (.Tuple U O Y) (.Call (.Name "enumerate" p) [a] [] pos) (Ag3 b X.K ta):=⟨Aa3 G hm ha.go hs⟩
def Kh {K:A3}{b:Bool}{a:Addr}{xs:List V}{g:TG}{tb:TS}{D:Ends}{σ:St}{H:Hp}(Pv:Nat->St->Hp->Prop)(Y:Pv 0 σ H)(hl:∀i σ H,i<=xs.length->Pv i σ H->EL b K H a xs)
  (hs:∀i x σ H p,xs[i]?=some x->Pv i σ H->H p=none->g (.ref p) σ (upd H p (.tup [.int i,x])) λσ2 H2=>tb {D with nx:=Pv (i+1),ct:=Pv (i+1),bk:=D.nx} σ2 H2)(hd:∀σ H,Pv xs.length σ H->D.nx σ H) :
  ∃W:Nat->Nat->St->Hp->Prop,(∃m,W 0 m σ H)/\∀i m σ H,W i m σ H ->
   ((Ite b K a).stop i H/\D.nx σ H)\/((Ite b K a).go i H/\∃N:St->Hp->Prop,(∀σ' H',N σ' H'->∃G,G<m/\W (i+1) G σ' H')/\∀x H',(Ite b K a).DH i H x H'->g x σ H' λσ2 H2=>tb {D with nx:=N,ct:=N,bk:=D.nx} σ2 H2):=by
 show Aq (λi m σ H=>m=xs.length-i/\i<=xs.length/\Pv i σ H) (Bc xs.length (by simp) (LD _) Y) ?_;rintro i m σ H ⟨rfl,hi,p⟩;have q:=hl i σ H hi p;by_cases O:i<xs.length
 .show .inr ⟨(Ce xs (xs[i]) q (by simp[O])),(Aq (Pv (i+1)) (λσ' H' p'=>(Ep (xs.length-(i+1)) (by omega) rfl O p')) λx H' y=>?_)⟩;show Fw y λt x' ht z1 z2 U=>?_;subst z1 z2;show hs i x' σ H t (U xs q) p ht
 .have:i=xs.length:=by omega
  subst this;show .inl ⟨(Aq xs q (JN _)),hd σ H p⟩
section
variable {E:Bf}
def N6 {b c:Bool}{z TI TO i1 i2 l1 l2:Addr}{n1 n2:Nat}{xs ys:Array Value}{x y u0 v0:Value}{Q:Option Value->Shared->Prop}(D:ZipApart z TI TO i1 i2 l1 l2)
   (hz:IsZip s.heap z TI TO .none)(hI:IsPair s.heap TI (.ref i1) (.ref i2))(hO:IsPair s.heap TO u0 v0)(u1:SI b s.heap i1 l1 n1)(u2:SI c s.heap i2 l2 n2)(q1:SQ b s.heap l1 xs)(q2:SQ c s.heap l2 ys)(hx:xs[n1]?=some x)(hy:ys[n2]?=some y)
   (k:∀h',IsZip h' z TI TO (rawInt s.heap.objs.size)->IsPair h' TO x y->SI b h' i1 l1 (n1+1)->SI c h' i2 l2 (n2+1)->IsPair h' s.heap.objs.size x y->h'.objs.size=s.heap.objs.size+1 ->
     (∀a o,a≠z->a≠TO->a≠i1->a≠i2->s.heap.get? a=some o->h'.get? a=some o)->Q (some (.ref s.heap.objs.size)) {s with heap:=h'}):wpAny (model prog w) A (pyNext (.ref z)) Q E s:=by
 have ty:s.TypeIs (.ref z) "zip":=(Ac hz rfl);unfold pyNext;show JH (NX (LI (name:=Str.ofString "__next__") ty NB (MJ NB ty F.entry_zip_next ?_ (F.args_zip_next_1 _))))
 show wpAny _ _ (field (.ref z) 2 >>= λ_=>_) _ _ _
 show JH (KR hz rfl (x:=.bool false) rfl ?_)
 show wpAny _ _ (field (.ref z) 3 >>= λ_=>_) _ _ _
 show JH (KR hz rfl (x:=.ref TI) rfl (JH (LY hI rfl ?_)))
 show wpAny _ _ (Builtin.SmallTypes.ownedTupleIsFree (.ref z) >>= λ_=>_) _ _ _
 show JH ?_
 delta Builtin.SmallTypes.ownedTupleIsFree
 show JH (KR hz rfl (x:=.none) rfl (JK ?_));simp only[if_true];show JH (NU (JH (KR hz rfl (x:=.ref TO) rfl (JH (LM hz (by simp) λh1 z1 s1=>?_)))));replace z1:IsZip h1 z TI TO .ellipsis:=z1;show JH ?_;simp only[List.zipIdx_nil,List.zipIdx_cons,OQ,List.forIn_cons];show JH (JH (wpAny_onRaise ?_))
 show wpAny _ _ (Builtin.SmallTypes.nextOf (.ref i1) >>= λ_=>_) _ _ _
 show JH (Dz (u1.at λo e=>s1.extBut _ o D.i1z e) (q1.at λo e=>s1.extBut _ o D.l1z e) hx λh2 v1 s2=>JK ?_);have O2:IsPair h2 TO u0 v0:=s2.extBut _ _ D.TOi1 (s1.extBut _ _ D.TOz hO);show JH (LY O2 rfl (JH (wpAny_updateSeq_pair O2 λh3 O3 s3=>?_)));replace O3:IsPair h3 TO x v0:=O3;show JH (wpAny_letGo (JK (JH (JH (wpAny_onRaise ?_)))))
 show wpAny _ _ (Builtin.SmallTypes.nextOf (.ref i2) >>= λ_=>_) _ _ _
 have a5:∀a o,a≠z->a≠i1->a≠TO->s.heap.get? a=some o->h3.get? a=some o:=λa o O U a3 e=>s3.extBut _ o a3 (s2.extBut _ o U (s1.extBut _ o O e));show JH (Dz (u2.at λo e=>a5 _ o D.i2z D.i12.symm D.TOi2.symm e) (q2.at λo e=>a5 _ o D.l2z D.l2i1 D.l2TO e) hy λh4 v2 s4=>JK ?_);have O4:IsPair h4 TO x v0:=s4.extBut _ _ D.TOi2 O3;show JH (LY O4 rfl (JH (wpAny_updateSeq_pair O4 λG O5 s5=>?_)));replace O5:IsPair G TO x y:=O5;show JH (wpAny_letGo (JK (JK (JH (LY O5 rfl (JH (wpAny_newTuple (?_))))))));have sz:G.objs.size=s.heap.objs.size:=by rw[s5.1,s4.1,s3.1,s2.1,s1.1]
 have z5:IsZip G z TI TO .ellipsis:=s5.extBut _ _ D.TOz.symm (s4.extBut _ _ D.i2z.symm (s3.extBut _ _ D.TOz.symm (s2.extBut _ _ D.i1z.symm z1)));have a6:∀a o,a≠z->a≠TO->a≠i1->a≠i2->s.heap.get? a=some o->G.get? a=some o:=λa o O U a3 a4 e=>s5.extBut _ o U (s4.extBut _ o a4 (a5 a o O a3 U e));have w1:SI b G i1 l1 (n1+1):=v1.at λo e=>s5.extBut _ o D.TOi1.symm (s4.extBut _ o D.i12 (s3.extBut _ o D.TOi1.symm e));have w2:SI c G i2 l2 (n2+1):=v2.at λo e=>s5.extBut _ o D.TOi2.symm e;have lz:@LT.lt Nat _ z G.objs.size:=JL z5
 show wpAny _ _ (Builtin.SmallTypes.ownedTupleHandOut (.ref z) (.ref G.objs.size) >>= λ_=>_) _ _ _
 show JH ?_
 delta Builtin.SmallTypes.ownedTupleHandOut
 have z6:IsZip (G.push {cls:=.type "tuple",data:=.seq #[x,y]}) z TI TO .ellipsis:=JI _ z5;show JH (LM z6 (by simp) λh7 z7 s7=>?_);replace z7:IsZip h7 z TI TO (rawInt G.objs.size):=z7;show LM z7 (by simp) λY z8 s8=>?_;replace z8:IsZip Y z TI TO (rawInt G.objs.size):=z8;have up:∀a o,a≠z->G.get? a=some o->Y.get? a=some o:=λa o O e=>s8.extBut _ o O (s7.extBut _ o O (JI _ e));have T8:IsPair Y G.objs.size x y:=s8.extBut _ _ (KS lz) (s7.extBut _ _ (KS lz) (JO _ rfl));have e8:Y.objs.size=G.objs.size+1:=by rw[s8.1,s7.1,KZ]
 rw[sz]at z8 T8 e8;show JK (Ac rfl (JK ?_))
 show Q (some (.ref G.objs.size)) _
 rw[sz];show k Y z8 (up _ _ D.TOz O5) (w1.at λo e=>up _ o D.i1z e) (w2.at λo e=>up _ o D.i2z e) T8 e8 λa o O U a3 a4 e=>up a o O (a6 a o O U a3 a4 e)
def Qv {b c:Bool}{z TI TO i1 i2 l1 l2:Addr}{n1 n2:Nat}{xs ys:Array Value}{u0 v0:Value}{Q:Option Value->Shared->Prop}(hh:A.handled=none)(D:ZipApart z TI TO i1 i2 l1 l2)
  (hz:IsZip s.heap z TI TO .none)(hI:IsPair s.heap TI (.ref i1) (.ref i2))(hO:IsPair s.heap TO u0 v0)(u1:SI b s.heap i1 l1 n1)(u2:SI c s.heap i2 l2 n2)(q1:SQ b s.heap l1 xs)(q2:SQ c s.heap l2 ys)(a7:xs[n1]?=none\/ys[n2]?=none)
  (k:∀h',(∀a o,a≠z->a≠TO->a≠i1->a≠i2->s.heap.get? a=some o->h'.get? a=some o)->Q none {s with heap:=h'}):wpAny (model prog w) A (pyNext (.ref z)) Q E s:=by
 have ty:s.TypeIs (.ref z) "zip":=(Ac hz rfl);unfold pyNext;show JH (NX (LI (name:=Str.ofString "__next__") ty NB (MJ NB ty F.entry_zip_next ?_ (F.args_zip_next_1 _))))
 show wpAny _ _ (field (.ref z) 2 >>= λ_=>_) _ _ _
 show JH (KR hz rfl (x:=.bool false) rfl ?_)
 show wpAny _ _ (field (.ref z) 3 >>= λ_=>_) _ _ _
 show JH (KR hz rfl (x:=.ref TI) rfl (JH (LY hI rfl ?_)))
 show wpAny _ _ (Builtin.SmallTypes.ownedTupleIsFree (.ref z) >>= λ_=>_) _ _ _
 show JH ?_
 delta Builtin.SmallTypes.ownedTupleIsFree
 show JH (KR hz rfl (x:=.none) rfl (JK ?_));simp only[if_true];show JH (NU (JH (KR hz rfl (x:=.ref TO) rfl (JH (LM hz (by simp) λh1 z1 s1=>?_)))));replace z1:IsZip h1 z TI TO .ellipsis:=z1;show JH ?_;simp only[List.zipIdx_nil,List.zipIdx_cons,OQ,List.forIn_cons];show JH (JH (wpAny_onRaise ?_))
 show wpAny _ _ (Builtin.SmallTypes.nextOf (.ref i1) >>= λ_=>_) _ _ _
 have stop:∀(h':Heap) (e:Addr),IsZip h' z TI TO .ellipsis->(∃o,h'.get? e=some o/\o.cls=.type "StopIteration")->(∀a o,a≠z->a≠TO->a≠i1->a≠i2->s.heap.get? a=some o->h'.get? a=some o) ->
   wpAny (model prog w) A.in1 (setField (.ref z) 0 .none) (λ_ s'=>∃o,s'.heap.get? e=some o/\o.cls=.type "StopIteration"/\∃G,s'={s with heap:=G}/\∀a o,a≠z->a≠TO->a≠i1->a≠i2->s.heap.get? a=some o->G.get? a=some o) (λ_ _=>False) {s with heap:=h'}:=λh' e zz ⟨oe,ge,ce⟩ up=>by
  have a6:e≠z:=λx=>by subst x;rw[zz]at ge;cases ge;simp at ce
  show LM (s:={s with heap:=h'}) zz (by simp) λG _ sb=>(Bc oe (sb.extBut _ _ a6 ge) ce (Aq G rfl λa o O U a3 Y x=>sb.extBut _ _ O (up a o O U a3 Y x)))
 have fin:∀(e:Addr) (s':Shared),(∃o,s'.heap.get? e=some o/\o.cls=.type "StopIteration"/\∃G,s'={s with heap:=G}/\∀a o,a≠z->a≠TO->a≠i1->a≠i2->s.heap.get? a=some o->G.get? a=some o) ->
   (∃o,s'.heap.get? e=some o/\o.cls=.type "StopIteration")/\Q none s':=λe s' ⟨o,g,c,G,eq,up⟩=>⟨(Aq o g c),by rw[eq];show k G up⟩
 cases hx:xs[n1]? with
 | none=>
  show JH (Gn hh (u1.at λo e=>s1.extBut _ o D.i1z e) (q1.at λo e=>s1.extBut _ o D.l1z e) hx λh2 e s2 he=>LB (stop h2 e (s2 _ _ D.i1z.symm z1) he λa o O U a3 Y x=>s2 _ _ a3 (s1.extBut _ _ O x)) (λ_ s' y=>?_) λ_ _ y=>y.elim);obtain⟨g,q⟩:=fin e s' y;show JH (NP (T:="StopIteration") (b:=true) g OP (JK q))
 | some x=>
  have hy:ys[n2]?=none:=by rcases a7 with h|h;rw[hx]at h;cases h;show h
  show JH (Dz (u1.at λo e=>s1.extBut _ o D.i1z e) (q1.at λo e=>s1.extBut _ o D.l1z e) hx λh2 v1 s2=>JK ?_);have O2:IsPair h2 TO u0 v0:=s2.extBut _ _ D.TOi1 (s1.extBut _ _ D.TOz hO);show JH (LY O2 rfl (JH (wpAny_updateSeq_pair O2 λh3 O3 s3=>JH (wpAny_letGo (JK (JH (JH (wpAny_onRaise ?_))))))))
  show wpAny _ _ (Builtin.SmallTypes.nextOf (.ref i2) >>= λ_=>_) _ _ _
  have a5:∀a o,a≠z->a≠i1->a≠TO->s.heap.get? a=some o->h3.get? a=some o:=λa o O U a3 e=>s3.extBut _ o a3 (s2.extBut _ o U (s1.extBut _ o O e));show JH (Gn hh (u2.at λo e=>a5 _ o D.i2z D.i12.symm D.TOi2.symm e) (q2.at λo e=>a5 _ o D.l2z D.l2i1 D.l2TO e) hy λh4 e s4 he=>?_);have z4:IsZip h4 z TI TO .ellipsis:=s4 _ _ D.i2z.symm (s3.extBut _ _ D.TOz.symm (s2.extBut _ _ D.i1z.symm z1));show LB (stop h4 e z4 he λa o O U a3 Y x=>s4 _ _ Y (a5 a o O a3 U x)) (λ_ s' y=>?_) λ_ _ y=>y.elim;obtain⟨g,q⟩:=fin e s' y;show JH (NP (T:="StopIteration") (b:=true) g OP (JK q))
end
noncomputable def kdI (b:Bool):String:=if b=true then "list_iterator" else "tuple_iterator"
abbrev zB1 (b:Bool)(h:Heap)(l1:Addr):Heap:=h.push {cls:=.type (kdI b),data:=.fields #[.ref l1,.int 0 0]}
abbrev zB2 (b c:Bool)(h:Heap)(l1 l2:Addr):Heap:=(zB1 b h l1).push {cls:=.type (kdI c),data:=.fields #[.ref l2,.int 0 0]}
abbrev zB3 (b c:Bool)(h:Heap)(l1 l2:Addr):Heap:=(zB2 b c h l1 l2).push {cls:=.type "tuple",data:=.seq #[.ref h.objs.size,.ref (zB1 b h l1).objs.size]}
abbrev zB4 (b c:Bool)(h:Heap)(l1 l2:Addr):Heap:=(zB3 b c h l1 l2).push {cls:=.type "tuple",data:=.seq #[.none,.none]}
abbrev zB5 (b c:Bool)(h:Heap)(l1 l2:Addr):Heap:=(zB4 b c h l1 l2).push {cls:=.type "zip",data:=.fields #[.none,.bool false,.bool false,.ref (zB2 b c h l1 l2).objs.size,.ref (zB3 b c h l1 l2).objs.size]}
def Qe (l1 l2:Addr)(xs ys:Array Value) :
  Meets (Builtin.«zip.__new__» ⟨[.type "zip",.ref l1,.ref l2],[]⟩) (λ_ R s=>s.heap.IsTuple l1 xs/\s.heap.IsTuple l2 ys/\R (.ok (.ret (.ref (zB4 false false s.heap l1 l2).objs.size))) {s with heap:=zB5 false false s.heap l1 l2}):=
 .of_wp λprog w A R s h=>by
  obtain⟨G,g,d,tk,os⟩:=s;obtain⟨U,Y,h⟩:=h;have sub:=sub_zip;have O:Heap.IsTuple (Shared.heap ⟨G,g,d,tk,os⟩) l1 xs:=U;have L2:Heap.IsTuple (Shared.heap ⟨G.push {cls:=.type "tuple_iterator",data:=.fields #[.ref l1,.int 0 0]},g,d,tk,os⟩) l2 ys:=Heap.IsTuple.at Y λo e=>JI _ e
  wp_walk using LU O,LU L2
  show⟨_,rfl,h⟩
def Qd (l1 l2:Addr)(xs ys:Array Value) :
  Meets (Builtin.«zip.__new__» ⟨[.type "zip",.ref l1,.ref l2],[]⟩) (λ_ R s=>s.heap.IsTuple l1 xs/\s.heap.IsList l2 ys/\R (.ok (.ret (.ref (zB4 false true s.heap l1 l2).objs.size))) {s with heap:=zB5 false true s.heap l1 l2}):=
 .of_wp λprog w A R s h=>by
  obtain⟨G,g,d,tk,os⟩:=s;obtain⟨U,Y,h⟩:=h;have sub:=sub_zip;have O:Heap.IsTuple (Shared.heap ⟨G,g,d,tk,os⟩) l1 xs:=U;have L2:Heap.IsList (Shared.heap ⟨G.push {cls:=.type "tuple_iterator",data:=.fields #[.ref l1,.int 0 0]},g,d,tk,os⟩) l2 ys:=Heap.IsList.at Y λo e=>JI _ e
  wp_walk using LU O,LW L2
  show⟨_,rfl,h⟩
def Qc (l1 l2:Addr)(xs ys:Array Value) :
  Meets (Builtin.«zip.__new__» ⟨[.type "zip",.ref l1,.ref l2],[]⟩) (λ_ R s=>s.heap.IsList l1 xs/\s.heap.IsTuple l2 ys/\R (.ok (.ret (.ref (zB4 true false s.heap l1 l2).objs.size))) {s with heap:=zB5 true false s.heap l1 l2}):=
 .of_wp λprog w A R s h=>by
  obtain⟨G,g,d,tk,os⟩:=s;obtain⟨U,Y,h⟩:=h;have sub:=sub_zip;have O:Heap.IsList (Shared.heap ⟨G,g,d,tk,os⟩) l1 xs:=U;have L2:Heap.IsTuple (Shared.heap ⟨G.push {cls:=.type "list_iterator",data:=.fields #[.ref l1,.int 0 0]},g,d,tk,os⟩) l2 ys:=Heap.IsTuple.at Y λo e=>JI _ e
  wp_walk using LW O,LU L2
  show⟨_,rfl,h⟩
def Qb (l1 l2:Addr)(xs ys:Array Value) :
  Meets (Builtin.«zip.__new__» ⟨[.type "zip",.ref l1,.ref l2],[]⟩) (λ_ R s=>s.heap.IsList l1 xs/\s.heap.IsList l2 ys/\R (.ok (.ret (.ref (zB4 true true s.heap l1 l2).objs.size))) {s with heap:=zB5 true true s.heap l1 l2}):=
 .of_wp λprog w A R s h=>by
  obtain⟨G,g,d,tk,os⟩:=s;obtain⟨U,Y,h⟩:=h;have sub:=sub_zip;have O:Heap.IsList (Shared.heap ⟨G,g,d,tk,os⟩) l1 xs:=U;have L2:Heap.IsList (Shared.heap ⟨G.push {cls:=.type "list_iterator",data:=.fields #[.ref l1,.int 0 0]},g,d,tk,os⟩) l2 ys:=Heap.IsList.at Y λo e=>JI _ e
  wp_walk using LW O,LW L2
  show⟨_,rfl,h⟩
def Tn (b c:Bool)(l1 l2:Addr)(xs ys:Array Value) :
  Meets (Builtin.«zip.__new__» ⟨[.type "zip",.ref l1,.ref l2],[]⟩) (λ_ R s=>SQ b s.heap l1 xs/\SQ c s.heap l2 ys/\R (.ok (.ret (.ref (zB4 b c s.heap l1 l2).objs.size))) {s with heap:=zB5 b c s.heap l1 l2}):=by
 cases b<;>cases c
 .show Qe l1 l2 xs ys
 .show Qd l1 l2 xs ys
 .show Qc l1 l2 xs ys
 .show Qb l1 l2 xs ys
def SI.made (e:h.get? it=some {cls:=.type (kdI b),data:=.fields #[.ref l,.int 0 0]}):SI b h it l 0:=by
 cases b
 .show A8 e rfl rfl
 .show A8 e rfl rfl
section
variable {E:Bf}
def Wq {Q:Bf}(q1:SQ b s.heap l1 xs)(q2:SQ c s.heap l2 ys)
   (k:∀h',IsZip h' (s.heap.objs.size+4) (s.heap.objs.size+2) (s.heap.objs.size+3) .none->IsPair h' (s.heap.objs.size+2) (.ref s.heap.objs.size) (.ref (s.heap.objs.size+1))->IsPair h' (s.heap.objs.size+3) .none .none ->
     SI b h' s.heap.objs.size l1 0->SI c h' (s.heap.objs.size+1) l2 0->h'.objs.size=s.heap.objs.size+5->(∀a o,s.heap.get? a=some o->h'.get? a=some o)->Q (.ref (s.heap.objs.size+4)) {s with heap:=h'}) :
   wpAny (model prog w) A (call (.type "zip") [.ref l1,.ref l2]) Q E s:=by
 show callType_new F.called_zip (by decide) (F.typeCall_zip_2 _ _) (F.newCall_zip_2 _ _) (λobj=>F.args_object_init_3 obj _ _) F.entry_zip_new (Tn b c l1 l2 xs ys) (A6 q1 q2 ?_);have G:(zB1 b s.heap l1).objs.size=s.heap.objs.size+1:=KZ ..;have O:(zB2 b c s.heap l1 l2).objs.size=s.heap.objs.size+2:=by rw[KZ,G]
 have U:(zB3 b c s.heap l1 l2).objs.size=s.heap.objs.size+3:=by rw[KZ,O]
 have Y:(zB4 b c s.heap l1 l2).objs.size=s.heap.objs.size+4:=by rw[KZ,U]
 have e5:(zB5 b c s.heap l1 l2).objs.size=s.heap.objs.size+5:=by rw[KZ,Y]
 have up:∀{h:Heap} {o:Obj} {a:Addr} {u:Obj},h.get? a=some u->(h.push o).get? a=some u:=λe=>JI _ e;have g5:(zB5 b c s.heap l1 l2).get? (zB4 b c s.heap l1 l2).objs.size=some _:=JO _ rfl;have g4:(zB5 b c s.heap l1 l2).get? (zB3 b c s.heap l1 l2).objs.size=some _:=up (JO _ rfl);have g3:(zB5 b c s.heap l1 l2).get? (zB2 b c s.heap l1 l2).objs.size=some _:=up (up (JO _ rfl));have g2:(zB5 b c s.heap l1 l2).get? (zB1 b s.heap l1).objs.size=some _:=up (up (up (JO _ rfl)));have g1:(zB5 b c s.heap l1 l2).get? s.heap.objs.size=some _:=up (up (up (up (JO _ rfl))))
 show _/\_
 rw[O,U,Y]at g5;rw[G,O]at g3;rw[U]at g4;rw[G]at g2;rw[Y];show⟨(Ac g5 rfl),k _ g5 g3 g4 (.made g1) (.made g2) e5 λa o x=>up (up (up (up (up x))))⟩
end
noncomputable def Qu (b c:Bool)(K:A3)(l1 l2:Addr):It:=
 ⟨λi H=>∃xs ys x y,EL b K H l1 xs/\EL c K H l2 ys/\xs[i]?=some x/\ys[i]?=some y,
  λi H v H'=>∃p x y,H p=none/\v=.ref p/\H'=upd H p (.tup [x,y])/\(∀xs,EL b K H l1 xs->xs[i]?=some x)/\∀ys,EL c K H l2 ys->ys[i]?=some y,
  λi H=>∃xs ys,EL b K H l1 xs/\EL c K H l2 ys/\(xs.length<=i\/ys.length<=i)⟩
def zBn (b c:Bool)(z TI TO i1 i2 l1 l2:Addr)(i:Nat)(h:Heap):Prop:=IsZip h z TI TO .none/\IsPair h TI (.ref i1) (.ref i2)/\(∃u v,IsPair h TO u v)/\SI b h i1 l1 i/\SI c h i2 l2 i
theorem Vm {P:Program}{w:World}{K:A3}{b c:Bool}{aG:List Expr}{kk}{pos:Pos}{l1 l2 z TI TO i1 i2:Addr}(D:ZipApart z TI TO i1 i2 l1 l2) :
  Turn P w K (.Tuple aG kk pos) (Qu b c K l1 l2) [i1,i2,TI,TO,z] z (zBn b c z TI TO i1 i2 l1 l2) where
 mem:=by simp
 obj:=λi h st a ha=>by
  show Js st λhz G z1 U Y=>?_;obtain⟨u,v,O⟩:=z1;simp only[JS,KI,MC]at ha
  rcases ha with rfl|rfl|rfl|rfl|rfl
  .show U.obj
  .show Y.obj
  .show Ac G λv z=>(nomatch z)
  .show Ac O λv z=>(nomatch z)
  .show Ac hz λv z=>(nomatch z)
 keep:=λi h h' st k=>by
  show Js st λhz G z1 U Y=>?_;obtain⟨u,v,O⟩:=z1;show Fq (k _ (by simp) _ hz) (k _ (by simp) _ G) (Jm u v (k _ (by simp) _ O)) (U.at λo e=>k _ (by simp) o e) (Y.at λo e=>k _ (by simp) o e)
 item:=by
  intro X hP hw hK hc i pins s σ H E I hf st hg;subst hP hw hK;show Qm hg λxs ys x y a2 a4 hx hy=>?_;show Js st λhz G z1 U Y=>?_;obtain⟨u0,v0,O⟩:=z1;show Bp (I.sq a2) λaH a5 pa za=>Bp (I.sq a4) λaI a6 pb zb=>Am (a5.get hx) λu hu ru=>Am (a6.get hy) λv hv rv=>N6 D hz G O U Y pa pb (x:=u) (y:=v) (by simpa using hu) (by simpa using hv) λh' z1 p1 n1 n2 t1 aJ k1=>Ac rfl (wpAny_letOwnedTupleGo_zip (s:={s with heap:=h'}) z1 λa1 z2 sb=>?_);have aA:s.heap.objs.size≠z:=KS (JL hz);have up:∀c o,c≠z->h'.get? c=some o->a1.get? c=some o:=λc o aB e=>(sb.2 c aB).trans e;have tT:IsPair a1 s.heap.objs.size u v:=up _ _ aA t1;have kk:∀c o,c∉[i1,i2,TI,TO,z]->s.heap.get? c=some o->a1.get? c=some o:=λc o hc e=>by
   simp only[JS,KI,MC,not_or]at hc;show up c o hc.2.2.2.2 (k1 c o hc.2.2.2.2 hc.2.2.2.1 hc.1 hc.2.1 e)
  have tI:IsPair a1 TI (.ref i1) (.ref i2):=up _ _ D.TIz (k1 TI _ D.TIz D.TITO D.TIi1 D.TIi2 G);have a7:zBn b c z TI TO i1 i2 l1 l2 (i+1) a1:=(Fq z2 tI (Jm u v (up _ _ D.TOz p1)) (n1.at λo e=>up _ o D.i1z e) (n2.at λo e=>up _ o D.i2z e));have kt:∀a∈[i1,i2,TI,TO,z],∃o,a1.get? a=some o:=λa ha=>by
   show Js a7 λaD a8 z1 y1 y2=>?_;obtain⟨u',v',a9⟩:=z1;simp only[JS,KI,MC]at ha
   rcases ha with rfl|rfl|rfl|rfl|rfl
   .show Am y1.obj λo e _=>⟨o,e⟩
   .show Am y2.obj λo e _=>⟨o,e⟩
   .show⟨_,a8⟩
   .show⟨_,a9⟩
   .show⟨_,aD⟩
  have I1:Inv X pins σ (upd H s.heap.objs.size (.tup [x,y])) {s with heap:=a1}:=
   I.GR (t':=s.toks) (its:=[u,v]) hf kk kt (JN _) (zl 2) (.cons ru (.cons rv .nil)) (A8 tT rfl ⟨_,rfl⟩) (Ac tT rfl)
  show Ct (.ref s.heap.objs.size) _ I1 rfl (Ny _ x y I.fresh rfl rfl (λaF h=>by rw[I.HZ h a2];show hx) λaF h=>by rw[I.HZ h a4];show hy) a7 λa ha=>?_;rw[Ak ?_]
  .show (hf a ha).1
  .intro e;have aC:a<s.heap.objs.size:=by
    simp only[JS,KI,MC]at ha
    rcases ha with rfl|rfl|rfl|rfl|rfl
    .show Am U.obj λo e _=>JL e
    .show Am Y.obj λo e _=>JL e
    .show JL G
    .show JL O
    .show JL hz
   show absurd aC (by rw[e];show LJ _)
 done:=by
  intro X hP hw hK hc i pins s σ H E I hf st hg;subst hP hw hK;show B7 hg λxs ys a2 a4 hl=>?_;show Js st λhz G z1 U Y=>?_;obtain⟨u0,v0,O⟩:=z1;show Bp (I.sq a2) λaH a5 pa za=>Bp (I.sq a4) λaI a6 pb zb=>?_;have e1:=a5.length;have e2:=a6.length;show Qv (I.ok.hd hc) D hz G O U Y pa pb ?_ λh' k1=>⟨rfl,I.GY (t':=s.toks) hf λc o hc e=>?_⟩
  .rcases hl with h|h
   .show .inl (by simp;omega)
   .show .inr (by simp;omega)
  .simp only[JS,KI,MC,not_or]at hc;show k1 c o hc.2.2.2.2 hc.2.2.2.1 hc.1 hc.2.1 e
 self:=λ_ _ _ _ _ st h=>wpAny_pyIter_zip st.1 h
def Ag1 (b c:Bool)(K:A3)(ta:TA):TI:=λσ H R=>ta σ H λvs H1=>∃l1 l2,vs=[.ref l1,.ref l2]/\(∃xs,EL b K H1 l1 xs)/\(∃ys,EL c K H1 l2 ys)/\R (Qu b c K l1 l2) H1
def ZipAt (X:Cx)(pins:Dh)(σ:St)(R:Addr->Addr->Hp->Prop)(b c:Bool)(v:Value)(s2:Shared):Prop:=∃(z TI TO i1 i2 l1 l2:Addr) (H1:Hp),v=.ref z/\Inv X pins σ H1 s2/\ZipApart z TI TO i1 i2 l1 l2/\zBn b c z TI TO i1 i2 l1 l2 0 s2.heap/\(∀a∈[i1,i2,TI,TO,z],Ff X pins H1 a)/\(∀a∈[i1,i2,TI,TO,z],a≠l1/\a≠l2)/\R l1 l2 H1
def O1 (hg:Gl X "zip")(hm:X.mg "zip"=none)(ha:PA X [x,y] ta)(hs:starEach [x,y] X.env=[(false,eval x X.env),(false,eval y X.env)])(a1:starEach [y] X.env=[(false,eval y X.env)])
 {R:Addr->Addr->Hp->Prop}(I:Inv X pins σ H s)(h:ta σ H λvs H1=>∃l1 l2,vs=[.ref l1,.ref l2]/\(∃xs,EL b X.K H1 l1 xs)/\(∃ys,EL c X.K H1 l2 ys)/\R l1 l2 H1):wpAny (model X.prog X.w) X.A (eval (.Call (.Name "zip" p) [x,y] [] pos) X.env) (ZipAt X pins σ R b c) X.xe s:=by
 show Call_ (Hs I hg hm boot_zip (LN (AE (ha pos pins s σ H _ I h) λus s1 ⟨vs,H1,O,r1,q1⟩=>?_) (by rw[hs,a1]) (by rw[a1];rfl)));show Fw q1 λl1 l2 e z1 z2 q=>?_;obtain⟨xs,a4⟩:=z1;obtain⟨ys,a5⟩:=z2;subst e
 cases r1 with
 | cons r Y=>
  cases Y with
  | cons r' Y=>
   cases Y;cases r;cases r';show Bp (O.sq a4) λaA a8 pa za=>Bp (O.sq a5) λaB a9 pb zb=>?_;have a2:∀{b:Bool} {l:Addr} {xs:Array Value},SQ b s1.heap l xs->@LT.lt Nat _ l s1.heap.objs.size:=fun {b l xs} q=>by
    cases b
    .show Am ((show s1.heap.IsTuple l xs from q)) λo e _=>JL e
    .show Am ((show s1.heap.IsList l xs from q)) λo e _=>JL e
   have a6:=a2 pa;have a7:=a2 pb;show Wq pa pb λh' z1 p1 p2 n1 n2 sz k1=>?_;have up:∀{m n:Nat},m<n->n≠m:=λh=>KS h;have G:∀{m n:Nat},m<n->m≠n:=λh=>JP h
   show Fe (s1.heap.objs.size+4) _ _ _ _ l1 (D5 l2 H1 rfl (O.kept (t':=s1.toks) k1)
    ⟨G (by omega),G (by omega),G (by omega),G (by omega),G (by omega),up (by omega),up (by omega),up (by omega),up (by omega),G (by omega),G (by omega),G (by omega),G (by omega),G (by omega),G (by omega),G (by omega),G (by omega),G (by omega)⟩ (Fq z1 p1 (Cs p2) n1 n2) (λa ha=>?_) ⟨λa ha=>?_,q⟩)
   rotate_left
   .have U:s1.heap.objs.size<=a:=by
     simp only[JS,KI,MC]at ha
     rcases ha with rfl|rfl|rfl|rfl|rfl<;>omega
    show⟨KS (KA a6 U),KS (KA a7 U)⟩
   have U:s1.heap.objs.size<=a:=by
    simp only[JS,KI,MC]at ha
    rcases ha with rfl|rfl|rfl|rfl|rfl<;>omega
   show O.IB U (O.AJ.fresh U)
def Aa1 {Y}(O:Gl X "zip")(hm:X.mg "zip"=none)(ha:PA X [x,y] ta)(hs:starEach [x,y] X.env=[(false,eval x X.env),(false,eval y X.env)]:=by rfl)(a1:starEach [y] X.env=[(false,eval y X.env)]:=by rfl) :
  PI X (.Tuple a2 Y a4) (.Call (.Name "zip" p) [x,y] [] pos) (Ag1 b c X.K ta):=by
 intro pins s σ H R I h;show AE (O1 (R:=λl1 l2 H1=>R (Qu b c X.K l1 l2) H1) O hm ha hs a1 I h) λv s1 U=>?_;show Dl U λz TI TO i1 i2 l1 z1=>Fs z1 λl2 H1 e G D st f z2=>?_;obtain⟨_,q⟩:=z2;subst e;show wpAny_pyIter_zip st.1 (B8 z _ _ _ H1 rfl G (Vm D) st f q)
def Ps {O}(G:Gl X "zip")(hm:X.mg "zip"=none)(ha:QA X [x,y] ta)(hs:starEach [x,y] X.env=[(false,eval x X.env),(false,eval y X.env)]:=by rfl)(U:starEach [y] X.env=[(false,eval y X.env)]:=by rfl) :
  QI X (.Tuple Y O a1) (.Call (.Name "zip" p) [x,y] [] pos) (Ag1 b c X.K ta):=⟨Aa1 G hm ha.go hs U⟩
def Y4 {K:A3}{b c:Bool}{l1 l2:Addr}{xs ys:List V}{g:TG}{tb:TS}{D:Ends}{σ:St}{H:Hp}(Pv:Nat->St->Hp->Prop)(h0:Pv 0 σ H)(hl:∀i σ H,i<=xs.length->Pv i σ H->EL b K H l1 xs/\EL c K H l2 ys)(a2:xs.length=ys.length)
  (hs:∀i x y σ H p,xs[i]?=some x->ys[i]?=some y->Pv i σ H->H p=none->g (.ref p) σ (upd H p (.tup [x,y])) λσ2 H2=>tb {D with nx:=Pv (i+1),ct:=Pv (i+1),bk:=D.nx} σ2 H2)(hd:∀σ H,Pv xs.length σ H->D.nx σ H) :
  ∃W:Nat->Nat->St->Hp->Prop,(∃m,W 0 m σ H)/\∀i m σ H,W i m σ H ->
   ((Qu b c K l1 l2).stop i H/\D.nx σ H)\/((Qu b c K l1 l2).go i H/\∃N:St->Hp->Prop,(∀σ' H',N σ' H'->∃U,U<m/\W (i+1) U σ' H')/\∀x H',(Qu b c K l1 l2).DH i H x H'->g x σ H' λσ2 H2=>tb {D with nx:=N,ct:=N,bk:=D.nx} σ2 H2):=by
 show Aq (λi m σ H=>m=xs.length-i/\i<=xs.length/\Pv i σ H) (Bc xs.length (by simp) (LD _) h0) ?_;rintro i m σ H ⟨rfl,hi,p⟩;obtain⟨G,O⟩:=hl i σ H hi p;by_cases Y:i<xs.length
 .have a1:i<ys.length:=by omega
  show .inr ⟨(V9 xs ys (xs[i]) (ys[i]) G O (by simp[Y]) (by simp[a1])),(Aq (Pv (i+1)) (λσ' H' p'=>(Ep (xs.length-(i+1)) (by omega) rfl Y p')) λx H' y=>?_)⟩;show Qn y λt x' y' ht z1 z2 e1 e2=>?_;subst z1 z2;show hs i x' y' σ H t (e1 xs G) (e2 ys O) p ht
 .have:i=xs.length:=by omega
  subst this;show .inl ⟨(Aw xs ys G O (.inl (JN _))),hd σ H p⟩
def mroD:mroOf (.type "dict")=pure [.type "dict",.type "object"]:=by rw[mroOf_type];kernel_rfl
def newD:typeLookup (.type "dict") "__new__"=pure (some (.builtin "dict.__new__")):=by rw[NW,MQ];kernel_rfl
def Ae3:TypeCalled "dict" "dict.__new__" "dict.__init__":=
 ⟨by decide +kernel,by decide +kernel,(Cs mroD),madeBy_type mroD newD (by decide +kernel),by decide +kernel,by rw[isSubtype_type];kernel_rfl,PySem.F.slot_dict_init⟩
def Vl (a:Value):checkTypeCall "dict" ⟨[a],[]⟩=pure ():=by kernel_rfl
def Ys (a:Value):checkBuiltinCall "dict.__new__" ⟨[.type "dict",a],[]⟩=pure ():=by kernel_rfl
def entryD:entryFor table "dict.__new__"=some Builtin.«dict.__new__»:=entryFor_of_tree (by kernel_rfl)
def subD:isSubtype (.type "dict") (.type "dict")=pure true:=by rw[isSubtype_type];kernel_rfl
def Tp (a:Value):Meets (Builtin.«dict.__new__» ⟨[.type "dict",a],[]⟩) (λ_ R s=>R (.ok (.ret (.ref s.heap.objs.size))) {s with heap:=s.heap.push {cls:=.type "dict",data:=.dict #[]}}):=
 .of_wp λprog w A R s h=>by
  obtain⟨G,g,d,tk,os⟩:=s;have s1:=subD;have s2:=mroD
  wp_walk
  show Ac rfl h
def Wv:typeLookup (.type "zip") "__getattr__"=pure none:=by rw[NW,MQ];kernel_rfl
def Sh:typeLookup (.type "zip") "keys"=pure none:=by rw[NW,MQ];kernel_rfl
def Ag9:entryFor table "zip.__getattribute__"=some Builtin.«object.__getattribute__»:=
 entryFor_alias (id':="object.__getattribute__") (by kernel_rfl) (by first|rfl|decide +kernel|(unfold String.splitOn;simp +decide [String.splitOnAux])) (by decide +kernel) (by kernel_rfl)
def Mw (z TI TO:Addr)(f0:Value)(u:Tok) :
  Meets (Builtin.«object.__getattribute__» ⟨[.ref z,.str "keys" u],[]⟩) (λA R s=>IsZip s.heap z TI TO f0/\raisesAttr (.ref z) "keys" A R s):=
 Meets.of_wp λprog w A R s hs=>by
  obtain⟨G,g,d,tk,os⟩:=s;obtain⟨O,hs⟩:=hs;have U:(⟨G,g,d,tk,os⟩:Shared).TypeIs (.ref z) "zip":=(Ac O rfl);have Y:=Sh;unfold Builtin.«object.__getattribute__»
  repeat (any_goals (first|assumption|wp_step))
  show wpAny_raiseAttrError hs.1 hs.2 (attrMsg_fits (by decide +kernel) (by decide))
def Ww {E:Bf}{z TI TO:Addr}{Q:Option Value->Shared->Prop}(hz:IsZip s.heap z TI TO f0)(Y:A.handled=none)
  (k:∀h' tk,(∀b o,s.heap.get? b=some o->h'.get? b=some o)->Q none {s with heap:=h',toks:=tk}):wpAny (model prog w) A (getAttr? (.ref z) "keys") Q E s:=by
 obtain⟨hp,g,d,tk,os⟩:=s;have O:∀G,(⟨hp,g,d,G,os⟩:Shared).TypeIs (.ref z) "zip":=λ_=>(Ac hz rfl);have f1:=sub_AttributeError;have f3:=NR.lookup;have f4:=NR.bind (.ref z);have f5:=Wv;unfold getAttr? getAttrBy? getAttrBy
 repeat (any_goals (first|assumption|show O _|((with_reducible show wpAny _ _ (call (Value.builtin "zip.__getattribute__") _ _) _ _ _);show OC NR (O _) Ag9 (PySem.F.args_zip_getattribute_2 _ _) (Mw z TI TO f0 _) (A6 hz Y λh' G e U=>?_))|wp_step))
 show G9 U.there λt' u' he=>?_
 show wpAny _ _ (getattributeRaised _ _ _ _ _ _ _) _ _ _
 unfold getattributeRaised
 repeat (any_goals (first|assumption|wp_step))
 show k h' G U.keeps
def Sc {E:Bf}{Q Q₁:Bf}(G:TypeCalled T newId initId)
  (c1:checkTypeCall T ⟨args,[]⟩=pure ())(c2:checkBuiltinCall newId ⟨.type T::args,[]⟩=pure ())(n1:entryFor table newId=some Bn)(n2:entryFor table initId=some Bi)(g:Meets (Bn ⟨.type T::args,[]⟩) S)(h:S A.in1 (wants Q₁ E) s)
  (nx:∀obj U,Q₁ obj U->U.TypeIs obj T/\argsOk initId ⟨obj::args,[]⟩/\∃O,MeetsIn prog w (Bi ⟨obj::args,[]⟩) O/\O A.in1 (wants (λr s₂=>r=.none/\Q obj s₂) E) U) :
  wpAny (model prog w) A (call (.type T) args) Q E s:=by
 show G9 G.mro λc tl m1=>?_;have m2:=G.made;have m3:=G.sub;show OS (codeAny_of_tree (?_))
 show wpAny _ _ (callAny (.type T) ⟨args,[]⟩) _ _ _
 show JK ⟨Code.quiet_builtin _ (by decide +kernel),NI F.entry_type_call (?_)⟩;rw[Around.under_plain (weight_type_call_type T args []) (units_type_call_type T args [])];have m4:=G.notType;have m5:=G.canCreate
 repeat (any_goals (first|assumption|wp_step))
 show MH (OE G.plain n1 (wpAny_of_eq c2 (g prog w A.in1 _ s h))) λr s1 y=>?_
 cases r with
 | error e=>show y
 | ok fl=>
  cases fl with
  | ret obj=>
   show B9 (nx _ _ y) λhT ok z1=>Am z1 λO gi z=>?_;have m6:=G.init.lookup;have m7:=G.init.bind obj
   repeat (any_goals (first|assumption|wp_step))
   show MH (OE G.init.plain n2 (G.init.check _ _ _ _ _ _ _ _ hT ok (gi A.in1 _ s1 z))) λr2 s2 Y=>?_
   cases r2 with
   | error e=>show Y
   | ok a1=>
    cases a1 with
    | ret r=>
     obtain⟨rfl,q⟩:=Y
     repeat (any_goals (first|assumption|wp_step))
    | _=>show Y.elim
  | _=>show y.elim
def Nf {E:Bf}{Q:Bf}(g:MeetsIn prog w (Builtin.«dict.__init__» ⟨[.ref s.heap.objs.size,x],[]⟩) G)
  (h:G A.in1 (wants (λr s2=>r=.none/\Q (.ref s.heap.objs.size) s2) E) {s with heap:=s.heap.push {cls:=.type "dict",data:=.dict #[]}}):wpAny (model prog w) A (call (.type "dict") [x]) Q E s:=by
 show Sc (Q₁:=λobj s1=>obj=.ref s.heap.objs.size/\s1={s with heap:=s.heap.push {cls:=.type "dict",data:=.dict #[]}}) Ae3 (Vl x) (Ys x) entryD PySem.F.entry_dict_init (Tp x) ⟨rfl,rfl⟩ λobj s1 y=>?_;obtain⟨rfl,rfl⟩:=y;show A6 (Ac (JO _ rfl) rfl) (PySem.F.args_dict_init_2 _ _) (Aq G g h)
abbrev Hw (h:Heap)(z TI TO T:Addr)(f:Bool):Prop:=
 h.get? z=some {cls:=.type "zip",dict:=none,data:=.fields #[rawInt T,.bool f,.bool false,.ref TI,.ref TO],slots:=#[]}
section
variable {E:Bf}
def V4 {Q:Option Obj->Shared->Prop}(h:Q (s.heap.get? a) s):wpAny (model prog w) A (loadIfAlive a) Q E s:=λ_ _ _=>h
def U6 {f:Bool}{z TI TO T:Addr}{oT:Obj}{Q:Bool->Shared->Prop}(hz:Hw s.heap z TI TO T f)(G:s.heap.get? T=some oT)
  (k:∀h',Hw h' z TI TO T true->Heap.SameBut z s.heap h'->Q false {s with heap:=h'}):wpAny (model prog w) A (Builtin.SmallTypes.ownedTupleIsFree (.ref z)) Q E s:=by
 delta Builtin.SmallTypes.ownedTupleIsFree
 show JH (KR hz rfl (x:=rawInt T) rfl ?_)
 show wpAny _ _ (loadIfAlive (Int.toNat (T:Int)) >>= λ_=>_) _ _ _
 rw[Int.toNat_natCast];show JH (V4 ?_);rw[G]
 show wpAny _ _ (if(some oT).isNone=true then _ else(field (.ref z) 1 >>= λ_=>_)) _ _ _
 rw[JW (by simp)];show JH (KR hz rfl (x:=.bool f) rfl ?_);cases f
 .show wpAny _ _ (setField (.ref z) 1 (.bool true) >>= λ_=>_) _ _ _
  show JH (LM hz (by simp) λh' U O=>JK (k h' U O))
 .show JK (k s.heap hz (Heap.SameBut.refl _ _))
def Vh {b c f:Bool}{z TI TO T i1 i2 l1 l2:Addr}{n1 n2:Nat}{xs ys:Array Value}{x y:Value}{oT:Obj}{Q:Option Value->Shared->Prop}(D:ZipApart z TI TO i1 i2 l1 l2)
   (hz:Hw s.heap z TI TO T f)(hT:s.heap.get? T=some oT)(hI:IsPair s.heap TI (.ref i1) (.ref i2))(u1:SI b s.heap i1 l1 n1)(u2:SI c s.heap i2 l2 n2)(q1:SQ b s.heap l1 xs)(q2:SQ c s.heap l2 ys)(hx:xs[n1]?=some x)(hy:ys[n2]?=some y)
   (k:∀h',Hw h' z TI TO T true->SI b h' i1 l1 (n1+1)->SI c h' i2 l2 (n2+1)->IsPair h' s.heap.objs.size x y->h'.objs.size=s.heap.objs.size+1 ->
     (∀a o,a≠z->a≠i1->a≠i2->s.heap.get? a=some o->h'.get? a=some o)->Q (some (.ref s.heap.objs.size)) {s with heap:=h'}):wpAny (model prog w) A (pyNext (.ref z)) Q E s:=by
 have ty:s.TypeIs (.ref z) "zip":=(Ac hz rfl);unfold pyNext;show JH (NX (LI (name:=Str.ofString "__next__") ty NB (MJ NB ty F.entry_zip_next ?_ (F.args_zip_next_1 _))))
 show wpAny _ _ (field (.ref z) 2 >>= λ_=>_) _ _ _
 show JH (KR hz rfl (x:=.bool false) rfl ?_)
 show wpAny _ _ (field (.ref z) 3 >>= λ_=>_) _ _ _
 show JH (KR hz rfl (x:=.ref TI) rfl (JH (LY hI rfl ?_)))
 show wpAny _ _ (Builtin.SmallTypes.ownedTupleIsFree (.ref z) >>= λ_=>_) _ _ _
 show JH (U6 hz hT λh1 z1 s1=>?_);simp only[Bool.false_eq_true,if_false,List.forIn_toArray,List.forIn_cons,OQ];show JH (JH (JH (LL ?_)))
 show wpAny _ _ (Builtin.SmallTypes.nextOf (.ref i1) >>= λ_=>_) _ _ _
 show JH (Dz (u1.at λo e=>s1.extBut _ o D.i1z e) (q1.at λo e=>s1.extBut _ o D.l1z e) hx λh2 v1 s2=>JK (JK ?_));have a4:∀a o,a≠z->a≠i1->s.heap.get? a=some o->h2.get? a=some o:=λa o G O e=>s2.extBut _ o O (s1.extBut _ o G e);show JH (JH (LL ?_))
 show wpAny _ _ (Builtin.SmallTypes.nextOf (.ref i2) >>= λ_=>_) _ _ _
 show JH (Dz (u2.at λo e=>a4 _ o D.i2z D.i12.symm e) (q2.at λo e=>a4 _ o D.l2z D.l2i1 e) hy λU v2 Y=>JK (JK (JK ?_)))
 show wpAny _ _ (newTuple [x,y] >>= λ_=>_) _ _ _
 show JH (wpAny_newTuple (?_));have sz:U.objs.size=s.heap.objs.size:=by rw[Y.1,s2.1,s1.1]
 have a5:∀a o,a≠z->a≠i1->a≠i2->s.heap.get? a=some o->U.get? a=some o:=λa o G O a3 e=>Y.extBut _ o a3 (a4 a o G O e);have z3:Hw U z TI TO T true:=Y.extBut _ _ D.i2z.symm (s2.extBut _ _ D.i1z.symm z1);show JK (Ac rfl (JK ?_))
 show Q (some (.ref U.objs.size)) _
 rw[sz];show k _ (JI _ z3) (v1.at λo e=>JI _ (Y.extBut _ o D.i12 e)) (v2.at λo e=>JI _ e) ?_ (by rw[KZ,sz]) λa o G O a3 e=>JI _ (a5 a o G O a3 e);have:=JO U (o:={cls:=.type "tuple",data:=.seq #[x,y]}) rfl;rw[sz]at this;show this
def Wx {b c f:Bool}{z TI TO T i1 i2 l1 l2:Addr}{n1 n2:Nat}{xs ys:Array Value}{oT:Obj}{Q:Option Value->Shared->Prop}(hh:A.handled=none)(D:ZipApart z TI TO i1 i2 l1 l2)
  (hz:Hw s.heap z TI TO T f)(hT:s.heap.get? T=some oT)(hI:IsPair s.heap TI (.ref i1) (.ref i2))(u1:SI b s.heap i1 l1 n1)(u2:SI c s.heap i2 l2 n2)(q1:SQ b s.heap l1 xs)(q2:SQ c s.heap l2 ys)(a5:xs[n1]?=none\/ys[n2]?=none)
  (k:∀h',(∀a o,a≠z->a≠i1->a≠i2->s.heap.get? a=some o->h'.get? a=some o)->Q none {s with heap:=h'}):wpAny (model prog w) A (pyNext (.ref z)) Q E s:=by
 have ty:s.TypeIs (.ref z) "zip":=(Ac hz rfl);unfold pyNext;show JH (NX (LI (name:=Str.ofString "__next__") ty NB (MJ NB ty F.entry_zip_next ?_ (F.args_zip_next_1 _))))
 show wpAny _ _ (field (.ref z) 2 >>= λ_=>_) _ _ _
 show JH (KR hz rfl (x:=.bool false) rfl ?_)
 show wpAny _ _ (field (.ref z) 3 >>= λ_=>_) _ _ _
 show JH (KR hz rfl (x:=.ref TI) rfl (JH (LY hI rfl ?_)))
 show wpAny _ _ (Builtin.SmallTypes.ownedTupleIsFree (.ref z) >>= λ_=>_) _ _ _
 show JH (U6 hz hT λh1 z1 s1=>?_);simp only[Bool.false_eq_true,if_false,List.forIn_toArray,List.forIn_cons,OQ];show JH (JH (JH (LL ?_)))
 show wpAny _ _ (Builtin.SmallTypes.nextOf (.ref i1) >>= λ_=>_) _ _ _
 cases Y:xs[n1]? with
 | none=>
  show JH (Gn hh (u1.at λo e=>s1.extBut _ o D.i1z e) (q1.at λo e=>s1.extBut _ o D.l1z e) Y λh2 e s2 U=>JH (NP (T:="StopIteration") (b:=true) U OP (JK (k h2 λa o G O a3 y=>s2 _ o O (s1.extBut _ o G y)))))
 | some x=>
  have hy:ys[n2]?=none:=by rcases a5 with h|h;rw[Y]at h;cases h;show h
  show JH (Dz (u1.at λo e=>s1.extBut _ o D.i1z e) (q1.at λo e=>s1.extBut _ o D.l1z e) Y λh2 v1 s2=>JK (JK ?_));have a4:∀a o,a≠z->a≠i1->s.heap.get? a=some o->h2.get? a=some o:=λa o G O e=>s2.extBut _ o O (s1.extBut _ o G e);show JH (JH (LL ?_))
  show wpAny _ _ (Builtin.SmallTypes.nextOf (.ref i2) >>= λ_=>_) _ _ _
  show JH (Gn hh (u2.at λo e=>a4 _ o D.i2z D.i12.symm e) (q2.at λo e=>a4 _ o D.l2z D.l2i1 e) hy λh3 e s3 U=>JH (NP (T:="StopIteration") (b:=true) U OP (JK (k h3 λa o G O a3 y=>s3 _ o a3 (a4 a o G O y)))))
end
def Fh:entryFor table "dict.update.loop"=some Builtin.«dict.update.loop»:=entryFor_of_tree (by kernel_rfl)
structure ZSt (b c:Bool)(d z TI TO i1 i2 l1 l2:Addr)(i:Nat)(h:Heap):Prop where
 zip:(IsZip h z TI TO .none/\∃u v,IsPair h TO u v)\/∃(T:Addr) (f:Bool) (oT:Obj),Hw h z TI TO T f/\h.get? T=some oT/\T≠z/\T≠i1/\T≠i2/\T≠d
 ins:IsPair h TI (.ref i1) (.ref i2)
 fst:SI b h i1 l1 i
 snd:SI c h i2 l2 i
def Cl:plainId "dict.update.loop"=true:=by decide +kernel
section
variable {prog:Program}{w:World}{A:Around}{κ:Type}[DecidableEq κ]{knd:KeyKind prog w κ}{R:Result->Shared->Prop}
def W1 {b c:Bool}{d z TI TO i1 i2 l1 l2:Addr}{xs ys:Array Value}{ps:List (κ×Value)}(hh:A.handled=none)(D:ZipApart z TI TO i1 i2 l1 l2)(G:d∉[z,TI,TO,i1,i2,l1,l2])
  (aH:∀(j:Nat) (k:κ) (v:Value),ps[j]?=some (k,v)->∃x,xs[j]?=some x/\ys[j]?=some v/\knd.is k x=true)(a9:xs[ps.length]?=none\/ys[ps.length]?=none) :
  ∀(m i:Nat) (s:Shared) (kvs:List (κ×Value)),ps.length-i=m->i<=ps.length->ZSt b c d z TI TO i1 i2 l1 l2 i s.heap->s.heap.DictOf knd d kvs->SQ b s.heap l1 xs->SQ c s.heap l2 ys->kvs.length+ps.length<=sizeLine+i ->
   (∀h' tk,h'.DictOf knd d (merged kvs (ps.drop i))->(∀a o,a∉[z,TO,i1,i2,d]->s.heap.get? a=some o->h'.get? a=some o)->R (.ok (.ret .none)) {s with heap:=h',toks:=tk}) ->
   codeAny (model prog w) A (.builtin "dict.update.loop" ⟨[.ref d,.ref z,rawInt i,.none],[]⟩) R s:=by
 have dz:d≠z:=λe=>G (by simp[e]);have aA:d≠TI:=λe=>G (by simp[e]);have a8:d≠TO:=λe=>G (by simp[e]);have a6:d≠i1:=λe=>G (by simp[e]);have a7:d≠i2:=λe=>G (by simp[e]);have aB:d≠l1:=λe=>G (by simp[e]);have aC:d≠l2:=λe=>G (by simp[e]);intro m
 induction m with
 | zero=>
  intro i s kvs hm hi Z hd q1 q2 hsz k;have e:i=ps.length:=by omega
  subst e;show NI Fh ?_;rw[MU Cl _]
  show wpAny _ A.in1 (pyNext (.ref z) >>= λ_=>_) _ _ s
  have fin:∀h',(∀a o,a≠z->a≠TO->a≠i1->a≠i2->s.heap.get? a=some o->h'.get? a=some o) ->
    wpAny (model prog w) A.in1 (do Builtin.Dict.addKeywords d [];ret .none) (λfin s'=>match fin with|.done f=>R (.ok f) s'|.again c'=>c'.quiet=true/\codeAny (model prog w) A c' R s') (λe s'=>R (.error e) s') {s with heap:=h'}:=λh' up=>by
   show JH (JK (JK (k h' s.toks ?_ λa o ha e=>?_)))
   .rw [List.drop_length];show Da hd λo es ep ho r=>Ht o es ep (up _ _ dz a8 a6 a7 ho) r
   .simp only[JS,KI,MC,not_or]at ha;show up a o ha.1 ha.2.1 ha.2.2.1 ha.2.2.2.1 e
  rcases Z.zip with⟨hz,u,v,hO⟩|⟨T,f,oT,hz,Y,n1,n2,n3,n4⟩
  .show JH (Qv hh D hz Z.ins hO Z.fst Z.snd q1 q2 a9 λh' up=>fin h' up)
  .show JH (Wx hh D hz Y Z.ins Z.fst Z.snd q1 q2 a9 λh' up=>fin h' λa o a1 _ a3 a4 e=>up a o a1 a3 a4 e)
 | succ m ih=>
  intro i s kvs hm hi Z hd q1 q2 hsz k;have lt:i<ps.length:=by omega
  obtain⟨kk,v,hk⟩:∃kk v,ps[i]?=some (kk,v):=(Cs (KG lt));show Bp (aH i kk v hk) λx hx hy aF=>NI Fh ?_;rw[MU Cl _]
  show wpAny _ A.in1 (pyNext (.ref z) >>= λ_=>_) _ _ s
  have nT:∀{a:Addr} {o:Obj},s.heap.get? a=some o->s.heap.objs.size≠a:=λe=>KS (JL e);have nz:s.heap.objs.size≠z:=by
   rcases Z.zip with⟨hz,_⟩|⟨_,_,_,hz,_⟩
   .show nT hz
   .show nT hz
  have n1:s.heap.objs.size≠i1:=by show Am Z.fst.obj λo e _=>?_;show nT e
  have n2:s.heap.objs.size≠i2:=by show Am Z.snd.obj λo e _=>?_;show nT e
  have nd:s.heap.objs.size≠d:=by show Da (id hd) λo es ep e _=>?_;show nT e
  have step:∀h',(Hw h' z TI TO s.heap.objs.size false\/∃(T:Addr) (oT:Obj),Hw h' z TI TO T true/\h'.get? T=some oT/\T≠z/\T≠i1/\T≠i2/\T≠d)->SI b h' i1 l1 (i+1)->SI c h' i2 l2 (i+1)->IsPair h' s.heap.objs.size x v ->
    (∀a o,a≠z->a≠TO->a≠i1->a≠i2->s.heap.get? a=some o->h'.get? a=some o) ->
    wpAny (model prog w) A.in1 (do
     holding [.ref s.heap.objs.size] do
      let aJ ← (Builtin.Dict.pairItems (.ref s.heap.objs.size)).tryCatch λe=>do
       if !(← isInstance e (.type "TypeError"))then throw e
       rule "dict.update.element-no-sequence"
       raiseError "TypeError" s!"cannot convert dictionary update sequence element #{(i : Int)} to a sequence"
      match aJ with
      | [k,v]=>holding [k,v] (dictSet d k v)
      | l=>
       rule "dict.update.element-length"
       raiseError "ValueError" s!"dictionary update sequence element #{(i : Int)} has length {l.length}; 2 is required"
     again (.builtin "dict.update.loop" ⟨[.ref d,.ref z,rawInt ((i:Int)+1),.none],[]⟩)) (λfin s'=>match fin with|.done f=>R (.ok f) s'|.again c'=>c'.quiet=true/\codeAny (model prog w) A c' R s') (λe s'=>R (.error e) s') {s with heap:=h'}:=λh' zz u1 u2 O up=>by
   have aD:h'.DictOf knd d kvs:=by
    show Da hd λo es ep ho r=>Ht o es ep (up _ _ dz a8 a6 a7 ho) r
   show JH (LL (JH (wpAny_tryCatch ?_)))
   delta Builtin.Dict.pairItems
   show JH (OH (s:={s with heap:=h'}) (T:="tuple") (Ac O rfl) (?_));rw[KE (by decide)];show JH (LY (s:={s with heap:=h'}) O rfl (JK ?_))
   show wpAny _ _ (holding [x,v] (dictSet d x v)) _ _ _
   show LL (wpAny_dictSet_pairs (s:={s with heap:=h'}) (hsz:=by omega) aF aD λh2 d2 sb=>JK ⟨NY Cl _,?_⟩);have U:∀a o,a≠d->h'.get? a=some o->h2.get? a=some o:=λa o ha e=>sb.extBut a o ha e;have keep:∀a o,a≠z->a≠TO->a≠i1->a≠i2->a≠d->s.heap.get? a=some o->h2.get? a=some o:=λa o a1 a2 a3 a4 a5 e=>U a o a5 (up a o a1 a2 a3 a4 e);have ee:rawInt ((i:Int)+1)=rawInt ((i+1:Nat):Int):=by simp
   rw[ee];show ih (i+1) {s with heap:=h2,toks:=s.toks+1} (stored kvs kk v) (by omega) lt ⟨?_,keep _ _ D.TIz D.TITO D.TIi1 D.TIi2 aA.symm Z.ins,u1.at λo e=>U _ o a6.symm e,u2.at λo e=>U _ o a7.symm e⟩ d2 (q1.at λo e=>keep _ o D.l1z D.l1TO D.l1i1 D.l1i2 aB.symm e) (q2.at λo e=>keep _ o D.l2z D.l2TO D.l2i1 D.l2i2 aC.symm e) ?_ ?_
   .show .inr ?_
    rcases zz with zz|⟨T,oT,zz,Y,t1,t2,t3,t4⟩
    .show Qh _ false _ (U _ _ dz.symm zz) (U _ _ nd O) nz n1 n2 nd
    .show Qh T true oT (U _ _ dz.symm zz) (U _ _ t4 Y) t1 t2 t3 t4
   .have:=stored_length_le kvs kk v;omega
   .intro h3 tk aG aI;show k h3 tk ?_ λa o ha e=>aI a o ha ?_
    .have e1:ps.drop i=(kk,v)::ps.drop (i+1):=by
      rw[NF lt];rw[KG lt]at hk;rw[KC hk]
     rw[e1];show aG
    .simp only[JS,KI,MC,not_or]at ha;show keep a o ha.1 ha.2.1 ha.2.2.1 ha.2.2.2.1 ha.2.2.2.2 e
  rcases Z.zip with⟨hz,u,v',hO⟩|⟨T,f,oT,hz,Y,m1,m2,m3,m4⟩
  .show JH (N6 D hz Z.ins hO Z.fst Z.snd q1 q2 hx hy λh' z' _ u1 u2 O _ up=>step h' (.inl z') u1 u2 O up)
  .show JH (Vh D hz Y Z.ins Z.fst Z.snd q1 q2 hx hy λh' z' u1 u2 O _ up=>step h' (.inr (D5 T oT z' (up _ _ m1 m2 m3 Y) m1 m2 m3 m4)) u1 u2 O λa o a1 _ a3 a4 e=>up a o a1 a3 a4 e)
end
def Rr {prog:Program}{w:World}{κ:Type}[DecidableEq κ](knd:KeyKind prog w κ){b c:Bool}{d z TI TO i1 i2 l1 l2:Addr}(D:ZipApart z TI TO i1 i2 l1 l2)(Y:d∉[z,TI,TO,i1,i2,l1,l2]) :
  MeetsIn prog w (Builtin.«dict.__init__» ⟨[.ref d,.ref z],[]⟩) (λA R s=>A.handled=none/\∃(xs ys:Array Value) (ps:List (κ×Value)),(∀(j:Nat) (k:κ) (v:Value),ps[j]?=some (k,v)->∃x,xs[j]?=some x/\ys[j]?=some v/\knd.is k x=true)/\(xs[ps.length]?=none\/ys[ps.length]?=none) /\
   zBn b c z TI TO i1 i2 l1 l2 0 s.heap/\s.heap.DictOf knd d []/\SQ b s.heap l1 xs/\SQ c s.heap l2 ys/\ps.length<=sizeLine /\
   ∀h' tk,h'.DictOf knd d (merged [] ps)->(∀a o,a∉[z,TO,i1,i2,d]->s.heap.get? a=some o->h'.get? a=some o)->R (.ok (.ret .none)) {s with heap:=h',toks:=tk}):=
 λA R s hq=>by
  show D7 hq λO z1=>Zd z1 λxs ys ps a2 a4 z2 hd q1 z3=>B9 z3 λq2 hl k=>?_;obtain⟨hz,hI,⟨u,v,hO⟩,u1,u2⟩:=z2
  delta Builtin.«dict.__init__»
  show JH ?_
  delta Builtin.Dict.selfAndRest
  show JH (wpAny_notOrdered_dict hd.typeIs (?_))
  show wpAny _ _ (pure (d,[Value.ref z])) _ _ s
  show JK ?_
  show wpAny _ _ (Builtin.Dict.updateFrom "dict.__init__" d (.ref z) [] .none) _ _ s
  delta Builtin.Dict.updateFrom
  show JH (OH (T:="zip") (Ac hz rfl) (?_));rw[KE (by decide)];show JH (Ww hz O λh1 U k1=>?_);rw[KE (show(none:Option Value).isNone=true from rfl)];have G:∀{a:Addr},∀o,s.heap.get? a=some o->h1.get? a=some o:=λo e=>k1 _ o e;show JH (NU (JH (wpAny_pyIter_zip (s:={s with heap:=h1,toks:=U}) (G _ hz) (JK ⟨NY Cl _,?_⟩))));have a1:h1.DictOf knd d []:=by
   show Da hd λo es ep ho r=>Ht o es ep (G _ ho) r
  show W1 (knd:=knd) (b:=b) (c:=c) O D Y a2 a4 ps.length 0 {s with heap:=h1,toks:=U} [] (by simp) (LD _) ⟨.inl ⟨G _ hz,(Jm u v (G _ hO))⟩,G _ hI,u1.at G,u2.at G⟩ a1 (q1.at G) (q2.at G) (by simpa using hl) λh' tk hm up=>k h' tk (by simpa using hm) λa o ha e=>up a o ha (G _ e)
def Inv.turnedO {X:Cx}{pins:Dh}{σ:St}{H:Hp}{s:Shared}{h':Heap}{t':Nat}{fp:List Addr}{T:Addr}{O:HO}(I:Inv X pins σ H s)(f:∀b∈fp,Ff X pins H b)
  (k:∀b o,b∉fp->s.heap.get? b=some o->h'.get? b=some o)(U:s.heap.objs.size<=T)(new:AL X.prog X.w (upd H T O) h' T O):Inv X pins σ (upd H T O) {s with heap:=h',toks:=t'}:=by
 have hn:H T=none:=I.AJ.fresh U;have nL:X.env.locals∉fp:=λz=>(f _ z).2.1 rfl;show I.step (g':=s.gens) (d':=s.drawn) (ch:=fp) (λb G=>(C9 ((f b G).2.2.2.1) ((f b G).2.1) ((f b G).2.2.2.2.1) ((f b G).2.2.2.2.2))) (λb o _ _ hc e _=>k b o hc e) (λb o _ _ hc e _=>⟨o.slots,k b o hc e⟩)
  (λb o _ e n=>by rw[Ak (JP (KA (JL e) U))];show n) (λb o hc e=>⟨o,k b o hc e⟩)
  (λb ys e=>by rw[Ak (Aj e hn)];show e) (λb o u e=>by rw[Ak (Aj e hn)];show e) (λb ps e=>⟨#[],by rw[Ak (Aj e hn),e];simp⟩) (λm hm=>?_) (λb u e=>?_) I.bare
 .show Da hm λo es ep ho r=>Ht o es ep (k _ o nL ho) r
 .by_cases G:b=T
  .subst G;rw[Ag]at e;cases e;show new
  .rw [Ak G]at e;have Y:∀c v,H c=some v->c∉fp:=λc v q z=>by rw[(f c z).1]at q;cases q
   show(I.AJ b u e).CC (λc v hc q=>k c v ?_ q) (λc q=>by rw[Ak (Aj q hn)];show q) λc ys q=>by rw[Ak (Aj q hn)];show q
   rcases hc with z|z
   .rw [z];show Y b u e
   .show Y c _ z
theorem N5:∀{G:List Key} {ys:List V} {us vs:List Value},AF (G.map kV) us->AF ys vs->KV (G.zip ys) (G.zip vs)/\(∀(P:Program) (w:World) (j:Nat) (k:Key) (v:Value),(G.zip vs)[j]?=some (k,v)->∃x,us[j]?=some x/\vs[j]?=some v/\(B3 P w).is k x=true)
 | [],ys,us,vs,r1,r2=>⟨.nil,λP w j k v e=>by simp at e⟩
 | k::G,[],us,vs,r1,r2=>by
  cases r2;show⟨.nil,λP w j k v e=>by simp at e⟩
 | k::G,y::ys,us,vs,r1,r2=>by
  cases r1 with
  | cons h1 t1=>
   cases r2 with
   | cons h2 t2=>
    obtain⟨a,b⟩:=N5 t1 t2;show⟨.cons ⟨rfl,h2⟩ a,λP w j k' v e=>?_⟩
    cases j with
    | zero=>
     simp at e;obtain⟨rfl,rfl⟩:=e;show A8 (by simp) (by simp) (K8 h1)
    | succ j=>
     show Bp (b P w j k' v (by simpa using e)) λx O U Y=>Bc x (by simpa using O) (by simpa using U) Y
def Af0 (b c:Bool)(K:A3)(ta:TA):TE:=λσ H Q=>ta σ H λvs H1=>∃(l1 l2:Addr),vs=[.ref l1,.ref l2]/\(∃xs,EL b K H1 l1 xs)/\(∃ys,EL c K H1 l2 ys)/\∃(G:List Key) (ys:List V),EL b K H1 l1 (G.map kV)/\EL c K H1 l2 ys/\∀d,H1 d=none->Q (.ref d) (upd H1 d (.dK (Fc [] (G.zip ys))))
def Ab1 (hc:X.calm=true)(hg:Gl X "dict")(hm:X.mg "dict"=none)(a7:Gl X "zip")(a9:X.mg "zip"=none)(ha:PA X [x,y] ta)
  (h0:starEach [.Call (.Name "zip" p') [x,y] [] a4] X.env=[(false,eval (.Call (.Name "zip" p') [x,y] [] a4) X.env)]:=by rfl)(hs:starEach [x,y] X.env=[(false,eval x X.env),(false,eval y X.env)]:=by rfl)(aA:starEach [y] X.env=[(false,eval y X.env)]:=by rfl) :
  PE X (.Call (.Name "dict" p) [.Call (.Name "zip" p') [x,y] [] a4] [] pos) (Af0 b c X.K ta):=by
 intro pins s σ H Q I h;show Call_ (Hs I hg hm boot_dict (LN ?_ h0 rfl));rw[h0];show Calls.spliced_cons (AE (O1 (b:=b) (c:=c) (R:=λl1 l2 H1=>∃(O:List Key) (ys:List V),EL b X.K H1 l1 (O.map kV)/\EL c X.K H1 l2 ys/\∀d,H1 d=none->Q (.ref d) (upd H1 d (.dK (Fc [] (O.zip ys))))) a7 a9 ha hs aA I h) λv s1 hq=>?_);show Dl hq λz TI TO i1 i2 l1 z1=>Fs z1 λl2 H1 e Y D st f z2=>?_;obtain⟨fl,O,ys,qa,qb,q⟩:=z2;subst e;show Calls.spliced_nil (Bp (Y.sq qa) λus ra pa za=>Bp (Y.sq qb) λvs rb pb zb=>?_);obtain⟨a1,prs⟩:=N5 ra rb;have hh:X.A.handled=none:=Y.ok.hd hc;show Js (id st) λhz hI z1 u1 u2=>?_;obtain⟨u0,v0,hO⟩:=z1;have a2:∀{b:Bool} {l:Addr} {xs:Array Value},SQ b s1.heap l xs->@LT.lt Nat _ l s1.heap.objs.size:=fun {b l xs} q=>by
  cases b
  .show Am ((show s1.heap.IsTuple l xs from q)) λo e _=>JL e
  .show Am ((show s1.heap.IsList l xs from q)) λo e _=>JL e
 have aD:@LT.lt Nat _ i1 s1.heap.objs.size:=by show Am u1.obj λo e _=>?_;show JL e
 have aF:@LT.lt Nat _ i2 s1.heap.objs.size:=by show Am u2.obj λo e _=>?_;show JL e
 have aI:@LT.lt Nat _ z s1.heap.objs.size:=JL hz;have aG:@LT.lt Nat _ TI s1.heap.objs.size:=JL hI;have aH:@LT.lt Nat _ TO s1.heap.objs.size:=JL hO;have dn:s1.heap.objs.size∉[z,TI,TO,i1,i2,l1,l2]:=λhd=>by
  have aB:=a2 pa;have aC:=a2 pb;simp only[JS,KI,MC]at hd;have U:∀{a:Addr},@LT.lt Nat _ a s1.heap.objs.size->s1.heap.objs.size≠a:=λh=>KS h
  rcases hd with hd|hd|hd|hd|hd|hd|hd
  .show U aI hd
  .show U aG hd
  .show U aH hd
  .show U aD hd
  .show U aF hd
  .show U aB hd
  .show U aC hd
 have up:∀{a:Addr},∀o,s1.heap.get? a=some o->(s1.heap.push {cls:=.type "dict",data:=.dict #[]}).get? a=some o:=λo e=>JI _ e;have aL:=a1.length;have aJ:us.length=O.length:=by have:=ra.length;simpa using this.symm
 have aK:vs.length=ys.length:=rb.length.symm;have a5:O.length<=sizeLine:=by simpa using za
 show Nf (Rr (B3 X.prog X.w) (b:=b) (c:=c) D dn) ⟨hh,(Qh us.toArray vs.toArray (O.zip vs) (λj k v e=>?_) ?_ (Fq (up _ hz) (up _ hI) (Jm u0 v0 (up _ hO)) (u1.at up) (u2.at up)) (Heap.DictOf.new _) (pa.at up) (A6 (pb.at up) ?_ λh' tk a6 k=>⟨rfl,?_⟩))⟩
 .show Bp (prs X.prog X.w j k v e) λx e1 e2 e3=>Bc x (by simpa using e1) (by simpa using e2) e3
 .rw [List.length_zip]
  rcases Nat.le_total O.length vs.length with hl|hl
  .show .inl (by simp;omega)
  .show .inr (by simp;omega)
 .rw [List.length_zip];show JU (OM ..) a5
 .have big:(s1.heap.objs.size==sysModules)=false:=beq_eq_false_iff_ne.mpr (ML (JP Y.big));have a8:(Fc [] (O.zip ys)).length<=sizeLine:=by
   have e1:=Fg (O.zip ys) [];have e2:(O.zip ys).length<=O.length:=by rw[List.length_zip];show OM ..
   simp at e1;omega
  have I2:Inv X pins σ (upd H1 s1.heap.objs.size (.dK (Fc [] (O.zip ys)))) {s1 with heap:=h',toks:=tk}:=by
   show Y.turnedO (fp:=[i1,i2,TI,TO,z]) f (λa o ha e=>k a o (λG=>?_) (up _ e)) (JN _) (M6 a8 big (a1.merge .nil) a6);simp only[JS,KI,MC]at ha G
   rcases G with G|G|G|G|G
   .show ha (by simp[G])
   .show ha (by simp[G])
   .show ha (by simp[G])
   .show ha (by simp[G])
   .show JP (JL e) G
  show Aw (.ref s1.heap.objs.size) _ I2 rfl (q _ (Y.AJ.fresh (JN _)))
def Z1 (hc:X.calm=true)(Y:Gl X "dict")(hm:X.mg "dict"=none)(a1:Gl X "zip")(a2:X.mg "zip"=none)(ha:QA X [x,y] ta)
  (U:starEach [.Call (.Name "zip" G) [x,y] [] O] X.env=[(false,eval (.Call (.Name "zip" G) [x,y] [] O) X.env)]:=by rfl)(hs:starEach [x,y] X.env=[(false,eval x X.env),(false,eval y X.env)]:=by rfl)(a4:starEach [y] X.env=[(false,eval y X.env)]:=by rfl) :
  QE X (.Call (.Name "dict" p) [.Call (.Name "zip" G) [x,y] [] O] [] pos) (Af0 b c X.K ta):=⟨Ab1 hc Y hm a1 a2 ha.go U hs a4⟩
structure EO (K:A3)(w:World)(a:Addr)(kvs:List (Str×V)):Prop where
 lk:∃es n,K.lookup a=some ⟨.type "dict",none,.dict es n,#[]⟩/\PySem.W.KeysLit w.params es.toList
 lo:(a==sysModules)=false
 at_:∀x v,(x,v)∈kvs->∃u,RelV v u/\PySem.W.nsIn K a x=some (some u)
def Ae8 (a:Addr)(kvs:List (Str×V))(ty:TE):TE:=λσ H Q=>ty σ H λy H1=>∃x v,y=.str x/\(x,v)∈kvs/\Q v H1
section
def Aa8 (T:EO X.K X.w a kvs)(Y:Gl X x)(hm:X.mg x=some (.ref a))(hi:PE X i ty)(hs:Zm i)(a1:Di x:=by decide):PE X (.Subscript (.Name x p) i pos) (Ae8 a kvs ty):=by
 intro pins s σ H Q I h;show Uf PySem.F.slot_dict_getitem.lookup hs (Fv I Y hm (AE (hi pins s σ H _ I h) λiv s2 ⟨y,H2,G,ry,z,v,U,hz,q⟩=>?_) a1);subst U;obtain⟨t,rfl⟩:=(show ∃t,iv=Value.str z t from ry);show B5 T.lk λes n lk kl=>Am (T.at_ z v hz) λu ru hu=>?_;have O:=PySem.W.mapOf_K (prog:=X.prog) G.CQ lk kl;show⟨O.typeIs,wpAny_getItem_of (strKind_is X.prog X.w z t) O (OR lk hu) (Aw v H2 (G.tok _) ru q)⟩
def Lr (T:EO X.K X.w a kvs)(G:Gl X x)(hm:X.mg x=some (.ref a))(hi:QE X i ty)(hs:Zm i)(O:Di x:=by decide):QE X (.Subscript (.Name x p) i pos) (Ae8 a kvs ty):=⟨Aa8 T G hm hi.go hs O⟩
end
def tCallL (i:Nat)(M:Addr->Prop)(R:Addr->Sp)(E:XK)(t:TA):TE:=λσ H Q=>∃f,σ[i]?=some (some (.ref f))/\M f/\t σ H λvs H1=>R f vs H1 Q E
def Yj {M:Addr->Prop}(F:∀f,M f->∃fd,AD X.prog X.w X.K X.mg X.base CX k f fd ps (R f)/\PySem.W.keepIn X.K (.ref f)=true/\Binds X.K fd ps [])
  (hx:Ev CX X E)(hr:AV k X.A)(hN:X.N[i]?=some x)(hv:Vis X.env.scope x)(ha:PA X (e::es) t)(a2:Di x:=by decide)(a1:(x==("__classdict__":Str))=false:=by decide)
  (he:Hc X e es:=by rfl)(a4:Hx X pos es:=by rfl):PE X (.Call (.Name x p) (e::es) [] pos) (tCallL i M R E t):=by
 intro pins s σ H Q I h;obtain⟨f,hf,m,h⟩:=h;obtain⟨fd,U,hk,hb⟩:=F f m;show MS (AE (Pw hN hv a2 a1 pins s σ H (λv H1=>v=.ref f/\H1=H) I ⟨_,hf,rfl,rfl⟩) λu s1 ⟨v,H1,G,rv,ev,Y⟩=>?_);subst ev Y;cases(show u=Value.ref f from rv);show NS (h₀:=X.base) G.ok.mod.JB hk (AE (ha pos pins s1 σ _ _ G h) λus s2 ⟨vs,H2,O,r,q⟩=>⟨O.CQ,Pp (dvs:=[]) (ds:=[]) U hr hb .nil hx O r (by simpa using q)⟩) he a4
def CI (H H':Hp):Prop:=∀b xs,H b=some (.tup xs)->H' b=some (.tup xs)
def AA.AH (s:AA H H'):CI H H':=λb xs h=>s b _ h
def CI.trans (a:CI H H1)(b:CI H1 H2):CI H H2:=λc xs h=>b c xs (a c xs h)
section
variable {X:Cx}
end
section
def Pt (G:X.A.units+1<cLine)(hi:QE X i ty)(ho:QE X o O)(hm:behindInMarks .In o=false:=by rfl):QE X (.Compare i [.In] [o] pos) (tDIn ty O):=⟨S8 (Yl G hi.go ho.go) hm⟩
def qt_din (G:X.A.units+1<cLine)(hi:QE X i ty)(ho:QE X o O)(hm:behindInMarks .In o=false:=by rfl):QT X (.Compare i [.In] [o] pos) (tB (tDIn ty O)):=⟨Pu (Yl G hi.go ho.go) hm⟩
def Oc (G:X.A.units+1<cLine)(hi:QE X i ty)(ho:QE X o O)(hm:behindInMarks .NotIn o=false:=by rfl):QE X (.Compare i [.NotIn] [o] pos) (Pe ty O):=⟨S8 (Os G hi.go ho.go) hm⟩
end
def Zg {z:Str}{D:Addr}{g:TG}{tt:TT}{te:TE}{σ0:St}{H1:Hp}{Q:Hp->Prop}(Pv:Nat->List V->St->Hp->Prop)(hx:z.cps.size<=sizeLine)(h0:Pv 0 [] σ0 (upd H1 D (.lst [])))
   (hl:∀i ys σ H,i<=z.cps.size->Pv i ys σ H->H D=some (.lst ys)/\ys.length<=i)
   (hs:∀(i:Nat) c ys σ H,z.cps[i]?=some c->Pv i ys σ H->g (.str ⟨#[c]⟩) σ H λσ3 Y=>tt σ3 Y λok O=>if ok=true then te σ3 O λy G=>G D=some (.lst ys)/\Pv (i+1) (ys++[y]) σ3 (upd G D (.lst (ys++[y])))else Pv (i+1) ys σ3 O)
   (hd:∀ys σ H,Pv z.cps.size ys σ H->Q H) :
   ∃W:Nat->Nat->St->Hp->Prop,(∃m,W 0 m σ0 (upd H1 D (.lst [])))/\∀i m σ' H',W i m σ' H' ->
     ((Its z).stop i H'/\Q H')\/((Its z).go i H'/\∃(Ay:V->St->Hp->Prop) (An:St->Hp->Prop),(∀y σ3 G,Ay y σ3 G->∃ys,G D=some (.lst ys)/\ys.length<sizeLine/\∃U,U<m/\W (i+1) U σ3 (upd G D (.lst (ys++[y])))) /\
       (∀σ3 O,An σ3 O->∃U,U<m/\W (i+1) U σ3 O) /\
       ∀x H2,(Its z).DH i H' x H2->g x σ' H2 λσ3 Y=>tt σ3 Y λok O=>if ok=true then te σ3 O (λy G=>Ay y σ3 G)else An σ3 O):=by
 show Aq (λi m σ H=>m=z.cps.size-i/\i<=z.cps.size/\∃ys,Pv i ys σ H) (Bc z.cps.size (by simp) (LD _) ⟨[],h0⟩) ?_;rintro i m σ H ⟨rfl,hi,ys,p⟩;obtain⟨hy,a2⟩:=hl i ys σ H hi p;by_cases a1:i<z.cps.size
 . show .inr ⟨a1,(Aw (λy σ3 G=>G D=some (.lst ys)/\Pv (i+1) (ys++[y]) σ3 (upd G D (.lst (ys++[y])))) (λσ3 O=>Pv (i+1) ys σ3 O)
     (λy σ3 G ⟨e,p'⟩=>(Bc ys e (by omega) (Ep (z.cps.size-(i+1)) (by omega) rfl a1 ⟨_,p'⟩))) (λσ3 O p'=>(Ep (z.cps.size-(i+1)) (by omega) rfl a1 ⟨_,p'⟩)) λx H' y=>?_)⟩
   show D7 y λe z1=>Am z1 λc hc ex=>?_;subst e;subst ex;show hs i c ys σ H' hc p
 . have:i=z.cps.size:=by omega
   subst this;show .inl ⟨JN _,hd ys σ H p⟩
section
def Ie:QE X (.Dict [] [] pos) Xf:=⟨Yf⟩
def Ft (O:X.A.units+1<cLine)(ho:QE X o Y)(hi:QE X i ty)(U:QE X G tv)(hs:swapsWith G (some (.Subscript o i a1)) pos.line X.env=pure false):QS X (.Assign [.Subscript o i a1] G pos) (Af7 Y ty tv):=⟨Z9 O ho.go hi.go U.go hs⟩
def Ic (O:QE X e ta)(G:attributeBase e f X.env (eval e X.env)=eval e X.env):QE X (.Attribute e f pos) (Xe X.K ta f):=⟨pe_fld O.go G⟩
def Em (ha:QE X o ta)(O:QE X G U)(hs:swapsWith G (some (.Attribute o f Y)) pos.line X.env=pure false):QS X (.Assign [.Attribute o f Y] G pos) (sFld X.K ta U f):=⟨ps_fld ha.go O.go hs⟩
def J6 (M:Mk X.K C g)(F:AD X.prog X.w X.K X.mg X.base CX k g fd ps sp)(Y:AV (k+1) X.A)(U:Gl X x)(hm:X.mg x=some (.ref C))(G:Binds X.K fd ps ds)(hd:AF dvs ds)(hx:Ev CX X E)
  (ha:QA X (e::es) t)(a1:Di x:=by decide)(O:Hc X e es:=by rfl)(a2:Hx X pos es:=by rfl):QE X (.Call (.Name x p) (e::es) [] pos) (Ae7 C sp dvs E t):=⟨Aa7 M F Y U hm G hd hx ha.go a1 O a2⟩
end
def tCallH (i:Nat)(M:Str->Addr->Prop)(R:Str->Sp)(E:XK)(t:TA):TE:=λσ H Q=>∃h f,σ[i]?=some (some (.ref f))/\M h f/\t σ H λvs H1=>R h vs H1 Q E
def X1 {M:Str->Addr->Prop}(F:∀h f,M h f->∃fd,AD X.prog X.w X.K X.mg X.base CX k f fd ps (R h)/\PySem.W.keepIn X.K (.ref f)=true/\Binds X.K fd ps [])
  (hx:Ev CX X E)(hr:AV k X.A)(G:X.N[i]?=some x)(hv:Vis X.env.scope x)(ha:QA X (e::es) t)(a2:Di x:=by decide)(a1:(x==("__classdict__":Str))=false:=by decide)
  (U:Hc X e es:=by rfl)(a4:Hx X pos es:=by rfl):QE X (.Call (.Name x p) (e::es) [] pos) (tCallH i M R E t):=by
 show⟨λpins s σ H Q I h=>?_⟩;obtain⟨g,f,Y,m,h⟩:=h;show Yj (M:=λb=>b=f) (R:=λ_=>R g) (λb O=>by subst O;show F g _ m) hx hr G hv ha.go a2 a1 U a4 pins s σ H Q I ⟨f,Y,rfl,h⟩
def Gx (U:QE X o ta)(c:HG X.K C)(hm:EQ X.K C m f)(F:AD X.prog X.w X.K X.mg X.base CX k f fd ps sp)(Y:AV k X.A)(O:Binds X.K fd ps ds)(hd:AF dvs ds)(hx:Ev CX X E)(ha:QA X (e::es) t)
   (a2:Hc X e es:=by rfl)(a1:Hx X pos es:=by rfl)
   (ht:eval (.Call (.Attribute o m apos) (e::es) [] pos) X.env=(do
     let G ← eval o X.env
     standAt apos.atName
     let (f,first) ← holding [G] (getMethod G m pl)
     callWith pos f first (backTo pos (starEach (e::es) X.env)) (backToKw pos (keywordEach [] X.env))):=by rfl) :
   QE X (.Call (.Attribute o m apos) (e::es) [] pos) (Ue C m sp dvs E ta t):=⟨Aa6 U.go c hm F Y O hd hx ha.go a2 a1 ht⟩
def Ca (K:A3)(U:QE X e ta)(O:attributeBase e f X.env (eval e X.env)=eval e X.env)(G:X.K=K:=by rfl):QE X (.Attribute e f pos) (Xe K ta f):=by
 subst G;show Ic U O
end L2
namespace L2
open PySem PySem.Spec PyProof.Rows PySem.W
noncomputable def tailV:List Value:=[.type "ValueError",.type "Exception",.type "BaseException",.type "object"]
noncomputable def tailE:List Value:=[.type "Exception",.type "BaseException",.type "object"]
inductive BF:List Value->Prop
 | v:BF tailV
 | e:BF tailE
 | own {c:Addr} {l:List Value}:BF l->BF (.ref c::l)
def BF.has (h:BF l):l.contains (.type "object")=true:=by
 induction h with
 | v=>decide
 | e=>decide
 | own _ G=>rw[List.contains_cons,G,Bool.or_true]
def BF.ne (h:BF l):l.isEmpty=false:=by
 cases h<;>rfl
def BF.passes (h:BF l)(self:Value):refuseLoop self "__setattr__" l=pure ():=by
 induction h with
 | v=>kernel_rfl
 | e=>kernel_rfl
 | own _ G=>rw[refuseLoop_ref];show G
def DictAt (h:Heap)(e:Addr)(dx:Option Addr):Prop:=∃o,h.get? e=some o/\o.dict=dx
section
variable {M:Model}{A:Around}{E:Bf}{s:Shared}{env:Env}{outer:List Env}{L e:Addr}{cls:Value}
def Mz (f:Array Value->Array Value)(o:Obj):(o.mapFields f).dict=o.dict:=by
 obtain⟨c,d,G,sl⟩:=o;cases G<;>rfl
structure Made2 (fr:List Addr)(e:Addr)(cls:Value)(dx:Option Addr)(h h':Heap)(T':Addr):Prop where
 rc:Rec h' e cls (some T')
 da:DictAt h' e dx
 new:h.get? T'=none
 keep:∀b o,h.get? b=some o->b∉fr->b≠e->h'.get? b=some o
 slot:∀b o,h.get? b=some o->b∈fr->b≠e->∃sl,h'.get? b=some {o with slots:=sl}
def Zb {Q:Ju}(hA:A.frames=some (env::outer))(hL:env.frame=some L)(hF:s.heap.FunFrames B (env::outer))(hx:s.heap.get? e=some G)(Y:G.data=.fields vs)(hz:1<vs.size)
  (k:∀h' T',Made2 (CP (env::outer)) e G.cls G.dict s.heap h' T'->Q () {s with heap:=h'}) :
  wpAny M A (do let x ← frameOf env;let pl ← entryPlaceOf L aA;let y ← EntryCells.newEntry hd x .none (rawInt L) .none pl;setField (.ref e) 1 y) (λ_ s2=>wpAny M A (setFlight (.ref e) none) Q E s2) E s:=by
 show JH (wpAny_frameOf_fun hA hF hL λh1 U=>JH (wpAny_entryPlaceOf λpl ip=>?_));have nf:e∉CP (env::outer):=λz=>by
  show D7 (hF.mem z) λ_ z1=>Am z1 λo q1 O=>?_;rw[hx]at q1;cases q1;show O vs Y
 unfold EntryCells.newEntry newFields;show JH (MD ?_ (ip.sizeOk5 _ _ _ _ _));generalize a5:({cls:=.type "traceback",dict:=none,data:=.fields ([hd,.ref L,.none,rawInt L,.none]++(if pl.isEmpty then List.replicate 6 Value.none else pl)).toArray}:Obj)=to;have a6:h1.get? e=some G:=(U.2.1 e nf).trans hx;have a7:=JI (h:=h1) to a6;show OO a7 Y hz ?_;have ne:h1.objs.size≠e:=KS (JL a6);have a2:=MT Y (·.setIfInBounds 1 (Value.ref h1.objs.size));have a8:=LV (Obj.mapFields (·.setIfInBounds 1 (Value.ref h1.objs.size))) a7 (MP a2);have a1:to.data=.fields ([hd,.ref L,.none,rawInt L,.none]++(if pl.isEmpty then List.replicate 6 Value.none else pl)).toArray:=by rw[← a5]
 have a4:=(KW (h1.push to) (Obj.mapFields (·.setIfInBounds 1 (Value.ref h1.objs.size))) (ML ne)).trans (JO h1 (o:=to) (by rw[← a5];rfl));unfold setFlight;show JH (KR a8 a2 (x:=.ref h1.objs.size) (by simp[hz]) ?_);rw[KE (show(Value.ref h1.objs.size !=Value.none)=true by simp)];show OO a4 a1 (by simp only[JZ,JV,KN,List.length_nil]<;>omega) (k _ h1.objs.size ?_);have CC:∀b o,b≠e->h1.get? b=some o->(((h1.push to).update e (Obj.mapFields (·.setIfInBounds 1 (Value.ref h1.objs.size)))).update h1.objs.size (Obj.mapFields (·.setIfInBounds 3 ((none:Option Addr).elim Value.none λf=>rawInt f)))).get? b=some o:=λb o n q=>by
  rw[KW _ _ (KS (JL q)),KW _ _ (ML n)];show JI _ q
 have a9:(((h1.push to).update e (Obj.mapFields (·.setIfInBounds 1 (Value.ref h1.objs.size)))).update h1.objs.size (Obj.mapFields (·.setIfInBounds 3 ((none:Option Addr).elim Value.none λf=>rawInt f)))).get? e=some (G.mapFields (·.setIfInBounds 1 (Value.ref h1.objs.size))):=by
  rw[KW _ _ ne];show a8
 show⟨(Yy a9 (Obj.cls_mapFields _ _) a2 (by simp[hz]) ne (A6 (LV _ a4 (MP (MT a1 _))) (MT a1 _) ?_)),(Ac a9 (Mz _ _)),?_,λb o q n1 n2=>CC b o n2 ((U.2.1 b n1).trans q),λb o q m n=>?_⟩
 .simp
 .cases q:s.heap.get? h1.objs.size with
  | none=>rfl
  | some o=>
   by_cases m:h1.objs.size∈CP (env::outer)
   .obtain⟨sl,O⟩:=U.2.2 _ o q;show absurd (JL O) (LJ _)
   .show absurd (JL ((U.2.1 _ m).trans q)) (LJ _)
 .obtain⟨sl,O⟩:=U.2.2 b o q;show⟨sl,CC b _ n O⟩
def Zt (hF:s.heap.FunFrames B (env::outer))(r:Rec s.heap e cls T):e∉CP (env::outer):=λz=>by
 show D7 (hF.mem z) λ_ z1=>Am z1 λo G Y=>?_
 cases T with
 | none=>show Fw r λoe vs O _ U _=>?_;rw[O]at G;cases G;show Y vs U
 | some T=>show Qm r λoe vs _ _ O _ U _=>?_;rw[O]at G;cases G;show Y vs U
def Kz {Q:Ju}(hA:A.frames=some (env::outer))(hL:env.frame=some L)(hF:s.heap.FunFrames B (env::outer))(r:Rec s.heap e cls T)(da:DictAt s.heap e dx)
  (k:∀h' T',Noted (env::outer) e cls T s.heap h' T'->DictAt h' e dx->Q () {s with heap:=h'}):wpAny M A (noteFrame (.ref e) env) (λ_ s2=>wpAny M A (setFlight (.ref e) none) Q E s2) E s:=by
 have a2:=Zt hF r;show Am da λo1 d1 z1=>?_;subst z1
 cases T with
 | none=>
  show Fw r λoe vs G z1 O U=>?_;subst z1;rw[G]at d1;cases d1
  show wpAny M A (noteFrame (.ref e) env) _ E s
  unfold noteFrame;simp only[hL];show JH (KR G O U ?_);rw[JW (by decide)];show Zb hA hL hF G O (Array.getElem?_eq_some_iff.mp U).1 λh' T' m=>k h' T' ⟨m.rc,.inl m.new,λb o q n1 n2 _=>m.keep b o q n1 n2,λb o q n=>m.slot b o q n λz=>a2 (z▸n)⟩ m.da
 | some T=>
  show K3 r λoe vs oT ts G z1 O U g5 z2=>B9 z2 λY g7 g8=>?_;subst z1;rw[G]at d1;cases d1
  show wpAny M A (noteFrame (.ref e) env) _ E s
  unfold noteFrame;simp only[hL];show JH (KR G O U ?_);rw[KE (show(Value.ref T !=Value.none)=true by simp)];show JH (KR Y g7 g8 ?_);rw[JW (show ¬(Value.none==rawInt L)=true by simp[rawInt])];show JH (OO Y g7 (Array.getElem?_eq_some_iff.mp g8).1 ?_);have a1:∀b,b≠T->(s.heap.update T (Obj.mapFields (·.setIfInBounds 3 Value.none))).get? b=s.heap.get? b:=λb hb=>KW _ _ (ML hb);have self:=LV (h:=s.heap) (Obj.mapFields (·.setIfInBounds 3 Value.none)) Y (MP (MT g7 _));have nT:∀b o,s.heap.get? b=some o->(∀zs,o.data≠.fields zs)->b≠T:=λb o q hz z=>by
   rw[z,Y]at q;cases q;show hz ts g7
  show Zb hA hL (hF.of_keeps λb o q hz=>(Aq o ((a1 b (nT b o q hz)).trans q) rfl)) ((a1 e (ML g5)).trans G) O (Array.getElem?_eq_some_iff.mp U).1 λh' T' m=>k h' T' ⟨m.rc,.inl ?_,λb o q n1 n2 n3=>?_,λb o q n=>?_⟩ m.da
  .by_cases z:T'=T
   .have:=m.new;rw[z]at this;show absurd (self.symm.trans this) (by simp)
   .show (a1 T' z).symm.trans m.new
  .show m.keep b o ((a1 b λz=>n3 (by rw[z])).trans q) n1 n2
  .have hb:b≠T:=λz=>by
    show D7 (hF.mem n) λ_ z1=>Am z1 λo' q1 q2=>?_;rw[z,Y]at q1;cases q1;show q2 ts g7
   show m.slot b o ((a1 b hb).trans q) n λz=>a2 (z▸n)
end
end L2
namespace L2
open PySem PySem.Spec PyProof.Rows PySem.W Builtin Builtin.ObjectAttr
def XD (a:Addr)(cls:Value)(dx:Option Addr)(h:Heap):Prop:=∃o vs,h.get? a=some o/\o.cls=cls/\o.data=.fields vs/\o.dict=dx
def XN (a:Addr)(cls:Value)(dx:Option Addr)(h:Heap):Prop:=∃o vs,h.get? a=some o/\o.cls=cls/\o.data=.fields vs/\o.dict=dx/\vs[1]?=some .none
def XD.ok (x:XD a cls dx h):AL P w H h a (.ext (XD a cls dx)):=by
 show Fw x λo vs e c d z=>A6 (Br o vs e c d z) ⟨o,e⟩ λh1 h2 ⟨o,vs,e,c,d,z⟩ k=>(Br o vs (k o e) c d z)
def XN.ok (x:XN a cls dx h):AL P w H h a (.ext (XN a cls dx)):=by
 show Fw x λo vs e c d z=>A6 (Br o vs e c d z) ⟨o,e⟩ λh1 h2 ⟨o,vs,e,c,d,z⟩ k=>(Br o vs (k o e) c d z)
structure XMk (K:Frag)(C:Addr):Prop where
 ex:∃cd,clsIn K C=some cd/\BF cd.mro/\cd.hasDict=true
 sa:findIn K (.ref C) "__setattr__"=some (some (.builtin "object.__setattr__"))
section
variable {prog:Program}{w:World}{A:Around}{E:Bf}{s:Shared}{K:Frag}{x C:Addr}{name:Str}{v:Value}{o:Obj}{vs:Array Value}
def xinst (O:s.heap.get? x=some o)(hc:o.cls=.ref C)(G:o.data=.fields vs)(hd:o.dict=none):InstAt s.heap x o C none:=by
 show⟨O,hc,?_,by rw[hd];trivial⟩;unfold notCls;rw[G]
def W0 (U:s.heap.get? x=some o)(hc:o.cls=.ref C)(O:o.data=.fields vs)(hd:o.dict=some dx)(G:s.heap.get? dx=some od):InstAt s.heap x o C (some od):=by
 show⟨U,hc,?_,by rw[hd];show G⟩;unfold notCls;rw[O]
def Qw {R:Result->Shared->Prop}(X:K.In s.heap)(I:InstAt s.heap x o C od)(c:XMk K C)(U:findIn K (.ref C) name=some none)
  (h:wpAny (model prog w) A.in1 (storeInOwnDict (.ref x) (.ref C) (.str name tk) name v false) (λfin s'=>match fin with|.done f=>R (.ok f) s'|.again c'=>c'.quiet=true/\codeAny (model prog w) A c' R s') (λe s'=>R (.error e) s') s) :
  codeAny (model prog w) A (.call (.builtin "object.__setattr__") ⟨[.ref x,.str name tk,v],[]⟩) R s:=by
 have G:=PySem.F.store_object;show Bp c.ex λcd hc O _=>?_;have sub:Looks (model prog w) s.heap (isInstance (.ref x) (.type "object")) true:=I.type.andThen (looks_mroIn X (by unfold mroIn;rw[hc,Option.bind_some,JW (by rw[O.ne];decide),O.has]));show OE G.slot.plain G.entry (@check_slot (model prog w) _ _ s "object.__setattr__" "object" "__setattr__" (.ref x) [.str name tk,v] [] _ G.kind G.split sub (G.args (.ref x) (.str name tk) v) ?_);have hm:Looks (model prog w) s.heap (mroOf (.ref C)) cd.mro:=(looks_clsIn X hc).andThen .now;rw[osa_eq,refuse_eq];show JH (JH (I.type.here (JH (hm.here ?_))));rw[O.passes];show JK (JH (I.type.here (JH ((looks_findIn X U).here (h)))))
def xset0 {Q:Ju}(X:K.In s.heap)(c:XMk K C)(no:findIn K (.ref C) name=some none)(G:s.heap.get? x=some o)(hc:o.cls=.ref C)(O:o.data=.fields vs)(hd:o.dict=none)
   (h:∀h' dx,s.heap.get? dx=none->dx≠x->h'.get? x=some {o with dict:=some dx}->h'.Ns1 dx (λy=>if y=name then some v else none)->(∀b U,b≠x->s.heap.get? b=some U->h'.get? b=some U) ->
     Q () {s with heap:=h',toks:=s.toks+2}):wpAny (model prog w) A (setAttr (.ref x) name v) Q E s:=by
 have I:=xinst G hc O hd;show set_plain X I c.sa (Qw (s:={s with toks:=s.toks+1}) X I c no (Bp c.ex λcd a5 _ a9=>?_));have Y:x≠s.heap.objs.size:=JP (JL G);unfold storeInOwnDict ownDictForStores instanceDict;show JH (JK (JH ?_))
 show wpAny _ _ (do let o ← loadPart x (some headPart);_) _ _ _
 show JH (wpAny_loadPart G ?_);rw[hc];show JH ((looks_clsIn (M:=model prog w) (h:=s.heap) X a5).here (s:={s with toks:=s.toks+1}) ?_);rw[a9,hd,O];rw[JW (by decide)]
 show wpAny _ _ (if(!true||!typeHasDict (Value.ref C))=true then pure none else do let d ← alloc {cls:=Value.type "dict",data:=Data.dict #[]};update x λo=>{o with dict:=some d};dictMade (Value.ref C) x d) _ _ _
 rw[JW (by simp[typeHasDict])];have a2:(s.heap.push {cls:=.type "dict",data:=.dict #[]}).get? x=some o:=JI _ G;show JH (wpAny_alloc' (JH (wpAny_update' a2 (JK ?_))));have hf:Obj.isFreed {o with dict:=some s.heap.objs.size}=false:=MP O;have a8:=LV (h:=s.heap.push {cls:=.type "dict",data:=.dict #[]}) (λo=>{o with dict:=some s.heap.objs.size}) a2 hf;have hD:((s.heap.push {cls:=.type "dict",data:=.dict #[]}).update x λo=>{o with dict:=some s.heap.objs.size}).get? s.heap.objs.size=some {cls:=.type "dict",data:=.dict #[]}:=
   (KW _ _ Y).trans (JO _ rfl)
 have hN:((s.heap.push {cls:=.type "dict",data:=.dict #[]}).update x λo=>{o with dict:=some s.heap.objs.size}).Ns s.heap.objs.size (λ_=>none):=(Cr _ (#[]) _ hD rfl (λe he=>absurd he (by simp)) λ_=>rfl)
 show wpAny _ _ (storeInDict s.heap.objs.size (.str name s.toks) name v) _ _ _
 unfold storeInDict newKeyGuard;show JH (JK (JH (wpAny_nsSet1 (Heap.Ns1.of_empty hN) λh' a1 hs=>Gp (a1.count (Within.cons name v Within.nil)) λoD aB aA a7 a6 a4=>?_)));show JH (wpAny_lookBehind a7 (by rw[a6];show pastItsLine_dict (JU a4 (by rw[KN,List.length_nil,NJ];omega))) (JK (h h' s.heap.objs.size (OA (JN _)) (ML Y) ((hs.2 x Y).trans a8) a1 λb U hb q=>?_)));show(hs.2 b (JP (JL q))).trans ((KW _ _ (ML hb)).trans (JI _ q))
def xset1 {Q:Ju}(X:K.In s.heap)(c:XMk K C)(no:findIn K (.ref C) name=some none)(O:s.heap.get? x=some o)(hc:o.cls=.ref C)(Y:o.data=.fields vs)(hd:o.dict=some dx)
  (hn:s.heap.Ns1 dx mA)(hw:PySem.Within mA ns)(hz:ns.length<=sizeLine)
  (h:∀h',h'.Ns1 dx (λy=>if y=name then some v else mA y)->Heap.SameBut dx s.heap h'->Q () {s with heap:=h',toks:=s.toks+2}):wpAny (model prog w) A (setAttr (.ref x) name v) Q E s:=by
 show Da (id hn) λoD _ _ G _=>?_;have I:=W0 O hc Y hd G;show set_plain X I c.sa (Qw (s:={s with toks:=s.toks+1}) X I c no (Bp c.ex λcd a2 _ a5=>?_));unfold storeInOwnDict ownDictForStores instanceDict;show JH (JK (JH ?_))
 show wpAny _ _ (do let o ← loadPart x (some headPart);_) _ _ _
 show JH (wpAny_loadPart O ?_);rw[hc];show JH ((looks_clsIn (M:=model prog w) (h:=s.heap) X a2).here (s:={s with toks:=s.toks+1}) ?_);rw[a5,hd];rw[JW (by decide)];show JK (a:=some dx) ?_
 show wpAny _ _ (storeInDict dx (.str name s.toks) name v) _ _ _
 unfold storeInDict newKeyGuard;show JH (JK (JH (wpAny_nsSet1 hn λh' U hs=>Gp (U.count (Within.cons name v hw)) λoD a7 a6 G a4 a1=>?_)));show JH (wpAny_lookBehind G (by rw[a4];show pastItsLine_dict (JU a1 (by rw[KN];omega))) (JK (h h' U hs)))
def Sj {Q:Fin->Shared->Prop}(X:K.In s.heap)(U:hasDictIn K C=true)(no:findIn K (.ref C) name=some none)(hx:s.heap.get? x=some o)(hc:o.cls=.ref C)(hv:o.data=.fields vs)(hd:o.dict=some dx)
  (hn:s.heap.Ns1 dx mA)(hm:mA name=some v)(Y:Q (.done (.ret v)) s):wpAny (model prog w) A (Builtin.«object.__getattribute__» ⟨[.ref x,.str name tk],[]⟩) Q E s:=by
 show Am (Ow hn) λod O hl=>?_;have I:=W0 hx hc hv hd O;have G:=looks_find (M:=model prog w) X I (findObj_own U no rfl (by rw[hl,hm]));show JH (JK (JH (JK (JH (I.type.here (JH (G.here (JK Y))))))))
def Vi {R:Result->Shared->Prop}(X:K.In s.heap)(c:JA K C)(O:hasDictIn K C=true)(no:findIn K (.ref C) name=some none)(G:s.heap.get? x=some o)(hc:o.cls=.ref C)(Y:o.data=.fields vs)(hd:o.dict=some dx)
  (hn:s.heap.Ns1 dx mA)(hm:mA name=some v)(U:R (.ok (.ret v)) s):codeAny (model prog w) A (.call (.builtin "BaseException.__getattribute__") ⟨[.ref x,.str name tk],[]⟩) R s:=by
 obtain⟨h,g,d,t,os⟩:=s;show OE PySem.F.attr_ValueError.ga.plain F.entry_bexc_ga (Vj c X G hc (Sj X O no G hc Y hd hn hm U))
def xget {Q:Bf}(X:K.In s.heap)(c:JA K C)(O:hasDictIn K C=true)(no:findIn K (.ref C) name=some none)(G:s.heap.get? x=some o)(hc:o.cls=.ref C)(Y:o.data=.fields vs)(hd:o.dict=some dx)
  (hn:s.heap.Ns1 dx mA)(hm:mA name=some v)(a1:handedIn v=true)(U:Q v {s with toks:=s.toks+1}):wpAny (model prog w) A (getAttr (.ref x) name b) Q E s:=by
 obtain⟨h,g,d,t,os⟩:=s;have z3:=PySem.F.attr_ValueError.ga.bind (.ref x);have z2:(Value.builtin "BaseException.__getattribute__"==Value.builtin "object.__getattribute__")=false:=by decide +kernel
 have z1:(onTheHeap (Value.ref C)&&Value.builtin "BaseException.__getattribute__"==Value.builtin "object.__getattribute__")=false:=by rw[z2];rfl
 unfold getAttr getAttrBy
 repeat (any_goals (first|assumption|(with_reducible show MV G ?_;rw[hc])|with_reducible show U3 X c.ga ?_|with_reducible show U3 X c.gt ?_|wp_step))
 have zb:(b&&onTheHeap (Value.builtin "BaseException.__getattribute__"))=false:=by cases b<;>rfl
 rw[JW (by rw[zb];show JX)];have zh:=handedOut_of a1;have xc:∀R:Result->Shared->Prop,R (.ok (.ret v)) ⟨h,g,d,t+1,os⟩->codeAny (model prog w) A (.call (.builtin "BaseException.__getattribute__") ⟨[.ref x,.str name t],[]⟩) R ⟨h,g,d,t+1,os⟩:=
  λR r=>Vi (s:=⟨h,g,d,t+1,os⟩) X c O no G hc Y hd hn hm r
 repeat (any_goals (first|assumption|wp_step))
 show xc _ ?_
 show wpAny _ _ (handedOut v) _ _ _
 rw[zh];show JK U
end
end L2
namespace L2
open PySem PySem.Spec PyProof.Rows PySem.W
def XA (d:Addr)(fs:List (Str×V))(h:Heap):Prop:=∃mA,h.Ns1 d mA/\∀f,BP (fs.lookup f) (mA f)
def XA.ok (x:XA d fs h):AL P w H h d (.ext (XA d fs)):=by
 show A6 x ?_ λh1 h2 ⟨mA,⟨o,es,ep,e,r⟩,q⟩ k=>(Aq mA (Ht o es ep (k o e) r) q);show Am x λmA z1 _=>?_;obtain⟨o,_,_,e,_⟩:=z1;show⟨o,e⟩
def Yu {fs:List (Str×V)}{y:Str}(h:fs.lookup y≠none):y∈fs.map (·.1):=by
 induction fs with
 | nil=>show absurd rfl h
 | cons p r G=>
  obtain⟨k,v⟩:=p;by_cases q:y=k
  .rw [q];show LH ..
  .show KO _ (G λz=>h ?_);rw[KJ,beq_eq_false_iff_ne.mpr q];show z
section
variable {E:Bf}
def Wz {Q:Ju}(I:Inv X pins σ H s)(e:H a=some (.ext (XN a (.ref C) none)))(c:XMk X.K C)(n:AR X.K C f)(ry:RelV y u)
  (h:∀dx s',H dx=none->dx≠a->Inv X pins σ (upd (upd H a (.ext (XN a (.ref C) (some dx)))) dx (.ext (XA dx [(f,y)]))) s'->Q () s'):wpAny (model X.prog X.w) A (setAttr (.ref a) f u) Q E s:=by
 obtain⟨⟨o,vs,hx,hc,O,hd,hz⟩,_⟩:=(show AL X.prog X.w H s.heap a (.ext (XN a (.ref C) none))from I.AJ a _ e);show xset0 I.CQ c n hx hc O hd λh' dx hn ne G Y k=>h dx _ (I.AJ.none_of hn) ne ?_;have U:Mut (H a):=by rw[e];trivial
 have o1:XN a (.ref C) (some dx) h':=(Ct _ vs G hc O rfl hz);have a2:=I.AJ.write (o':=.ext (XN a (.ref C) (some dx))) U (.inl rfl) k ⟨_,G⟩ o1.ok;have a1:Un X.fs [] H (upd H a (.ext (XN a (.ref C) (some dx)))) s.heap h':=Un.write U (.inl rfl) k ⟨_,G⟩;have EY:(upd H a (.ext (XN a (.ref C) (some dx)))) dx=none:=by rw[Ak ne];show I.AJ.none_of hn
 show I.un (a1.FO hn EY) (a2.FO EY (XA.ok (Ac Y λg=>?_)));by_cases q:g=f
 .subst q
  show BP (List.lookup g [(g,y)]) (if g=g then some u else none)
  rw[KE rfl,KJ,beq_self_eq_true];show ry
 .show BP (List.lookup g [(f,y)]) (if g=f then some u else none)
  rw[JW q,KJ,beq_eq_false_iff_ne.mpr q];show True.intro
def Wy {Q:Ju}(I:Inv X pins σ H s)(e:H a=some (.ext (XN a (.ref C) (some dx))))(G:H dx=some (.ext (XA dx fs)))(c:XMk X.K C)(n:AR X.K C f)(hl:fs.length<1000)(ry:RelV y u)
  (h:∀s',Inv X pins σ (upd H dx (.ext (XA dx (C8 f y fs)))) s'->Q () s'):wpAny (model X.prog X.w) A (setAttr (.ref a) f u) Q E s:=by
 obtain⟨⟨o,vs,hx,hc,hv,hd,hz⟩,_⟩:=(show AL X.prog X.w H s.heap a (.ext (XN a (.ref C) (some dx)))from I.AJ a _ e);obtain⟨⟨mA,hN,O⟩,_⟩:=(show AL X.prog X.w H s.heap dx (.ext (XA dx fs))from I.AJ dx _ G);have wi:PySem.Within mA (fs.map (·.1)):=λg hg=>Yu λz=>hg (BP.none_of (by rw[← z];show O g));show xset1 I.CQ c n hx hc hv hd hN wi (by rw[JR,NJ];omega) λh' U sb=>h _ ?_;have hq:∃o,h'.get? dx=some o:=let ⟨o,_,_,Y,_⟩:=U;⟨o,Y⟩
 show I.write (x:=dx) (e:=dx) (by rw[G];trivial) (.inl rfl) (λb q hb z=>(sb.2 b hb).trans z) hq (XA.ok (Ac U λg=>?_))
 show BP ((C8 f y fs).lookup g) (if g=f then some u else mA g)
 rw[Il];by_cases q:g=f
 .rw [KE q,KE q];show ry
 .rw [JW q,JW q];show O g
def Zn {Q:Bf}(I:Inv X pins σ H s)(e:H a=some (.ext (XD a (.ref C) (some dx))))(O:H dx=some (.ext (XA dx fs)))(c:JA X.K C)(Y:hasDictIn X.K C=true)(n:AR X.K C f)(l:fs.lookup f=some v)
  (h:∀u s',Inv X pins σ H s'->RelV v u->Q u s'):wpAny (model X.prog X.w) A (getAttr (.ref a) f b) Q E s:=by
 obtain⟨⟨o,vs,hx,hc,hv,hd⟩,_⟩:=(show AL X.prog X.w H s.heap a (.ext (XD a (.ref C) (some dx)))from I.AJ a _ e);obtain⟨⟨mA,U,hr⟩,_⟩:=(show AL X.prog X.w H s.heap dx (.ext (XA dx fs))from I.AJ dx _ O);show Am (BP.some_of (v:=v) (o:=mA f) (by rw[← l];show hr f)) λu hu G=>xget I.CQ c Y n hx hc hv hd U hu (O0 G) (h u _ (I.tok _) G)
end
def W9 (K:Frag)(ta:TE)(f:Str):TE:=λσ H Q=>ta σ H λx H1=>∃a C dx fs v,x=.ref a/\H1 a=some (.ext (XD a (.ref C) (some dx)))/\H1 dx=some (.ext (XA dx fs))/\JA K C/\hasDictIn K C=true/\AR K C f/\fs.lookup f=some v/\Q v H1
def sXset (K:Frag)(ta G:TE)(f:Str):TS:=λD σ H=>G σ H λy H1=>ta σ H1 λx H2=>∃a C,x=.ref a/\XMk K C/\AR K C f /\
 ((H2 a=some (.ext (XN a (.ref C) none))/\∀dx,H2 dx=none->dx≠a->D.nx σ (upd (upd H2 a (.ext (XN a (.ref C) (some dx)))) dx (.ext (XA dx [(f,y)])))) \/
  ∃dx fs,H2 a=some (.ext (XN a (.ref C) (some dx)))/\H2 dx=some (.ext (XA dx fs))/\fs.length<1000/\D.nx σ (upd H2 dx (.ext (XA dx (C8 f y fs)))))
section
def Uq (he:QE X e ta)(hb:attributeBase e f X.env (eval e X.env)=eval e X.env):QE X (.Attribute e f pos) (W9 X.K ta f):=by
 show⟨λpins s σ H Q I h=>Vb hb (AE (he.go pins s σ H _ I h) λu s1 ⟨x,H1,G,rx,a,C,dx,fs,v,ex,U,Y,c,hh,n,l,q⟩=>?_)⟩;subst ex;obtain rfl:u=Value.ref a:=rx;show Zn G U Y c hh n l λu' s2 O ru=>(Aw v H1 O ru q)
def Up (ha:QE X o ta)(hv:QE X a1 tv)(hs:swapsWith a1 (some (.Attribute o f a2)) pos.line X.env=pure false):QS X (.Assign [.Attribute o f a2] a1 pos) (sXset X.K ta tv f):=by
 show⟨λpins s σ H D I h=>plainObj_wpAny_Assign_Attribute (AE (hv.go pins s σ H _ I h) λu s1 ⟨y,H1,I1,ry,q⟩=>AE (ha.go pins s1 σ H1 _ I1 q) λov s2 ⟨x,H2,Y,rx,a,C,ex,c,n,G⟩=>?_) hs⟩;subst ex;obtain rfl:ov=Value.ref a:=rx;rcases G with⟨U,G⟩|⟨dx,fs,U,ed,l,G⟩
 .show Wz Y U c n ry λdx s3 hd ne O=>(Ce σ _ O (G dx hd ne))
 .show Wy Y U ed c n l ry λs3 O=>(Ce σ _ O G)
end
noncomputable def HS (P:Program)(w:World):IJ:=λouter H s E e s'=>∃(a:Addr) (cls:Value) (T:Addr) (dx:Option Addr) (H':Hp),e=.ref a/\s'.os=s.os/\AllBare s'.gens/\Un (CP outer) [] H H' s.heap s'.heap/\BH P w H' s'.heap /\
 Rec s'.heap a cls (some T)/\DictAt s'.heap a dx/\s.heap.get? a=none/\H' a=none/\s.heap.get? T=none/\H' T=none/\E cls dx H'
def Km (X:Cx)(E:XK):Prop:=∀(pins:Dh) (σ:St) (H:Hp) (s:Shared) (a:Addr) (cls:Value) (T dx:Option Addr),Inv X pins σ H s->Rec s.heap a cls T->DictAt s.heap a dx->X.s₀.heap.get? a=none->H a=none ->
 (∀t,T=some t->X.s₀.heap.get? t=none/\H t=none)->E cls dx H->X.xe (.ref a) s
def Hn {P:Program}{w:World}{K:A3} :
  Km (Na (HS P w) P w K mg base N qual scope f cd A outer s₀ H₀ E) E:=by
 intro pins σ H s a cls T dx I r da ha hH Y e
 show wpAny _ _ (leaving _ _) _ _ s
 unfold leaving;have a5:∀b o,s₀.heap.get? b=some o->b≠s₀.heap.objs.size:=λb o q=>JP (JL q);show JH (Kz I.ok.frames rfl I.stack r da λh' T' n a4=>?_);have fr:∀b,b∈CP (envOfC qual scope s₀.heap.objs.size f cd::outer)->b=s₀.heap.objs.size\/b∈CP outer:=λb G=>by
  have:=I.EN b G
  rcases JS.mp this with z|z
  .show .inl z
  .show .inr z
 have own:∀b,b∈CP outer->b∈CP (envOfC qual scope s₀.heap.objs.size f cd::outer):=λb G=>KO _ G;have nT:∀b o,s₀.heap.get? b=some o->T≠some b:=λb o q z=>by
  have this:s₀.heap.get? b=none:=(Y b z).1;rw[q]at this;cases this
 have na:∀b o,s₀.heap.get? b=some o->b≠a:=λb o q z=>by
  have this:s₀.heap.get? a=none:=ha;rw[z,this]at q;cases q
 have a1:s₀.heap.get? T'=none/\H T'=none:=by
  rcases n.new with z|z
  .show⟨I.HM rfl z,I.AJ.none_of z⟩
  .show Y T' z
 show B8 a cls T' dx H rfl I.os I.bare ⟨λb o q m G U=>?_,λb o q m G U=>?_,I.base.free,λb o q U=>?_,I.base.AH,I.base.DI,I.base.DJ⟩ (I.AJ.HI λb u o G q=>?_) (Qk n.rc a4 ha hH a1.1 ⟨a1.2,e⟩)
 .have O:=I.base.keep b o q m G U;show n.keep b o O (λz=>(fr b z).elim (a5 b o q) G) (na b o q) (nT b o q)
 .obtain⟨sl,O⟩:=I.base.slot b o q m G U;obtain⟨a2,q2⟩:=n.slot b _ O (own b G);show⟨a2,q2⟩
 .obtain⟨o',O⟩:=I.base.there b o q U;by_cases G:b∈CP (envOfC qual scope s₀.heap.objs.size f cd::outer)
  .obtain⟨a2,q2⟩:=n.slot b _ O G;show⟨_,q2⟩
  .show⟨o',n.keep b o' O G (na b o q) (nT b o q)⟩
 .show n.keep b u q (λz=>?_) (λz=>?_) λz=>?_
  .rw [I.DG b z]at G;cases G
  .rw [z,hH]at G;cases G
  .rw [(Y b z).2]at G;cases G
def Uw (R:Km X E)(hex:X.ex=[]):Ev (HS X.prog X.w) X E:=by
 intro pins σ H s e s' I h;show Nz h λa cls T dx H' z1 os bare un AJ Y=>Ll Y λr da ha O U z3=>?_;subst z1;obtain⟨a1,q⟩:=z3;have G:Inv X pins σ H' s':=I.GK (ch:=[]) os un AJ bare λb z=>absurd z (by simp);show R pins σ H' s' a cls (some T) dx G r da (I.HM hex ha) O (λt z=>by cases z;show⟨I.HM hex U,a1⟩) q
noncomputable def K2 (K:Frag)(C:Addr)(bmB:List Value)(newId:String)(fI:Addr):Bool:=match K.lookup C with
 | some ⟨.type "type",_,.cls cd,sl⟩=>(match cd.mro,sl.toList with
  | .ref G::bm,[_,_,_,_,some (.builtin n),_]=>decide (G=C)&&(decide (n=newId)&&(!cd.hasDel&&(tailIn K bmB bm&&(nsOkIn K cd.ns&&nsIn K cd.ns "__init__"==some (some (.ref fI))))))
  | _,_=>false)
 | _=>false
def Ac0 {K:Frag}{h:Heap}{N:Addr}{mg:Bv}{n:Str}{v:Value}(X:K.In h)(G:h.Ns N mg)(e:nsIn K N n=some (some v)):mg n=some v:=by
 show Jq G λo es ep ho hd _ U=>?_;unfold nsIn at e;split at e
 case h_2=>cases e
 case h_1 q=>
  have z:=X _ _ q;rw[ho]at z;cases z;cases hd;split at e
  case h_1 Y O=>
   cases e;rw[← U];unfold nsFind findBy;rw[← Array.find?_toList,O];rfl
  case h_2=>split at e<;>cases e
def Y8 {K:Frag}{h:Heap}{C fI:Addr}{bmB:List Value}{newId:String}(X:K.In h)(q:K2 K C bmB newId fI=true) :
  ∃bm N nm O bs hdct sn sub ab col dd k0 k1 k2 k3 k5 mN,h.get? C=some (excClassObj nm O C N bs bm hdct sn sub ab col dd k0 k1 k2 k3 k5 newId)/\h.Ns N mN/\mN "__init__"=some (.ref fI)/\OwnTail h bmB bm:=by
 unfold K2 at q;split at q
 case h_2=>cases q
 case h_1 dd cd sl ho=>
  split at q
  case h_2=>cases q
  case h_1 C' bm k0 k1 k2 k3 n k5 hm hs=>
   simp only[NM,Bool.not_eq_true',ND,MW]at q;show Ll q λe1 e2 U ht G Y=>?_;subst e1;subst e2;obtain⟨nm,bs,mr,a1,O,hdct,sn,sub,ab,col,dl⟩:=cd;dsimp only at hm U G Y;subst hm;subst U;have z:sl=#[k0,k1,k2,k3,some (Value.builtin n),k5]:=by cases sl with|mk l=>simp only at hs;rw[hs]
   rw[z]at ho;show Fe bm a1 nm O bs hdct (Fe sn sub ab col dd k0 (ii53 k1 k2 k3 k5 _ (X _ _ ho) (.of_isNs (isNs_of_in X G)) (Ac0 X (.of_isNs (isNs_of_in X G)) Y) (tail_of_in X ht)))
section
variable {prog:Program}{w:World}{A:Around}{E:Bf}{h:Heap}{g:Array GenState}{d:Drawn}{t:Nat}{os:OsState}
variable {nm q:Str}{C N:Addr}{bs bm bmB:List Value}{hdct:Bool}{sn:List Str}{sub:List Value}{ab:Bool}{col:Option Bool}{dd:Option Addr}{k0 k1 k2 k3 k5:Option Value}{B newId initId:String}
def W7 (F:ExcBaseFacts B newId initId bmB)(T:OwnTail h bmB bm){U:Bv}{rest:List Value}{fI:Addr}{Y:Obj}{Q:Fin->Shared->Prop}
  (G:h.get? C=some (excClassObj nm q C N bs bm hdct sn sub ab col dd k0 k1 k2 k3 k5 newId))(hn:h.Ns N U)(hi:U "__init__"=some (.ref fI))(a4:h.get? fI=some Y)(a5:Y.cls=.type "function")
  (hq:∀h' e,Heap.MadeExcOf h h' e (.ref C) rest->wpAny (model prog w) A (call (.ref fI) (.ref e::rest)) (λr s'=>r=.none/\Q (.done (.ret (.ref e))) s') E ⟨h',g,d,t,os⟩)(a6:rest.length<=sizeLine) :
  wpAny (model prog w) A (Builtin.«type.__call__» ⟨.ref C::rest,[]⟩) Q E ⟨h,g,d,t,os⟩:=by
 repeat (first|with_reducible show MV G ?_|with_reducible show wpAny_madeBy_exc G ?_|wp_step)
 show codeAny_call_builtin_code (Code.quiet_builtin _ F.quiet) (wpAny_check_new_subT F T G (codeAny_exc_new_subT F T G ?_ a6))
 show wpAny _ _ _ _ _ _
 generalize O:h.push {cls:=.type "tuple",data:=.seq rest.toArray}=h1;have z1:h1.objs.size=h.objs.size+1:=by rw[← O];show KZ _ _
 have kp:∀b o,h.get? b=some o->(h1.push {cls:=.ref C,data:=.fields #[.ref h.objs.size,.none,.none,.none,.bool false,.none]}).get? b=some o:=λb o e=>JI _ (by rw[← O];show JI _ e);have a1:(h1.push {cls:=.ref C,data:=.fields #[.ref h.objs.size,.none,.none,.none,.bool false,.none]}).get? (h.objs.size+1)=some {cls:=.ref C,data:=.fields #[.ref h.objs.size,.none,.none,.none,.bool false,.none]}:=
  Heap.get?_push_at z1.symm rfl
 have a2:(Value.ref C::bm).contains (.ref C)=true:=by simp
 unfold isInstance
 repeat (first|with_reducible show MV a1 ?_|(with_reducible show wpAny_isSubtype_exc (kp _ _ G) ?_;rw[a2])|wp_step)
 show wpAny _ _ (typeLookup (.ref C) _) _ _ _
 show wpAny_typeLookup_tail (kp _ _ G) (hn.keeps kp) (T.keeps kp) F.mroIs F.init.lookup ?_;rw[hi];show LL (JH ?_);unfold bindSpecial;show JH (OH (T:="function") (Ac (kp _ _ a4) a5) ?_);rw[KE (by decide)];show JK (JH (LB (hq _ (h.objs.size+1) ⟨kp,OA (OU _),h.objs.size,a1,OA (JN _),?_⟩) (λr s' hr=>?_) λ_ _ x=>x))
 .show JI _ (by rw[← O];show JO _ rfl)
 .obtain⟨rfl,hQ⟩:=hr
  wp_walk
  show hQ
def T7 (F:ExcBaseFacts B newId initId bmB)(T:OwnTail h bmB bm){O:Bv}{rest:List Value}{fI:Addr}{U:Obj}{Q:Bf}
  (G:h.get? C=some (excClassObj nm q C N bs bm hdct sn sub ab col dd k0 k1 k2 k3 k5 newId))(hn:h.Ns N O)(hi:O "__init__"=some (.ref fI))(a1:h.get? fI=some U)(a2:U.cls=.type "function")
  (Y:∀h' e,Heap.MadeExcOf h h' e (.ref C) rest->wpAny (model prog w) (A.under (.builtin "type.__call__" ⟨.ref C::rest,[]⟩)) (call (.ref fI) (.ref e::rest)) (λr s'=>r=.none/\Q (.ref e) s') E ⟨h',g,d,t,os⟩)(a4:rest.length<=sizeLine) :
  wpAny (model prog w) A (call (.ref C) rest) Q E ⟨h,g,d,t,os⟩:=by
 have f1:=tc_lookup;have f2:=tc_bind (.ref C);have hT:(⟨h,g,d,t,os⟩:Shared).TypeIs (.ref C) "type":=(Ac G rfl);show OS (codeAny_of_tree ?_)
 show wpAny _ _ (callAny (.ref C) _) _ _ _
 repeat (any_goals (first|assumption|with_reducible show MV G ?_|wp_step))
 show⟨rfl,codeAny_call_builtin_at (Code.quiet_builtin _ (by decide +kernel)) entry_typeCall (wpAny_check_type_call_sub G (W7 F T G hn hi a1 a2 Y a4))⟩
end
def S5 {E:Bf}{nm q:Str}{C N:Addr}{bs bm:List Value}{hdct:Bool}{sn:List Str}{sub:List Value}
 {Q:Flow->Shared->Prop}(a2:bm.contains (.type "BaseException")=true)(hh:A.handled=none)
  (h:wpAny M A x (λv G=>∃e dx vs sl,v=.ref e/\G.heap.get? C=some (excClassObj nm q C N bs bm hdct sn sub ab col dd k0 k1 k2 k3 k5 newId)/\G.heap.get? e=some ⟨.ref C,dx,.fields vs,sl⟩/\vs[1]?=some .none/\E (.ref e) G) E s) :
  wpAny M A (raiseStmt env (some x) none) Q E s:=by
 have a1:(Value.ref C::bm).contains (.type "BaseException")=true:=by rw[List.contains_cons,a2,Bool.or_true]
 unfold raiseStmt;show JH (LB h (λv G h₁=>?_) λ_ _ x=>x);show Lk h₁ λe dx vs sl z1 O U hz Y=>?_;subst z1;obtain⟨hp,g,d,tk,os⟩:=G
 repeat (first|with_reducible show MV U ?_|with_reducible show KR U rfl hz ?_|with_reducible show MV O ?_|(with_reducible show wpAny_isSubtype_exc O ?_;rw[a1])|wp_step)
 show wpAny_raiseNew_none hh Y
noncomputable def del (H:Hp)(a:Addr):Hp:=λb=>if b=a then none else H b
def M8:del H a a=none:=by unfold del;rw[KE rfl]
def Hv (h:b≠a):del H a b=H b:=by unfold del;rw[JW h]
def BH.del {φ:Heap->Prop}(x:BH P w H h)(e:H a=some (.ext φ)):BH P w (del H a) h:=λb u q=>by
 have G:b≠a:=λz=>by rw[z,M8]at q;cases q
 rw[Hv G]at q;show(x b u q).CC (λc v _ r=>r) (λc r=>?_) λc xs r=>?_
 .rw [Hv (Bl r e (by intro z;cases z))];show r
 .rw [Hv (Bl r e (by intro z;cases z))];show r
def Inv.untrack {φ:Heap->Prop}(I:Inv X pins σ H s)(e:H a=some (.ext φ)):Inv X pins σ (del H a) s:=by
 have fr:∀b,H b=none->del H a b=none:=λb q=>by
  by_cases z:b=a
  .rw [z,M8]
  .rw [Hv z];show q
 show⟨I.ok,I.os,I.bare,⟨I.base.keep,I.base.slot,λb o q n O=>fr b (I.base.free b o q n O),I.base.there,λb xs q=>?_,λb o u q=>?_,λb ps q=>?_⟩,I.loc,I.cell,fr _ I.free,λx c q=>fr _ (I.BB x c q),λp G=>?_,I.AJ.del e,I.len⟩
 .have:=I.base.AH b xs q;rw[Hv (Bl this e (by intro z;cases z))];show this
 .have:=I.base.DI b o u q;rw[Hv (Bl this e (by intro z;cases z))];show this
 .obtain⟨m,z⟩:=I.base.DJ b ps q;show⟨m,by rw[Hv (Bl z e (by intro z;cases z))];show z⟩
 .show B9 (I.pin p G) λq n r=>A6 q (fr _ n) r
section
variable {prog:Program}{w:World}{A:Around}{E:Bf}{s:Shared}{env:Env}
variable {nm q:Str}{C N:Addr}{bs bm:List Value}{hdct:Bool}{sn:List Str}{sub:List Value}{ab:Bool}{col:Option Bool}{dd:Option Addr}{k0 k1 k2 k3 k5:Option Value}{newId:String}
def S6 {Q:Flow->Shared->Prop}(a4:bm.contains (.type "BaseException")=true)(hh:A.handled=none)(a5:(backTo cpos (starEach args env)).any (·.1)=false)
   (h:wpAny (model prog w) A (eval (.Name x np) env) (λf s₁=>f=.ref C/\wpAny (model prog w) A (evalArgs (.ref C) true (backTo cpos (starEach args env)) [])
     (λa O=>a.kw=[]/\O.heap.get? C=some (excClassObj nm q C N bs bm hdct sn sub ab col dd k0 k1 k2 k3 k5 newId)/\wpAny (model prog w) A (call (.ref C) a.pos) (λv G=>∃e dx vs sl,v=.ref e /\
       G.heap.get? C=some (excClassObj nm q C N bs bm hdct sn sub ab col dd k0 k1 k2 k3 k5 newId)/\G.heap.get? e=some ⟨.ref C,dx,.fields vs,sl⟩/\vs[1]?=some .none/\E (.ref e) G) E O) E s₁) E s) :
   wpAny (model prog w) A (exec (.Raise (some (.Call (.Name x np) args [] cpos)) none pos) env) Q E s:=by
 rw[arm_exec_Raise]
 show JH (LS (S5 (C:=C) (nm:=nm) (q:=q) (N:=N) (bs:=bs) (bm:=bm) (hdct:=hdct) (sn:=sn) (sub:=sub) (ab:=ab) (col:=col) (dd:=dd) (k0:=k0) (k1:=k1) (k2:=k2) (k3:=k3) (k5:=k5) (newId:=newId) a4 hh
   (JH (LB (wpAny_Call_ofName (LB h (λf s₁ h₁=>?_) λ_ _ x=>x)) (λv G Y=>JH (LS (JK Y))) λ_ _ x=>x))))
 obtain⟨rfl,h₁⟩:=h₁;unfold callWith;show JH (LL (LB h₁ (λa O U=>JH (LS ?_)) λ_ _ x=>x));obtain⟨apos,a1⟩:=a;obtain⟨a2,hC,U⟩:=U;obtain rfl:a1=[]:=a2;obtain⟨hp,g,d,tk,os⟩:=O;simp only[a5];show JH (wpAny_keeperOf_exc hC (JH (LB U (λv G Y=>JH (LL (wpAny_point (JK Y)))) λ_ _ x=>x)))
end
def Ud (E:XK)(C:Addr)(sp:Sp)(t:TA):TS:=λ_ σ H=>t σ H λvs H1=>vs.length<=sizeLine/\∀a,H1 a=none ->
 sp (.ref a::vs) (upd H1 a (.ext (XN a (.ref C) none))) (λv H2=>v=.AQ/\∃dx,H2 a=some (.ext (XN a (.ref C) dx))/\E (.ref C) dx (del H2 a)) E0
def XN.made (x:Heap.MadeExcOf h h' e cls vs):XN e cls none h':=by
 show Am x.there λt q _=>jj24 q rfl rfl rfl rfl
def Vt (R:Km X E)(hex:X.ex=[])(hc:X.calm=true)(FB:ExcBaseFacts B newId initId bm)(hg:Gl X x)(hm:X.mg x=some (.ref C))
  (hC:K2 X.K C bm newId fI=true)(hf:isFn X.K (.ref fI)=true)(F:AD X.prog X.w X.K X.mg X.base AU k fI fd ps sp)(hb:Binds X.K fd ps [])(hr:AV (k+1) X.A)
  (ha:PA X (e::es) t)(a5:Di x:=by decide)(he:Hc X e es:=by rfl)(a8:Hx X cpos es:=by rfl) :
  PS X (.Raise (some (.Call (.Name x np) (e::es) [] cpos)) none pos) (Ud E C sp t):=by
 intro pins s σ H D I h;show Dl (Y8 I.mod.JB hC) λtl N nm q bs hdct z1=>Dl z1 λsn sub ab col dd k0 z2=>dd53 z2 λk1 k2 k3 k5 mN hO hN hi T=>?_;have aB:(backTo cpos (starEach (e::es) X.env)).any (·.1)=false:=by
  rw[he]
  show(false||(backTo cpos (starEach es X.env)).any (·.1))=false
  rw[a8];rfl
 show S6 (C:=C) (nm:=nm) (q:=q) (N:=N) (bs:=bs) (bm:=tl) (hdct:=hdct) (sn:=sn) (sub:=sub) (ab:=ab) (col:=col) (dd:=dd) (k0:=k0) (k1:=k1) (k2:=k2) (k3:=k3) (k5:=k5) (newId:=newId) (T.hasType FB.hasBase) (I.ok.hd hc) aB (Fv I hg hm ⟨rfl,?_⟩ a5);have h2:=ha cpos pins s σ H _ I h;rw[he]at h2 ⊢;show Calls.evalArgs_plain (LB h2 (λus s2 z=>(Fw z λvs H1 G rv ln ee=>(A6 rfl (G.bk _ _ hO) ?_))) λ_ _ y=>y);obtain⟨U,a6,a7⟩:∃U,X.base.get? fI=some U/\U.cls=.type "function":=by
  have z:=ND.mp hf;show Am (Option.map_eq_some_iff.mp (show(X.K.lookup fI).map (·.cls)=_ from z)) λU h1 h2=>Aq U (I.mod.JB _ _ h1) h2
 obtain⟨hp,g,d,tk,os⟩:=s2;show T7 FB (T.keeps G.bk) (G.bk _ _ hO) (hN.keeps G.bk) hi (G.bk _ _ a6) a7 (λh' a O=>?_) (by rw[← rv.length];show ln);have a1:H1 a=none:=G.AJ.none_of O.new;have I2:Inv X pins σ (upd H1 a (.ext (XN a (.ref C) none))) ⟨h',g,d,tk,os⟩:=G.un (t':=tk) ((Un.kept O.keeps).FO O.new a1) ((G.AJ.kept O.keeps).FO a1 (XN.made O).ok);have hq:=ee a a1;have r2:AF (V.ref a::vs) (Value.ref a::us):=.cons rfl rv;have hl:(Value.ref a::us).length=ps.length:=by rw[← r2.length];show F.len _ _ _ _ hq
 have a4:BindsTo ⟨h',g,d,tk,os⟩ fd ⟨Value.ref a::us,[]⟩ (ps.zip (Value.ref a::us)):=by
  have:=hb ⟨h',g,d,tk,os⟩ (Value.ref a::us) I2.CQ (by simpa using hl);simpa using this
 show OS (MH (F.run _ X.stack _ _ ⟨Value.ref a::us,[]⟩ (Value.ref a::us) _ _ E0 (hr.make C us []) (I2.env0.make C us []) a4 r2 hq) λr s' Y=>?_)
 cases r with
 | error e=>show Y.elim
 | ok fl=>
  cases fl with
  | ret u=>
   show Fw (I2.after Y) λv H3 I3 a9 ev z1=>Am z1 λdx a2 q3=>?_;subst ev;obtain⟨⟨oe,aA,g1,g2,g3,g4,g5⟩,_⟩:=(show AL X.prog X.w H3 s'.heap a (.ext (XN a (.ref C) dx))from I3.AJ a _ a2);obtain⟨oc,od,aC,osl⟩:=oe;dsimp only at g2 g3 g4;subst g2;subst g3 g4;show⟨a9,(Bb a od aA osl rfl (I3.bk _ _ hO) g1 g5 (R pins σ (del H3 a) s' a (.ref C) none od (I3.untrack a2) (Ex g1 rfl rfl g5) (Ac g1 rfl) (G.HM hex O.new) M8 (λt z=>nomatch z) q3))⟩
  | next=>show False.elim Y
  | brk=>show False.elim Y
  | cont=>show False.elim Y
def Vr (R:Km X E)(hex:X.ex=[])(hc:X.calm=true)(FB:ExcBaseFacts B newId initId bm)(hg:Gl X x)(hm:X.mg x=some (.ref C))
  (G:K2 X.K C bm newId fI=true)(Y:isFn X.K (.ref fI)=true)(F:AD X.prog X.w X.K X.mg X.base AU k fI fd ps sp)(O:Binds X.K fd ps [])(hr:AV (k+1) X.A)
  (ha:QA X (e::es) t)(a1:Di x:=by decide)(U:Hc X e es:=by rfl)(a2:Hx X cpos es:=by rfl) :
  QS X (.Raise (some (.Call (.Name x np) (e::es) [] cpos)) none pos) (Ud E C sp t):=⟨Vt R hex hc FB hg hm G Y F O hr ha.go a1 U a2⟩
structure FnB2 (P:Program)(w:World)(K:A3)(mg:Bv)(base:Heap)(k:Nat)(x:Str)(ps:List Str)(sp:Sp):Prop where
 ex:∃f fd,AD P w K mg base (HS P w) k f fd ps sp/\mg x=some (.ref f)/\PySem.W.keepIn K (.ref f)=true/\Binds K fd ps []
def Xz (F:FnB2 X.prog X.w X.K X.mg X.base k x ps sp)(hp:Ev (HS X.prog X.w) X E)(hr:AV k X.A)(U:Gl X x)(ha:QA X (e::es) t)(a1:Di x:=by decide)
  (O:Hc X e es:=by rfl)(a2:Hx X pos es:=by rfl):QE X (.Call (.Name x p) (e::es) [] pos) (Q2 sp [] E t):=by
 show Fw F.ex λf fd F hm Y G=>⟨Uu F hr U hm Y G .nil hp ha.go a1 O a2⟩
section
variable {P:Program}{w:World}{K:A3}{mg:Bv}{base:Heap}
def AG.ok2 {x qual:Str}{st:Stmt}{f:Addr}{fd:FuncData}{N ps:List Str}{k:Nat}{sp:Sp}(F:AG K x qual st f fd)(S:AB N ps (Af st))(len:∀vs H Q E,sp vs H Q E->vs.length=ps.length)
   (a1:∀(cdv:Value) (A:Around) (outer:List Env) (s:Shared) (H:Hp) (vs:List V) (Q:VK) (E:XK),AV k (A.deeper (envOfC qual (Af st) s.heap.objs.size f cdv))->sp vs H Q E ->
     ∃t,IP (Na (HS P w) P w K mg base N qual (Af st) f cdv A outer s H E) (Ar st) t/\t {nx:=λ_ H'=>Q .AQ H',rt:=Q} (start N vs) H):AD P w K mg base (HS P w) (k+1) f fd ps sp:=by
 show Dl F.ex λoc od kV doc pm an z1=>Gp z1 λcdv ct osl O lk U=>?_;subst O;show Y6 lk U S len λA outer s H vs Q E G Y=>Am (a1 cdv A outer s H vs Q E G Y) λt h q=>Aq t h.go q
end
def Lx (K:A3)(i:Nat)(C:Addr)(ts:TS)(D:Ends)(σ:St):XK:=λcls dx H=>PySem.W.exmOne K cls (.ref C)=some true/\∀a,H a=none->ts (U5 D i) (σ.set i (some (.ref a))) (upd H a (.ext (XD a cls dx)))
def Rec.xd (r:Rec h e cls (some T))(d:DictAt h e dx):XD e cls dx h:=by
 show Qm r λoe vs oT ts G U Y _=>Am d λo O q2=>?_;rw[G]at O;cases O;show Br oe vs G U Y q2
section
def Tz (hN:X.N.Nodup)(hi:X.N[i]?=some n)(hk:X.env.kindOf n=some .local)(a1:X.stack=X.env::X.outer)(aA:X.env.frame=some X.env.locals)(hg:Gl X cx)(hm:X.mg cx=some (.ref C))(a9:Di cx)
  (hs:∀a pn,IP (X.EY a pn) (b₀::aG) ts)(I:Inv X pins σ H s)(h:HS X.prog X.w X.stack H s (Lx X.K i C ts D σ) e s') :
  wpAny (model X.prog X.w) X.A (noteFrame e X.env) (λ_ s2=>wpAny (model X.prog X.w) X.A (setFlight e none) (λ_ s3=>wpAny (model X.prog X.w) X.A (handleBy e X.env [.ExceptHandler (some (.Name cx cp)) (some n) (b₀::aG) hpos]) (SP X pins D) X.xe s3) X.xe s2) X.xe s':=by
 show Nz h λa cls T dx H' z1 os bare un AJ z2=>Ll z2 λr da ha hH hT z3=>B9 z3 λa2 hx hq=>?_;subst z1;have I':Inv X pins σ H' s':=I.GK (ch:=[]) os un AJ bare λb z=>absurd z (by simp);have hF:=I'.stack;have hA:=I.ok.frames;rw[a1]at hF hA un;show Kz hA aA hF r da λh1 T1 n1 a7=>?_;have a4:s.heap.get? T1=none/\H' T1=none:=by
  rcases n1.new with z|z
  .show⟨?_,AJ.none_of z⟩
   cases q:s.heap.get? T1 with
   | none=>rfl
   | some o=>obtain⟨o',q'⟩:=un.there T1 o q (by simp);rw[z]at q';cases q'
  .cases z;show⟨hT,a2⟩
 have aB:=un.noted n1 ha (λt z=>by cases z;show hT)
 have a5:BH X.prog X.w H' h1:=AJ.HI λb u o G q=>n1.keep b u q (λz=>by
   rw[← a1]at z
   rw[I'.DG b z]at G;cases G) (λz=>by rw[z,hH]at G;cases G) λz=>by cases z;rw[a2]at G;cases G
 have a6:Un (CP X.stack) [] H H' s.heap h1:=by rw[a1];show aB
 have I1:Inv X pins σ H' {s' with heap:=h1}:=I.GK (s':={s' with heap:=h1}) (ch:=[]) os a6 a5 bare λb z=>absurd z (by simp);have J1:Inv (X.EY a (X.pn++pins)) [] σ H' {s' with heap:=h1}:=I1.EY rfl;show wpAny_handleBy_cons (codeAny_handlers_test (Fv (X:=X.EY a (X.pn++pins)) J1 hg hm ?_ a9)) (by intro q;cases q);have LT:PySem.W.Looks (model X.prog X.w) h1 (typeOf (.ref a)) cls:=by
  show B7 n1.rc.xo λo vs g1 g2 _=>g2▸(PySem.W.Looks.ld g1).andThen .now
 show(PySem.W.exm_one (M:=model X.prog X.w) I1.CQ LT hx).here ?_
 show codeAny _ _ _ _ _
 have aT:T1≠a:=by show K3 n1.rc λ_ _ _ _ _ _ _ _ z _=>?_;show z
 show codeAny_handlers_suite_as (Tv n1.rc λh2 r2 k2=>?_);have a8:DictAt h2 a dx:=let ⟨o,q1,q2⟩:=a7;(Aq o (k2 a o (ML aT) q1) q2)
 have aF:=a6.but k2 a4.1;have aC:BH X.prog X.w H' h2:=a5.HI λb u o G q=>k2 b u (λz=>by rw[z,a4.2]at G;cases G) q;have aD:BH X.prog X.w (upd H' a (.ext (XD a cls dx))) h2:=aC.FO hH (r2.xd a8).ok;have I3:Inv X pins σ (upd H' a (.ext (XD a cls dx))) {s' with heap:=h2}:=I.GK (s':={s' with heap:=h2}) (ch:=[]) os (aF.FO ha hH) aD bare λb z=>absurd z (by simp);show Ly I3 hN hi (.inl hk) (v:=.ref a) rfl (λs4 I4=>?_) (.inr hk);have J4:Inv (X.EY a (X.pn++pins)) [] (σ.set i (some (.ref a))) (upd H' a (.ext (XD a cls dx))) s4:=I4.EY rfl;show LB ((hs a (X.pn++pins)).go [] s4 _ _ (U5 D i) J4 (hq a hH)) (λf s5 z=>?_) λ_ _ z=>z.elim
 show wpAny _ _ (do bindName X.env n .none;unbindBehindTheSuite X.env n hpos) _ _ s5
 cases f with
 | next=>
  show B5 z λσ5 O Y q5=>Iy (Y.IF I.ok rfl) hN hi hk λs6 U=>(Ce _ O U q5)
 | brk=>
  show B5 z λσ5 O Y q5=>Iy (Y.IF I.ok rfl) hN hi hk λs6 U=>(Ce _ O U q5)
 | cont=>
  show B5 z λσ5 O Y q5=>Iy (Y.IF I.ok rfl) hN hi hk λs6 U=>(Ce _ O U q5)
 | ret u=>
  show Gp z λv5 σ5 O Y r5 q5=>Iy (Y.IF I.ok rfl) hN hi hk λs6 U=>(Qi v5 _ O U r5 q5)
end
def Zi (hc:X.calm=true):Fm X (.builtin "any") (λxs H Q=>∃(a:Addr) (bs:List Bool),xs=[.ref a]/\AK X.K H a (bs.map V.bl)/\Q (.bl (bs.any id)) H):=by
 intro pins s σ H xs us Q I r h;show B7 h λa bs z1 ha q=>?_;subst z1;show Am (K5 r) λu z1 U=>?_;subst z1;cases U;show Bp (I.list ha) λits rv pl _=>?_;have hh:X.A.handled=none:=I.ok.hd hc;have a1:a<s.heap.objs.size:=by show B5 pl λo n e _=>?_;show JL e
 have hn:∀i:Nat,its.toArray[i]?=(bs[i]?).map Value.bool:=λi=>by
  cases e:bs[i]? with
  | none=>
   have h1:(bs.map V.bl)[i]?=none:=by rw[KP,e];rfl
   have:=rv.none_of h1;simpa using this
  | some b=>
   have h1:(bs.map V.bl)[i]?=some (V.bl b):=by rw[KP,e];rfl
   show Am (rv.get h1) λu hu U=>?_;cases(show u=Value.bool b from U);simpa using hu
 have a4:its.length=bs.length:=by have:=rv.length;simpa using this.symm
 have W:=Walks.list (prog:=X.prog) (w:=X.w) (A:=X.A.in1) hh s.heap.objs.size a (JP a1) its.toArray;show call_any_walk (LW pl.isList (En (Qj (λi=>(bs[i]?).getD false) rfl W ?_ ?_ λh' tk k=>?_)))
 .show⟨(A8 (JO _ rfl) rfl rfl),Heap.IsList.push pl.isList _⟩
 .intro i v s' Q' E' G O;have O:Q' ((bs[i]?).getD false) s':=O;rw[hn i]at G
  cases e:bs[i]? with
  | none=>rw[e]at G;cases G
  | some b=>
   rw[e]at G O;cases G;show LQ O
 .have a2:(List.range its.toArray.size).any (λi=>(bs[i]?).getD false)=bs.any id:=by
   rw[JZ,a4,MZ,List.any_eq_true,List.any_eq_true];constructor
   .rintro ⟨i,hi,h⟩;have Y:=List.mem_range.mp hi;rw[KG Y]at h;show Ac (List.getElem_mem Y) h
   .rintro ⟨x,hx,h⟩;obtain⟨i,hi,rfl⟩:=List.getElem_of_mem hx;show Aq i (List.mem_range.mpr hi) (by rw[KG hi];show h)
  rw[a2];show Aw (.bl _) H (I.kept (t':=tk) λb u e=>k b u (by simp;show JP (JL e)) (JI _ e)) rfl q
def Xd (K:A3)(a:Addr)(kvs:List (Str×V))(ty:TE):TE:=λσ H Q=>ty σ H λy H1=>∃x,y=.str x/\((∃v,(x,v)∈kvs/\Q (.bl true) H1)\/(PySem.W.nsIn K a x=some none/\Q (.bl false) H1))
def Q1 (K:A3)(a:Addr)(kvs:List (Str×V))(ty:TE):TE:=λσ H Q=>ty σ H λy H1=>∃x,y=.str x/\((∃v,(x,v)∈kvs/\Q (.bl false) H1)\/(PySem.W.nsIn K a x=some none/\Q (.bl true) H1))
section
def Uv (T:EO X.K X.w a kvs)(U:Gl X x)(hm:X.mg x=some (.ref a))(hi:PE X i ty)(a1:Di x:=by decide):PC X .In i (.Name x p) (Xd X.K a kvs ty):=by
 intro pins s σ H Q I h;show AE (hi pins s σ H _ I h) λiv s1 ⟨y,H1,G,ry,z,O,q⟩=>Fv G U hm ?_ a1;subst O;obtain⟨t,rfl⟩:=(show ∃t,iv=Value.str z t from ry);show B5 T.lk λes n lk kl=>wpAny_in_of (strKind_is X.prog X.w z t) T.lo (PySem.W.mapOf_K (prog:=X.prog) G.CQ lk kl) ?_;rcases q with⟨v,hz,q⟩|⟨hz,q⟩
 .show Am (T.at_ z v hz) λu ru Y=>?_;rw[OR lk Y];show Aw (.bl true) H1 (G.tok _) rfl q
 .rw [OR lk hz];show Aw (.bl false) H1 (G.tok _) rfl q
def S9 (T:EO X.K X.w a kvs)(U:Gl X x)(hm:X.mg x=some (.ref a))(hi:PE X i ty)(a1:Di x:=by decide):PC X .NotIn i (.Name x p) (Q1 X.K a kvs ty):=by
 intro pins s σ H Q I h;show AE (hi pins s σ H _ I h) λiv s1 ⟨y,H1,G,ry,z,O,q⟩=>Fv G U hm ?_ a1;subst O;obtain⟨t,rfl⟩:=(show ∃t,iv=Value.str z t from ry);show B5 T.lk λes n lk kl=>wpAny_notIn_of (strKind_is X.prog X.w z t) T.lo (PySem.W.mapOf_K (prog:=X.prog) G.CQ lk kl) ?_;rcases q with⟨v,hz,q⟩|⟨hz,q⟩
 .show Am (T.at_ z v hz) λu ru Y=>?_;rw[OR lk Y];show Aw (.bl false) H1 (G.tok _) rfl q
 .rw [OR lk hz];show Aw (.bl true) H1 (G.tok _) rfl q
def Z0 (T:EO X.K X.w a kvs)(G:Gl X x)(hm:X.mg x=some (.ref a))(hi:QE X i ty)(O:behindInMarks .In (.Name x p)=false:=by rfl)(U:Di x:=by decide):QE X (.Compare i [.In] [.Name x p] pos) (Xd X.K a kvs ty):=⟨S8 (Uv T G hm hi.go U) O⟩
def S7 (T:EO X.K X.w a kvs)(G:Gl X x)(hm:X.mg x=some (.ref a))(hi:QE X i ty)(O:behindInMarks .NotIn (.Name x p)=false:=by rfl)(U:Di x:=by decide):QT X (.Compare i [.NotIn] [.Name x p] pos) (tB (Q1 X.K a kvs ty)):=⟨Pu (S9 T G hm hi.go U) O⟩
def Iw (G:X.A.units+1<cLine)(hi:QE X i ty)(ho:QE X o O)(hm:behindInMarks .NotIn o=false:=by rfl):QT X (.Compare i [.NotIn] [o] pos) (tB (Pe ty O)):=⟨Pu (Os G hi.go ho.go) hm⟩
end
noncomputable def HF (X:Cx)(N':List Str)(scope:Scope)(cl:List (Str×Addr))(x0:Str)(G:Shared)(O:Hp)(ex:List Addr):Cx:=
 {AY X N' scope ((x0,G.heap.objs.size+1)::cl) G O ex with fn:=λx=>decide (x=x0)}
structure FY (X:Cx)(scope:Scope)(cl:List (Str×Addr))(N':List Str)(n:Nat)(js:List Nat)(x0:Str):Prop where
 CG:closureFor scope X.env=pure cl
 kind:scope.kind=.function
 names:∀y∈scope.names,y.2=.local->scope.names.lookup y.1=some .local
 cf:∀(k:Nat) (acc:List (Str×Addr)),cellsFrom k scope.names acc=(x0,k)::acc
 pc:∀h:Heap,pushCells h scope.names=h.push {cls:=.type "cell",data:=.cell none}
 one:∀y∈scope.names,y.2=.cell->y.1=x0
 len:N'.length=n+js.length
 sub:∀x c,cl.lookup x=some c->X.env.cells.lookup x=some c
 has:∀x,scope.names.lookup x=some .free->∃c,cl.lookup x=some c
 cap:∀k j,js[k]?=some j->∃x,N'[n+k]?=some x/\X.N[j]?=some x/\scope.names.lookup x=some .free/\(X.env.kindOf x=some .cell\/X.env.kindOf x=some .free)/\x≠x0
theorem Fp {env:Env}:∀{names:List (Str×NameKind)} {x:Str} {k:NameKind},
  (names.map λ(n,k)=>if(k==NameKind.free&&env.scope.kind==.function&&env.kindOf n==some .cell)then(n,NameKind.cell)else(n,k)).lookup x=some k->k=.cell\/k=.free->names.lookup x=some .free\/names.lookup x=some .cell
 | [],_,_,h,_=>by simp at h
 | (n,O)::r,x,k,h,Y=>by
  have ih:=@Fp env r x k;have h':List.lookup x ((if(O==NameKind.free&&env.scope.kind==.function&&env.kindOf n==some .cell)=true then(n,NameKind.cell)else(n,O))::(r.map λ(n,k)=>if(k==NameKind.free&&env.scope.kind==.function&&env.kindOf n==some .cell)then(n,NameKind.cell)else(n,k)))=some k:=h;by_cases U:(O==NameKind.free&&env.scope.kind==.function&&env.kindOf n==some .cell)=true
  .rw [KE U]at h';have hf:O=.free:=by
    simp only[NM,ND]at U;show U.1.1
   subst hf
   cases G:x==n with
   | true=>show .inl (by simp[KJ,G])
   | false=>
    simp only[KJ,G]at h' ⊢;show ih h' Y
  .rw [JW U]at h'
   cases G:x==n with
   | true=>
    simp only[KJ,G,Option.some.injEq]at h' ⊢;subst h'
    rcases Y with z|z
    .show .inr z
    .show .inl z
   | false=>
    simp only[KJ,G]at h' ⊢;show ih h' Y
def Tl {E:Bf}{Q:Env->Shared->Prop}(cf:∀(k:Nat) (acc:List (Str×Addr)),cellsFrom k scope.names acc=(x0,k)::acc)
  (pc:∀h:Heap,pushCells h scope.names=h.push {cls:=.type "cell",data:=.cell none})
  (h:Q {scope:=scope,locals:=s.heap.objs.size,globals:=globals,cells:=(x0,s.heap.objs.size+1)::cl,qual:=qual,func:=none,code:=env.code,frame:=env.frame,builtins:=env.builtins} {s with heap:=(s.heap.push {cls:=.type "dict",data:=.dict #[]}).push {cls:=.type "cell",data:=.cell none}}) :
  wpAny M A (newFunctionEnv scope globals cl [] qual none .none (some env)) Q E s:=by
 simp only[newFunctionEnv,Option.isSome_some,if_true];show JH (wpAny_alloc ?_);show JH (wpAny_layCells _ (λname kind cells=>by cases G:kind==NameKind.cell<;>simp[G]) _ _ _ _ ?_);rw[cf,pc,show({s with heap:=s.heap.push {cls:=.type "dict",data:=.dict #[]}}:Shared).heap.objs.size=s.heap.objs.size+1 from KZ ..];show JH ?_;rw[OQ];show JK (JK h)
section
def V8 (c:FY X scope cl N' n js x0)(I:Inv X pins σ H s)
  (f:∀b∈fp,Ff X pins H b)(fo:∀b∈fp,b<s.heap.objs.size)(a2:∃m,h₁.Ns s.heap.objs.size m)(a7:h₁.IsCell (s.heap.objs.size+1) none)(hk:∀b o,s.heap.get? b=some o->h₁.get? b=some o) :
  Inv (HF X N' scope cl x0 s H fp) [] (Er n js σ) H {s with heap:=h₁,toks:=tk}:=by
 obtain⟨m,a2⟩:=a2;have cs:∀x a,((x0,s.heap.objs.size+1)::cl).lookup x=some a->(x=x0/\a=s.heap.objs.size+1)\/(x≠x0/\cl.lookup x=some a):=λx a h=>by
  by_cases e:x=x0
  .subst e;rw[KJ,beq_self_eq_true]at h;show .inl ⟨rfl,(KC h).symm⟩
  .rw [KJ,beq_eq_false_iff_ne.mpr e]at h;show .inr ⟨e,h⟩
 have a6:∀x a,cl.lookup x=some a->a<s.heap.objs.size:=λx a h=>by
  obtain⟨v,q⟩:=I.cell x a (c.sub x a h);show q.lt
 show⟨⟨I.ok.mod,c.kind,I.ok.glob,I.ok.blt,JN _,λx y a h1 h2=>?_,λx hx=>?_,λx a hf h=>?_,I.ok.hd,I.ok.frames,.inl rfl,
  λb U=>⟨JP (fo b U),λx a h=>?_⟩,I.bs,JU I.ok.IS I.sz,λb o e U=>?_,λb U z=>?_,I.stack,I.DG⟩,
  rfl,I.bare,Un.kept hk,(Aq m a2 λi x v h1 h2 h3=>?_),λx a h=>?_,I.AJ.fresh (JN _),λx a h=>?_,λp hp=>absurd (show p∈([]:List (Addr×Obj))from hp) (by simp),I.AJ.kept hk,?_⟩
 .rcases cs x a h1 with⟨G,O⟩|⟨n1,G⟩<;>rcases cs y a h2 with⟨Y,e4⟩|⟨n3,Y⟩
  .rw [G,Y]
  .show absurd (a6 y a Y) (by rw[O];show Nat.not_lt.mpr (OU _))
  .show absurd (a6 x a G) (by rw[e4];show Nat.not_lt.mpr (OU _))
  .show I.ok.inj x y a (c.sub x a G) (c.sub y a Y)
 .have q:scope.names.lookup x=some .free\/scope.names.lookup x=some .cell:=by
   rcases hx with z|z
   .show Fp z (.inl rfl)
   .show Fp z (.inr rfl)
  show ∃a,((x0,s.heap.objs.size+1)::cl).lookup x=some a
  by_cases e:x=x0
  .show⟨_,by rw[KJ,ND.mpr e]⟩
  .rw [KJ,beq_eq_false_iff_ne.mpr e]
   rcases q with q|q
   .show c.has x q
   .show absurd (c.one (x,.cell) (LA q) rfl) e
 .have e:x=x0:=MX hf;rcases cs x a h with⟨_,O⟩|⟨n1,_⟩
  .show s.heap.objs.size<=a
   rw[O];show OU _
  .show absurd e n1
 .rcases cs x a h with⟨_,O⟩|⟨_,G⟩
  .rw [O];show KS (Nat.lt_succ_of_lt (fo b U))
  .show (f b U).2.2.2.2.1 x a (c.sub x a G)
 .rcases (f b U).2.2.2.1 with z|z
  .show I.ok.HN b o e z
  .show absurd (KA (JL e) (JU I.ok.IS z)) (LJ _)
 .rcases JS.mp (I.EN b z)with q|q
  .show (f b U).2.1 q
  .show (f b U).2.2.1 q
 .unfold Er at h2;by_cases hi:i<n
  .rw [OI (by simpa using hi),LP]at h2;rw[KE hi]at h2;cases h2
  .rw [OB (by simpa using hi),MN,KP]at h2
   cases e:js[i-n]? with
   | none=>rw[e]at h2;cases h2
   | some j=>
    rw[e]at h2;have a1:(σ[j]?).join=some v:=KC h2;have hj:σ[j]?=some (some v):=by
     cases q:σ[j]? with
     | none=>rw[q]at a1;cases a1
     | some o=>rw[q]at a1;show LR some a1
    show Wi (c.cap (i-n) j e) λy G O Y e4 e5=>?_;have a8:n+(i-n)=i:=by omega
    rw[a8]at G;have a5:N'[i]?=some x:=h1;rw[G]at a5;cases a5;show Am I.loc λm0 aA a9=>?_;have vis:Vis X.env.scope x:=by
     rcases e4 with z|z
     .show .inr (.inl z)
     .show .inr (.inr z)
    show Am (a9 j x v O hj vis) λu r l=>Aq u r (.inr ⟨?_,?_⟩)
    .show Ea (env:=X.env) Y
    .rcases l with⟨k,_⟩|⟨_,a,ea,ha⟩
     .rcases e4 with z|z
      .rw [z]at k;cases k
      .rw [z]at k;cases k
     .obtain⟨a',a4⟩:=c.has x Y;have:=c.sub x a' a4;rw[ea]at this;cases this;show Aq a ?_ ?_
      .show ((x0,s.heap.objs.size+1)::cl).lookup x=some a
       rw[KJ,beq_eq_false_iff_ne.mpr e5];show a4
      .show Am ha λo ho hd=>Aq o (hk _ _ ho) hd
 .rcases cs x a h with⟨_,O⟩|⟨_,G⟩
  .show⟨none,O▸a7⟩
  .show B5 (I.cell x a (c.sub x a G)) λv o ho hd=>Ce v o (hk _ _ ho) hd
 .rcases cs x a h with⟨_,O⟩|⟨_,G⟩
  .show I.AJ.fresh (by rw[O];show OU _)
  .show I.BB x a (c.sub x a G)
 .show (Er n js σ).length=N'.length
  unfold Er;rw[JV,MN,JR,c.len]
def Wn (I:Inv X pins σ H s)(f:∀b∈fp,Ff X pins H b)
  (J:Inv (HF X N' scope cl x0 s H fp) [] σ' H' s'):Inv X pins σ H' s':=
 I.GK (ch:=fp) J.os J.base J.AJ J.bare λb G=>(C9 ((f b G).2.2.2.1) ((f b G).2.1) ((f b G).2.2.2.2.1) ((f b G).2.2.2.2.2))
def Wl {E:Bf}
   {RR:Value->Addr->Result->Shared->Prop}{tn:Nat->Heap->Prop}{W:Addr->Nat->Nat->St->Hp->Prop}{Fi:Addr->Hp->Prop}
   (c:FY X scope cl N' n js x0)(hc:X.calm=true)
   (aL:∀G H3 fp,PG (HF X N' scope cl x0 G H3 fp) tg g/\IX (HF X N' scope cl x0 G H3 fp) a8 tt/\PE (HF X N' scope cl x0 G H3 fp) a6 te)
   (I:Inv X pins σ H s)(T:Turn X.prog X.w X.K tg J fp it tn)(st:tn 0 s.heap)(f:∀b∈fp,Ff X pins H b)
   (w0:∀D,H D=none->∃m,W D 0 m (Er n js σ) (upd H D (.lst [])))
   (aU:∀D,H D=none->∀i m σ' H',W D i m σ' H'->(J.stop i H'/\Fi D H')\/(J.go i H'/\∃(Ay:V->St->Hp->Prop) (An:St->Hp->Prop),(∀y σ3 Y,Ay y σ3 Y->∃ys,Y D=some (.lst ys)/\ys.length<sizeLine/\∃U,U<m/\W D (i+1) U σ3 (upd Y D (.lst (ys++[y]))))/\(∀σ3 H4,An σ3 H4->∃U,U<m/\W D (i+1) U σ3 H4) /\
     ∀x H2,J.DH i H' x H2->g x σ' H2 λσ3 H3=>tt σ3 H3 λok H4=>if ok=true then te σ3 H4 (λy Y=>Ay y σ3 Y)else An σ3 H4))
   (hR:∀(D:Addr) (G:Shared) (H3 H':Hp) (s':Shared),Inv X pins σ H3 G->Inv X pins σ H' s'->(∃m,s'.heap.Ns G.heap.objs.size m)->H' G.heap.objs.size=none->Fi D H'->RR (.ref D) G.heap.objs.size (.ok .next) s') :
   wpAny (model X.prog X.w) X.A (newList []) (λacc s₃=>wpAny (model X.prog X.w) X.A (newFunctionEnv scope X.env.globals cl [] X.env.qual none .none (some X.env)) (λaC s₄=>
     codeAny (model X.prog X.w) X.A (.compStart (.ListComp a6 [⟨tg,iter,a8,0⟩] scope pos) 0 (.ref it) acc {aC with scope:=relabel scope X.env}) (RR acc aC.locals) s₄) E s₃) E s:=by
 have hD:H s.heap.objs.size=none:=I.fresh;have I3:=I.lnew (ys:=[]) (its:=[]) (t':=s.toks) .nil (LD _);show MD ?_;have f3:∀b∈fp,Ff X pins (upd H s.heap.objs.size (.lst [])) b:=λb O=>by
   show Am (T.obj _ _ st b O) λo e _=>?_;show⟨by rw[Ak (JP (JL e))];show(f b O).1,(f b O).2⟩
 generalize aN:({s with heap:=s.heap.push {cls:=.type "list",data:=.seq ([]:List Value).toArray},toks:=s.toks}:Shared)=G at I3;have aK:s.heap.push {cls:=.type "list",data:=.seq ([]:List Value).toArray}=G.heap:=by rw[← aN]
 have k3:∀b o,s.heap.get? b=some o->G.heap.get? b=some o:=λb o e=>by rw[← aK];show JI _ e
 have fo:∀b∈fp,b<G.heap.objs.size:=λb O=>by
   show Am (T.obj _ _ st b O) λo e _=>JL (k3 b o e)
 show Tl c.cf c.pc ?_;have aS:((G.heap.push {cls:=.type "dict",data:=.dict #[]}).push {cls:=.type "cell",data:=.cell none}).Ns G.heap.objs.size (λ_=>none):=(Heap.Ns.new G.heap (.type "dict")).keeps λb o e=>JI _ e;have k4:∀b o,G.heap.get? b=some o->((G.heap.push {cls:=.type "dict",data:=.dict #[]}).push {cls:=.type "cell",data:=.cell none}).get? b=some o:=λb o e=>JI _ (JI _ e);have aR:((G.heap.push {cls:=.type "dict",data:=.dict #[]}).push {cls:=.type "cell",data:=.cell none}).IsCell (G.heap.objs.size+1) none:=(Ac (Heap.get?_push_at (by rw[KZ]) rfl) rfl);generalize (G.heap.push {cls:=.type "dict",data:=.dict #[]}).push {cls:=.type "cell",data:=.cell none}=h₁ at *;have I4:=V8 (h₁:=h₁) (tk:=G.toks) c I3 f3 fo ⟨_,aS⟩ aR k4;have a9:tn 0 h₁:=T.keep _ _ _ st λb _ o e=>k4 b o (k3 b o e);have a2:∀{H':Hp},(∀b∈fp,H' b=none)->∀b∈fp,Ff (HF X N' scope cl x0 G (upd H s.heap.objs.size (.lst [])) fp) [] H' b:=λhn b O=>
   (Qk (hn b O) (JP (fo b O)) (I4.ok.GB b O) (.inl O) (λx a h=>(I4.ok.exf b O).2 x a h) λp hp=>absurd (show p∈([]:List (Addr×Obj))from hp) (by simp))
 show B9 (aL G (upd H s.heap.objs.size (.lst [])) fp) λhg aO aJ=>?_;have tr:=aU _ hD;have aD:codeAny (model X.prog X.w) X.A (.compLoop (.ListComp a6 [⟨tg,iter,a8,0⟩] scope pos) 0 (.ref it) (.ref s.heap.objs.size) (compEnvC scope ((x0,G.heap.objs.size+1)::cl) G.heap.objs.size X.env))
     (RR (.ref s.heap.objs.size) G.heap.objs.size) {G with heap:=h₁,toks:=G.toks}:=by
   obtain⟨m0,w0⟩:=w0 _ hD;show Kj (λm s'=>∃i σ' H',Inv (HF X N' scope cl x0 G (upd H s.heap.objs.size (.lst [])) fp) [] σ' H' s'/\tn i s'.heap/\(∀b∈fp,H' b=none)/\W s.heap.objs.size i m σ' H') ?_ m0 (Cr 0 _ _ I4 a9 (λb O=>(f3 b O).1) w0);rintro m s5 ⟨i,σ5,Y,I5,aA,a7,w5⟩;rcases tr i m σ5 Y w5 with⟨stop,qF⟩|⟨go,Ay,An,aI,aH,step⟩
   . show AE (T.done (HF X N' scope cl x0 G (upd H s.heap.objs.size (.lst [])) fp) rfl rfl rfl hc i [] s5 σ5 Y (λ_ _=>False) I5 (a2 a7) aA stop) λr s6 ⟨hr,I6⟩=>?_;subst hr;show Am I6.loc λm6 aM _=>hR _ G _ Y s6 I3 (Wn I3 f3 I6) ⟨m6,aM⟩ I6.free qF
   . show AE (T.item (HF X N' scope cl x0 G (upd H s.heap.objs.size (.lst [])) fp) rfl rfl rfl hc i [] s5 σ5 Y (λ_ _=>False) I5 (a2 a7) aA go) λr s6 ⟨u,hr,h6⟩=>?_;subst hr;show AE h6 λ_ s7 ⟨x,H7,I7,r7,y7,a1,aG⟩=>?_;have aF:=I7.pinned (a2 aG) (T.obj _ _ a1);show AE (hg _ s7 σ5 H7 x u _ aF r7 (step x H7 y7)) λ_ s8 ⟨σ8,H8,I8,q8⟩=>AE (aO _ s8 σ8 H8 _ I8 q8) λok s9 ⟨H9,I9,q9⟩=>?_;have aB:∀{H':Hp} {s':Shared},Inv (HF X N' scope cl x0 G (upd H s.heap.objs.size (.lst [])) fp) ([]++G8 fp s7.heap) σ8 H' s'->(∃U,U<m/\W s.heap.objs.size (i+1) U σ8 H') ->
         ∃U,U<m/\∃i σ' H',Inv (HF X N' scope cl x0 G (upd H s.heap.objs.size (.lst [])) fp) [] σ' H' s'/\tn i s'.heap/\(∀b∈fp,H' b=none)/\W s.heap.objs.size i U σ' H':=fun {H' s'} J' w'=>by
       obtain⟨U,hm,w'⟩:=w';show⟨U,hm,i+1,σ8,H',J'.BD,T.keep _ _ _ a1 λb O o e=>(J'.pin (b,o) (JQ _ (JQ _ (Ch O e)))).1,λb O=>(Am (T.obj _ _ a1 b O) λo e d=>((J'.pin (b,o) (JQ _ (JQ _ (Ch O e)))).2.1)),w'⟩
     cases ok with
     | false=>
       rw[JW (by decide)]at q9 ⊢;show aB I9 (aH _ _ q9)
     | true=>
       rw[KE rfl]at q9 ⊢;show AE (aJ _ s9 σ8 H9 _ I9 q9) λyv aX ⟨y,aW,a4,aQ,qA⟩=>Bp (aI _ _ _ qA) λys a5 aY aP=>?_;show D7 (a4.HW a5) λz z1=>B7 z1 λits nn r hl e=>?_;show OC F.slot_list_append (Ac e rfl) F.entry_list_append (F.args_list_append_2 _ _) (PySem.list_append _ its.toArray nn yv (by rw[JZ];omega)) ⟨e,aB (a4.IZ (its':=its++[yv]) a5 e (by simp) (r.append (.cons aQ .nil)) ?_) aP⟩;rw[JV,MO];omega
 show codeAny_compStart_list aD (T.self _ 0 _ _ _ a9 aD)
def Yg
   (c:FY X scope cl N' n js x0)(hc:X.calm=true)(hi:PI X tg iter wi)
   (a4:∀s3 O fp,PG (HF X N' scope cl x0 s3 O fp) tg g/\IX (HF X N' scope cl x0 s3 O fp) a6 tt/\PE (HF X N' scope cl x0 s3 O fp) a1 te)
   (hs:Kn X iter:=by intro _;rfl):PE X (.ListComp a1 [⟨tg,iter,a6,0⟩] scope pos) (N9 (Er n js) wi g tt te):=by
 intro pins s σ H Q I h;rw[eval_ListComp];show MG (use:=none) rfl hs c.CG c.kind c.names (AE (hi pins s σ H _ I h) λv s1 h1=>AE h1 λa9 s2 h2=>?_);obtain⟨it,fp,tn,J,H2,e,I2,T,a7,f2,h2⟩:=h2;subst e;have a2:∃W:Addr->Nat->Nat->St->Hp->Prop,(∀D,H2 D=none->∃m,W D 0 m (Er n js σ) (upd H2 D (.lst [])))/\∀D,H2 D=none->∀i m σ' H',W D i m σ' H' ->
     (J.stop i H'/\Q (.ref D) H')\/(J.go i H'/\∃(Ay:V->St->Hp->Prop) (An:St->Hp->Prop),(∀y σ3 Y,Ay y σ3 Y->∃ys,Y D=some (.lst ys)/\ys.length<sizeLine/\∃m',m'<m/\W D (i+1) m' σ3 (upd Y D (.lst (ys++[y]))))/\(∀σ3 U,An σ3 U->∃m',m'<m/\W D (i+1) m' σ3 U) /\
       ∀x H2,J.DH i H' x H2->g x σ' H2 λσ3 O=>tt σ3 O λok U=>if ok=true then te σ3 U (λy Y=>Ay y σ3 Y)else An σ3 U):=by
   show⟨λD=>if G:H2 D=none then(h2 D G).choose else λ_ _ _ _=>False,λD G=>?_,λD G=>?_⟩
   . simp only[G,NN];show(h2 D G).choose_spec.1
   . simp only[G,NN];show(h2 D G).choose_spec.2
 show Am a2 λW w0 a8=>Wl (RR:=λacc C=>compPost (model X.prog X.w) X.A X.xe none (EP X pins σ Q) acc C) (Fi:=λD H'=>Q (.ref D) H') (W:=W) c hc a4 I2 T a7 f2 w0 a8 ?_;intro D s3 O H' s' I3 I' ⟨m,hn⟩ hC q;show Aq m hn λh' a5=>(Aw (.ref D) H' (Fz I3 I' hC a5) rfl q)
end
section
def X0 (c:FY X scope cl N' n js x0)(hc:X.calm=true)(hi:QI X tg iter Y)(U:∀O G fp,QG (HF X N' scope cl x0 O G fp) tg g/\QTS (HF X N' scope cl x0 O G fp) a2 tt/\QE (HF X N' scope cl x0 O G fp) a1 te)(hs:Kn X iter:=by intro _;rfl):QE X (.ListComp a1 [⟨tg,iter,a2,0⟩] scope pos) (N9 (Er n js) Y g tt te):=⟨Yg c hc hi.go (λO G fp=>(A6 ((U O G fp).1.go) ((U O G fp).2.1.go) ((U O G fp).2.2.go))) hs⟩
def FY.of (x0:Str)(CG:closureFor scope X.env=pure cl)(k:scope.kind=.function)(hc:∀y∈scope.names,y.2=.cell->y.1=x0)
  (cf:∀(k:Nat) (acc:List (Str×Addr)),cellsFrom k scope.names acc=(x0,k)::acc)(pc:∀h:Heap,pushCells h scope.names=h.push {cls:=.type "cell",data:=.cell none})
  (hn:∀y∈scope.names,y.2=.local->scope.names.lookup y.1=some .local)(hl:N'.length=n+js.length)(a6:∀p∈cl,X.env.cells.lookup p.1=some p.2)(fr:List Str)(a1:cl.map (·.1)=fr)(a5:∀y∈scope.names,y.2=.free->y.1∈fr)
  (a4:∀q∈js.zip (N'.drop n),X.N[q.1]?=some q.2/\scope.names.lookup q.2=some .free/\(X.env.kindOf q.2=some .cell\/X.env.kindOf q.2=some .free)/\q.2≠x0):FY X scope cl N' n js x0:=by
 show⟨CG,k,hn,cf,pc,hc,hl,λx c h=>a6 (x,c) (LA h),λx h=>?_,λi j h=>?_⟩
 .have hm:x∈cl.map (·.1):=by rw[a1];show a5 (x,.free) (LA h) rfl
  cases e:cl.lookup x with
  | some c=>show⟨c,rfl⟩
  | none=>
   rw[List.lookup_eq_none_iff]at e;show Am (LC.mp hm) λp hp O=>?_;have:=e p hp;simp[O]at this
 .have hi:i<js.length:=(List.getElem?_eq_some_iff.mp h).1;have a2:i<(N'.drop n).length:=by rw[List.length_drop];omega
  have G:(N'.drop n)[i]?=some (N'.drop n)[i]:=KG a2;have hz:(j,(N'.drop n)[i])∈js.zip (N'.drop n):=by
   show JJ (i:=i) ?_;rw[List.getElem?_zip_eq_some];show⟨h,G⟩
  show N0 (a4 _ hz) λh1 h2 U Y=>Qj ((N'.drop n)[i]) ?_ h1 h2 U Y;rw[← G,List.getElem?_drop]
def Cc (K:A3)(hl:QE X l tl)(G:X.K=K:=by rfl):QI X tg l (Y0 K tl):=by
 subst G;show Zz hl
def Be (K:A3)(hl:QE X l tl)(G:X.K=K:=by rfl):QI X tg l (iTup K tl):=by
 subst G;show qi_tup hl
def Bk (K:A3)(hc:X.calm=true)(h:QGs X es t)(hn:(assignEach es X.env).length=n:=by rfl)(O:(assignEach es X.env).findIdx? (·.1)=none:=by rfl)(G:X.K=K:=by rfl):QG X (.Tuple es k pos) (gTup K n t):=by
 subst G;show qg_tup hc h hn O
end
noncomputable def Ru (CX:IJ)(P:Program)(w:World)(K:A3)(mg:Bv)(base:Heap)(N:List Str)(qual:Str)(scope:Scope)(f:Addr)(cd:Value)(cl:List (Str×Addr))(A:Around)(outer:List Env)(s:Shared)(H:Hp)(E:XK):Cx where
 prog:=P
 w:=w
 K:=K
 mg:=mg
 base:=base
 A:=A.deeper (PySem.W.envX qual scope s.heap.objs.size f cd cl)
 N:=N
 s₀:=s
 H₀:=H
 env:=PySem.W.envX qual scope s.heap.objs.size f cd cl
 outer:=outer
 stack:=PySem.W.envX qual scope s.heap.objs.size f cd cl::outer
 ex:=[]
 calm:=true
 fn:=λ_=>false
 pn:=[]
 xe:=λe s'=>wpAny (model P w) (A.deeper (PySem.W.envX qual scope s.heap.objs.size f cd cl)) (leaving (PySem.W.envX qual scope s.heap.objs.size f cd cl) e) (λ_ G=>CX outer H s E e G) (λO G=>CX outer H s E O G) s'
structure FP (x:Str)(zs:List Str)(scope:Scope):Prop where
 kind:scope.kind=.function
 co:scope.isCoroutine=false
 gen:scope.isGenerator=false
 par:scope.names.lookup x=some .local
 fre:∀z∈zs,scope.names.lookup z=some .free
 DF:∀y∈scope.names,y.2≠.cell
 all:∀y,scope.names.lookup y=some .free->y∈zs
 nd:(x::zs).Nodup
structure As (cl:List (Str×Addr))(zs:List Str)(vs:List V)(h:Heap)(H:Hp):Prop where
 at_:∀(i:Nat) (z:Str) (v:V),zs[i]?=some z->vs[i]?=some v->∃c u,cl.lookup z=some c/\h.IsCell c (some u)/\RelV v u
 any:∀z c,cl.lookup z=some c->(∃v,h.IsCell c v)/\H c=none
 inj:∀y z c,cl.lookup y=some c->cl.lookup z=some c->y=z
 len:vs.length=zs.length
def Ac6 {CX:IJ}{P:Program}{w:World}{K:A3}
 (S:FP x zs scope)
 (ho:s.heap.get? f=some o)(a9:o.data=.func (PySem.W.kla_fn name qual params body scope cl pm (.ref c') ctv))(a7:s.heap.CodeRec (.ref c') qual)(hr:AV (k+1) A)(G:GO P w K mg base A outer s H)
  (aB:bindArgs (PySem.W.kla_fn name qual params body scope cl pm (.ref c') ctv) ⟨[u],[]⟩=pure [(x,u)])(r:RelV v u)(C:As cl zs vs s.heap H)
  (hb:PE (Ru CX P w K mg base (x::zs) qual scope f (.ref c') cl A outer s H E) body te)(hq:te ((v::vs).map some) H Q) :
  codeAny (model P w) A (.call (.ref f) ⟨[u],[]⟩) (CR CX outer P w H s Q E) s:=by
 have aA:s.heap.NoLimit:=G.mod.nolimit.keeps λb o e=>(G.bs b o e).1;show PySem.W.kla_callFunE hr.depth ho a9 S.co S.gen rfl a7 ?_;rw[aB];show JK (OD S.DF (λy O=>?_) (λh₁ a8 a4=>⟨aA.fresh _ a4,?_⟩) S.kind)
 .rw [JY.mp O];show S.par
 show codeAny _ _ (.expr body (PySem.W.envX qual scope s.heap.objs.size f (.ref c') cl)) _ _
 have Y:∀b o,s.heap.get? b=some o->h₁.get? b=some o:=λb o e=>a4.extBut b o (JP (JL e)) (JI _ e);have a1:∀b:Addr,b∉(Ru CX P w K mg base (x::zs) qual scope f (.ref c') cl A outer s H E).ex:=λb z=>absurd (show b∈([]:List Addr)from z) (by simp);have a5:∀{c:Addr} {v:Option Value},s.heap.IsCell c v->h₁.IsCell c v:=λ⟨o,e,d⟩=>(Aq o (Y _ _ e) d);have I:Inv (Ru CX P w K mg base (x::zs) qual scope f (.ref c') cl A outer s H E) [] ((v::vs).map some) H {s with heap:=h₁,toks:=s.toks+[(x,u)].length}:=by
  show⟨⟨G.mod,S.kind,rfl,rfl,JN _,λy z c h1 h2=>C.inj y z c h1 h2,λy O=>?_,λy c h _=>(nomatch h),λ_=>hr.hd,Around.frames_deeper G.frames,.inr ⟨rfl,rfl⟩,λb z=>absurd z (a1 b),G.bs,G.IS,λb _ _=>a1 b,λb z=>absurd z (a1 b),G.DY,G.frf⟩,
   rfl,G.bare,Un.kept Y,(Ac a8 λi y U h1 h2 h3=>?_),λy c h=>?_,G.AJ.fresh (JN _),λy c h=>(C.any y c h).2,λp hp=>absurd (show p∈([]:List (Addr×Obj))from hp) (by simp),G.AJ.kept Y,?_⟩
  .have O:scope.names.lookup y=some .cell\/scope.names.lookup y=some .free:=O
   rcases O with O|O
   .show absurd rfl (S.DF _ (LA O))
   .have hz:=S.all y O;obtain⟨i,hi⟩:=OF hz;have hl:i<vs.length:=by rw[C.len];show(List.getElem?_eq_some_iff.mp hi).1
    show B5 (C.at_ i y vs[i] hi (KG hl)) λc _ e _=>?_;show⟨c,e⟩
  .cases i with
   | zero=>
    have h1:some x=some y:=h1;have h2:some (some v)=some (some U):=h2;have ex:x=y:=KC h1;have ev:v=U:=KC (KC h2);subst ex ev;show Aq u r (.inl ⟨S.par,by simp⟩)
   | succ i=>
    have a2:zs[i]?=some y:=h1;have a6:vs[i]?=some U:=by
     have h2:(vs.map some)[i]?=some (some U):=h2;rw[KP]at h2
     cases q:vs[i]? with
     | none=>rw[q]at h2;cases h2
     | some a=>rw[q]at h2;cases h2;rfl
    show B7 (C.at_ i y U a2 a6) λc u' e hc rv=>Aq u' rv (.inr ⟨.inr (S.fre y (JJ a2)),(Aq c e (a5 hc))⟩)
  .obtain⟨⟨U,hc⟩,_⟩:=C.any y c h;show⟨U,a5 hc⟩
  .show ((v::vs).map some).length=(x::zs).length
   rw[JR,KN,KN,C.len]
 show PySem.W.kla_codeExpr (LB (hb [] _ _ H Q I hq) (λu' s' hs=>(B7 hs λU H' J rv q=>(D5 U H' J.os J.bare J.base J.AJ rv q))) λe s' hs=>hs)
def BZ (c:Addr)(q:Str):Heap->Prop:=λh=>h.CodeRec (.ref c) q
def BZ.ok (x:h.CodeRec (.ref c) q):AL P w H h c (.ext (BZ c q)):=by
 show Qm (id x) λc0 o vs t e g d v=>?_;cases e;show A6 x ⟨o,g⟩ λh1 h2 ⟨c1,G,a1,t1,U,Y,O,v1⟩ k=>by cases U;show(V9 c G a1 t1 rfl (k G Y) O v1)
def K9 (pos:Pos)(q:Str)(ps:Array Value)(H:Hp):Prop:=ps=#[]\/∃c,ps=#[rawInt pos.line,rawInt pos.col,.ref c]/\H c=some (.ext (BZ c q))
def BM (mg:Bv)(h:Heap):Prop:=∃bm o,mg "__builtins__"=some (.ref bm)/\bm≠builtinsNs/\bm≠mainGlobals/\h.get? bm=some o/\o.cls=.type "module"/\o.dict=some builtinsNs/\o.data=.plain
def DK (f:Addr)(q:Str)(params:Arguments)(body:Expr)(scope:Scope)(cl:List (Str×Addr))(c':Addr):Heap->Prop:=λh=>∃o pm ctv,h.get? f=some o/\o.data=.func (PySem.W.kla_fn "<lambda>" q params body scope cl pm (.ref c') ctv)
def DK.ok (x:DK f q params body scope cl c' h):AL P w H h f (.ext (DK f q params body scope cl c')):=by
 show Da (id x) λo pm ctv g d=>A6 x ⟨o,g⟩ λh1 h2 ⟨G,Y,a1,U,O⟩ k=>(Ht G Y a1 (k G U) O)
def BH.GU {φ:Heap->Prop}(x:BH P w H h)(e:H a=some (.ext φ)):φ h:=(x a _ e).1
def mk_lam {Q:Bf}
   (I:Inv X pins σ H s)(hc:X.env.code=.ref c)(C:PySem.W.CodeHd X.base c P)(B:BM X.mg X.base)(G:H P=some (.FK ps))(aD:K9 pos (X.env.qual++"<lambda>") ps H)(a6:closureFor scope X.env=pure CG)(aH:defaultsOf params X.env=([],[]))
   (k:∀f c' H' s',Inv X pins σ H' s'->H f=none->H' f=some (.ext (DK f (X.env.qual++"<lambda>") params body scope CG c')) ->
     H' c'=some (.ext (BZ c' (X.env.qual++"<lambda>")))->H' P=some (.FK #[rawInt pos.line,rawInt pos.col,.ref c'])->(∀b o,H b=some o->b≠P->H' b=some o)->Q (.ref f) s') :
   wpAny (model X.prog X.w) X.A (eval (.Lambda params body scope pos) X.env) Q X.xe s:=by
 have a4:s.heap.get? P=some (PySem.W.tabObj ps):=I.AJ P _ G;have a7:s.heap.Ns mainGlobals X.mg:=I.mod.glob.keeps I.bk;have nP:∀b o,X.base.get? b=some o->b≠P:=λb o e z=>by
   have:=(I.bs b o e).2;rw[z,G]at this;cases this
 have aA:mainGlobals≠P:=by
   show Da I.mod.glob λo es ep e _=>nP _ _ e
 have U:s.heap.BuiltinsAt X.mg P:=by
   show Jr B λbm o b1 b2 b3 b4 b5=>D5 bm o b1 b2 b3 (nP _ _ b4) (I.bk _ _ b4) b5
 have CS:PySem.W.CodeHd s.heap c P:=C.keeps I.bk;show PySem.W.kla_eval aH ?_
 rcases aD with e0|⟨c0,e0,h0⟩
 . subst e0;show PySem.W.kla_makeFunction (mg:=X.mg) a6 I.ok.glob a7 hc CS a4 trivial rfl aA U λc' ctv h' tk hx a2 a5 aI a8=>?_;have aG:P<s.heap.objs.size:=JL a4;have a9:H c'=none:=I.AJ.fresh a2;have cP:c'≠P:=λz=>absurd (KA aG (z▸a2)) (LJ _);have O:H h'.objs.size=none:=I.AJ.fresh (JU a2 (Nat.le_of_lt a5));have push:∀{b:Addr} {o:Obj} (ob:Obj),h'.get? b=some o->(h'.push ob).get? b=some o:=λob e=>JI _ e
   let H1:Hp:=upd (upd (upd H P (.FK (#[]++#[rawInt pos.line,rawInt pos.col,.ref c']))) c' (.ext (BZ c' (X.env.qual++"<lambda>")))) h'.objs.size (.ext (DK h'.objs.size (X.env.qual++"<lambda>") params body scope CG c'))
   have fP:P≠h'.objs.size:=λz=>by rw[← z,G]at O;cases O
   let fo:Obj:=PySem.W.kla_obj "<lambda>" (X.env.qual++"<lambda>") params body scope CG ((X.mg "__name__").getD .none) c' ctv
   have Y:∀b o,H b=some o->b≠P->H1 b=some o:=λb o e n=>by
     show upd (upd _ c' _) _ _ b=_
     rw[Ak (Aj e O),Ak (Aj e a9),Ak n];show e
   have aJ:∀b o,s.heap.get? b=some o->H b=none->H1 b=none:=λb o e n=>by
     have nb:b≠P:=λz=>by rw[z,G]at n;cases n
     have nc:b≠c':=JP (KA (JL e) a2);have nf:b≠h'.objs.size:=JP (Nat.lt_trans (KA (JL e) a2) a5)
     show upd (upd _ c' _) _ _ b=_
     rw[Ak nf,Ak nc,Ak nb];show n
   have a1:∀b o,b≠P->s.heap.get? b=some o->(h'.push fo).get? b=some o:=λb o n e=>push _ (hx b o n e);have P1:H1 P=some (.FK (#[]++#[rawInt pos.line,rawInt pos.col,.ref c'])):=by
     show upd (upd _ c' _) _ _ P=_
     rw[Ak fP,Ak (ML cP),Ag]
   have F1:H1 h'.objs.size=some (.ext (DK h'.objs.size (X.env.qual++"<lambda>") params body scope CG c')):=Ag;have C1:H1 c'=some (.ext (BZ c' (X.env.qual++"<lambda>"))):=by
     show upd (upd _ c' _) _ _ c'=_
     rw[Ak (JP a5),Ag]
   have AJ:BH X.prog X.w H1 (h'.push fo):=λa o e=>by
     by_cases ef:a=h'.objs.size
     . subst ef;rw[F1]at e;cases e;show DK.ok (Ht fo _ _ (JO _ rfl) rfl)
     by_cases ea:a=c'
     . subst ea;rw[C1]at e;cases e;show BZ.ok (Ad6 aI λc2 o2 aF t2 e2 g2 r2=>ii42 c2 o2 aF t2 e2 (push _ g2) r2)
     . by_cases eP:a=P
       . subst eP;rw[P1]at e;cases e;show push _ a8
       . have e:upd (upd _ c' _) _ _ a=some o:=e;rw[Ak ef,Ak ea,Ak eP]at e;show(I.AJ a o e).CC (λb u U q=>a1 b u (λz=>?_) q) (λb q=>Y b _ q λz=>?_) λb xs q=>Y b _ q λz=>?_
         . rcases U with U|U
           . show eP (U.symm.trans z)
           . rw[z,G]at U;cases U
         . rw[z,G]at q;cases q
         . rw[z,G]at q;cases q
   have un:Un X.fs [] H H1 s.heap (h'.push fo):=by
     show⟨λb o e n _ _=>a1 b o (λz=>by rw[z,G]at n;cases n) e,λb o e n _ _=>⟨o.slots,a1 b o (λz=>by rw[z,G]at n;cases n) e⟩,λb o e n _=>aJ b o e n,λb o e _=>?_,(λb xs e=>Y b _ e (λz=>by rw[z,G]at e;cases e)),(λb o u e=>Y b _ e (λz=>by rw[z,G]at e;cases e)),λb qs e=>?_⟩
     . by_cases z:b=P
       . show⟨_,push _ (z▸a8)⟩
       . show⟨o,a1 b o z e⟩
     . by_cases z:b=P
       . subst z;rw[G]at e;cases e;show⟨_,P1⟩
       . show⟨#[],by rw[Array.append_empty];show Y b _ e z⟩
   show k h'.objs.size c' H1 {s with heap:=h'.push fo,toks:=tk} (I.un un AJ) O F1 C1 P1 Y
 . subst e0;show PySem.W.kla_makeFunctionHit (mg:=X.mg) (cv:=.ref c0) a6 I.ok.glob a7 hc CS a4 trivial ?_ U λctv h' tk hk hsz=>?_
   . show(if((pos.line:Int)==(pos.line:Int)&&(pos.col:Int)==(pos.col:Int))=true then some (Value.ref c0)else _)=_
     rw[KE (by simp)]
   have a1:∀b o (ob:Obj),s.heap.get? b=some o->(h'.push ob).get? b=some o:=λb o ob e=>JI _ (hk b o e);have O:H h'.objs.size=none:=I.AJ.fresh hsz;have aC:P≠h'.objs.size:=λz=>by rw[← z,G]at O;cases O
   have aB:c0≠h'.objs.size:=λz=>by rw[← z,h0]at O;cases O
   show k h'.objs.size c0 _ {s with heap:=_,toks:=tk} (I.laid (o:=.ext (DK h'.objs.size (X.env.qual++"<lambda>") params body scope CG c0)) (λb o e=>a1 b o _ e) hsz (DK.ok (jj31 (JO _ rfl) rfl))) O Ag ?_ ?_ λb o e _=>?_
   . rw[Ak aB];show h0
   . rw[Ak aC];show G
   . rw[Ak (Aj e O)];show e
def tLam (T:Addr)(pos:Pos)(q:Str)(params:Arguments)(body:Expr)(scope:Scope)(cl:List (Str×Addr)):TE:=λ_ H Q=>∃ps,H T=some (.FK ps)/\K9 pos q ps H /\
 ∀f c' H',H f=none->H' f=some (.ext (DK f q params body scope cl c'))->H' c'=some (.ext (BZ c' q))->H' T=some (.FK #[rawInt pos.line,rawInt pos.col,.ref c'])->(∀b o,H b=some o->b≠T->H' b=some o)->Q (.ref f) H'
def qe_lam (hc:X.env.code=.ref c)(C:PySem.W.CodeHd X.base c T)(B:BM X.mg X.base)(a2:closureFor scope X.env=pure CG)(a6:defaultsOf params X.env=([],[])) :
  QE X (.Lambda params body scope pos) (tLam T pos (X.env.qual++"<lambda>") params body scope CG):=by
 show⟨λpins s σ H Q I h=>Bp h λps O a5 k=>mk_lam I hc C B O a5 a2 a6 λf c' H' s' G U a4 a1 Y keep=>(Aw (.ref f) H' G rfl (k f c' H' U a4 a1 Y keep))⟩
structure FnOkC (P:Program)(w:World)(K:A3)(mg:Bv)(base:Heap)(CX:IJ)(k:Nat)(f:Addr)(fd:FuncData)(ps zs:List Str)(sp:List (Str×Addr)->List V->Sp):Prop where
 len:∀cl fv vs H Q E,sp cl fv vs H Q E->vs.length=ps.length
 run:∀(A:Around) (outer:List Env) (s:Shared) (H:Hp) (args:Args) (us:List Value) (vs:List V) (Q:VK) (E:XK) (cl:List (Str×Addr)) (fv:List V),AV k A->GO P w K mg base A outer s H->BindsTo s fd args (ps.zip us)->AF vs us->As cl zs fv s.heap H->sp cl fv vs H Q E ->
  codeAny (model P w) A (.call (.ref f) args) (CR CX outer P w H s Q E) s
def AG.okC {P:Program}{w:World}{K:A3}{mg:Bv}{base:Heap}{CX:IJ}{x qual:Str}{st:Stmt}{f:Addr}{fd:FuncData}{N ps zs:List Str}{k:Nat}{sp:List (Str×Addr)->List V->Sp}(F:AG K x qual st f fd)(S:AB N ps (Af st))
   (len:∀cl fv vs H Q E,sp cl fv vs H Q E->vs.length=ps.length)
   (body:∀(cdv:Value) (A:Around) (outer:List Env) (s:Shared) (H:Hp) (vs:List V) (Q:VK) (E:XK) (cl:List (Str×Addr)) (fv:List V),AV k (A.deeper (envOfC qual (Af st) s.heap.objs.size f cdv))->As cl zs fv s.heap H->sp cl fv vs H Q E ->
     ∃t,IP (Na CX P w K mg base N qual (Af st) f cdv A outer s H E) (Ar st) t/\t {nx:=λ_ H'=>Q .AQ H',rt:=Q} (start N vs) H):FnOkC P w K mg base CX (k+1) f fd ps zs sp:=by
 show Dl F.ex λoc od kV doc pm an z1=>Gp z1 λcdv ct osl z2 lk a4=>?_;subst z2;show⟨len,λA outer t a1 args us vs Q E cl fv Y O bd vl cells pre=>?_⟩;have JB:K.In t.heap:=O.mod.JB.keeps λb o e=>(O.bs b o e).1;show codeAny_call_function Y.depth (JB _ _ lk) rfl S.co S.gen rfl (PySem.W.codeRec_of JB a4) (bd _ _ _ _ (wpAny_newFunctionEnv_cells S.kind (λ⟨n,v⟩ hy=>?_) λenv he t1 a2=>?_))
 . show(S.par n (List.of_mem_zip hy).1).imp id λq=>⟨q,PySem.W.cellsFrom_some _ _ _ (.inl q)⟩
 subst he;have a5:t.heap.NoLimit:=O.mod.nolimit.keeps λb o e=>(O.bs b o e).1;show⟨a5.keeps a2.toInCall.keep,codeAny_func ?_⟩;show Am (body cdv A outer t a1 vs Q E cl fv (Y.deeper _) cells pre) λtm ht hq=>?_;have J:=Oz (CX:=CX) (E:=E) S Y.hd O (len _ _ _ _ _ _ pre) vl a2;show LB (ht.go [] t1 (start N vs) a1 _ J hq) (λfl t2 done=>?_) λe t2 done=>done
 cases fl with
 | ret u=>show Gp done λv σ' U G a6 q=>?_;show D5 v U G.os G.bare G.base G.AJ a6 q
 | next=>show B5 done λσ' U G q=>?_;show D5 .AQ U G.os G.bare G.base G.AJ rfl q
 | brk=>show B5 done λ_ _ _ q=>?_;show q.elim
 | cont=>show B5 done λ_ _ _ q=>?_;show q.elim
structure FnBC (P:Program)(w:World)(K:A3)(mg:Bv)(base:Heap)(k:Nat)(x:Str)(ps zs:List Str)(sp:List (Str×Addr)->List V->Sp):Prop where
 ex:∃f fd,FnOkC P w K mg base AU k f fd ps zs sp/\mg x=some (.ref f)/\PySem.W.keepIn K (.ref f)=true/\Binds K fd ps []
def Inv.cells2 {X:Cx}{pins:Dh}{σ:St}{H:Hp}{s:Shared}(I:Inv X pins σ H s){z1 O:Str}{j1 j2:Nat}{v1 v2:V}(n1:X.N[j1]?=some z1)(n2:X.N[j2]?=some O)(k1:X.env.kindOf z1=some .cell)(k2:X.env.kindOf O=some .cell)
  (h1:σ[j1]?=some (some v1))(h2:σ[j2]?=some (some v2)):As X.env.cells [z1,O] [v1,v2] s.heap H:=by
 show Am I.loc λm _ look=>?_;have one:∀(z:Str) (j:Nat) (v:V),X.N[j]?=some z->X.env.kindOf z=some .cell->σ[j]?=some (some v)->∃c u,X.env.cells.lookup z=some c/\s.heap.IsCell c (some u)/\RelV v u:=λz j v n Y h=>by
  show Am (look j z v n h (.inr (.inl Y))) λu r l=>?_;rcases l with⟨l,_⟩|⟨_,c,e,q⟩
  .rw [Y]at l;cases l
  .show Aw c u e q r
 show⟨λi z v G U=>?_,λz c e=>⟨I.cell z c e,I.BB z c e⟩,I.ok.inj,rfl⟩
 cases i with
 | zero=>cases G;cases U;show one _ _ _ n1 k1 h1
 | succ i=>
  cases i with
  | zero=>cases G;cases U;show one _ _ _ n2 k2 h2
  | succ i=>cases G
def tCallC (cl:List (Str×Addr))(j1 j2:Nat)(sp:List (Str×Addr)->List V->Sp)(t:TA):TE:=λσ H Q=>t σ H λvs H1=>∃G O,σ[j1]?=some (some G)/\σ[j2]?=some (some O)/\sp cl [G,O] vs H1 Q λ_ _ _=>False
structure LamFn (P:Program)(w:World)(K:A3)(mg:Bv)(base:Heap)(k:Nat)(q:Str)(params:Arguments)(body:Expr)(scope:Scope)(x:Str)(zs:List Str)(te:XK->TE):Prop where
 sc:FP x zs scope
 bd:∀(cl:List (Str×Addr)) (pm:Value) (c':Addr) (ctv u:Value),bindArgs (PySem.W.kla_fn "<lambda>" q params body scope cl pm (.ref c') ctv) ⟨[u],[]⟩=pure [(x,u)]
 go:∀(f c':Addr) (cl:List (Str×Addr)) (A:Around) (outer:List Env) (s:Shared) (H:Hp) (E:XK),AV k (A.deeper (PySem.W.envX q scope s.heap.objs.size f (.ref c') cl))->QE (Ru (HS P w) P w K mg base (x::zs) q scope f (.ref c') cl A outer s H E) body (te E)
def As.later (I:Inv X pins σ H s)(ex:X.ex=[])(C:As cl zs fv X.s₀.heap X.H₀):As cl zs fv s.heap H:=by
 have G:∀b:Addr,b∉X.ex:=λb z=>by rw[ex]at z;cases z
 have cell:∀{c:Addr} {v:Option Value},X.H₀ c=none->X.s₀.heap.IsCell c v->s.heap.IsCell c v:=fun {c v} n ⟨o,e,d⟩=>by
  obtain⟨sl,O⟩:=I.base.any e n (G c);show Ac O d
 show⟨λi z v U Y=>?_,λz c e=>?_,C.inj,C.len⟩
 .show B7 (C.at_ i z v U Y) λc u e q r=>Aw c u e (cell (C.any z c e).2 q) r
 .obtain⟨⟨v,q⟩,n⟩:=C.any z c e;show Am (id q) λo g _=>⟨⟨v,cell n q⟩,I.base.free c o g n (G c)⟩
def tTryL (X:Cx)(i ja jr ia:Nat)(C:Addr)(q:Str)(params:Arguments)(body:Expr)(scope:Scope)(zs:List Str)(te:XK->TE)(ts:TS):TS:=λD σ H=>∃f c' cl fv v,σ[ja]?=some (some (.ref f))/\σ[jr]?=some (some v)/\H f=some (.ext (DK f q params body scope cl c'))/\H c'=some (.ext (BZ c' q))/\As cl zs fv X.s₀.heap X.H₀ /\
 te (Lx X.K i C ts D σ) ((v::fv).map some) H λu H2=>D.nx (σ.set ia (some u)) H2
def Zy
  (hN:X.N.Nodup)(hi:X.N[i]?=some n)(hk:X.env.kindOf n=some .local)(aC:X.stack=X.env::X.outer)(aB:X.env.frame=some X.env.locals)(hex:X.ex=[])(L:LamFn X.prog X.w X.K X.mg X.base k q params body scope x zs te)(hr:AV (k+1) X.A)(hg:Gl X cx)(hm:X.mg cx=some (.ref C))
  (na:X.N[ja]?=some O)(va:Vis X.env.scope O)(nr:X.N[jr]?=some G)(vr:Vis X.env.scope G)(nn:X.N[ia]?=some xn)(ln:Loc X.env.scope xn)(hf:T9 X xn)
  (hs:∀a pn,IP (X.EY a pn) (b₀::a6) ts)(aA:Di cx:=by decide)(d1:Di O:=by decide)(d2:(O==("__classdict__":Str))=false:=by decide)(d3:Di G:=by decide)(d4:(G==("__classdict__":Str))=false:=by decide)
  (he:starEach [.Name G pr] X.env=[(false,eval (.Name G pr) X.env)]:=by rfl)(aD:swapsWith (.Call (.Name O p) [.Name G pr] [] cpos) (some (.Name xn pa)) a4.line X.env=pure false:=by rfl) :
  QS X (.Try [.Assign [.Name xn pa] (.Call (.Name O p) [.Name G pr] [] cpos) a4] [.ExceptHandler (some (.Name cx cp)) (some n) (b₀::a6) hpos] [] [] pos) (tTryL X i ja jr ia C q params body scope zs te ts):=by
 show⟨λpins s σ H D I h=>wpAny_Try_except ?_⟩
 let Y:Cx:=X.tryx (X.pn++pins) λe s1=>wpAny (model X.prog X.w) X.A (noteFrame e X.env) (λ_ s2=>wpAny (model X.prog X.w) X.A (setFlight e none) (λ_ s3=>wpAny (model X.prog X.w) X.A (handleBy e X.env [.ExceptHandler (some (.Name cx cp)) (some n) (b₀::a6) hpos]) (SP X pins D) X.xe s3) X.xe s2) X.xe s1
 have hE:PE Y (.Call (.Name O p) [.Name G pr] [] cpos) (λσ' H' Q=>σ'=σ/\∃f c' cl fv v,σ[ja]?=some (some (.ref f))/\σ[jr]?=some (some v)/\H' f=some (.ext (DK f q params body scope cl c'))/\H' c'=some (.ext (BZ c' q))/\As cl zs fv X.s₀.heap X.H₀/\te (Lx X.K i C ts D σ) ((v::fv).map some) H' Q):=by
  intro a2 s1 σ' H1 Q I1 h1;obtain⟨rfl,f,c',cl,fv,v,ha,hv,a1,a9,cells,h1⟩:=h1;show MS (AE (Pw (X:=Y) na va d1 d2 a2 s1 σ' H1 (λv H2=>v=.ref f/\H2=H1) I1 ⟨_,ha,rfl,rfl⟩) λu s2 ⟨v2,H2,I2,r2,ev,eH⟩=>?_);subst ev eH;cases(show u=Value.ref f from r2);obtain⟨o,pm,ctv,go,gd⟩:=(I2.AJ.GU a1:DK f q params body scope cl c' s2.heap);have a5:∀{t:Shared},Inv Y a2 σ' H2 t->PySem.W.FnAt f t.heap:=fun {t} J=>by
   obtain⟨⟨oc,od,dt,sl⟩,pm,ctv,g1,g2⟩:=(J.AJ.GU a1:DK f q params body scope cl c' t.heap);have g2:dt=_:=g2;subst g2;show⟨oc,od,_,sl,g1⟩
  show PySem.W.callWith_F (a5 I2) (AE ((Aa (qe_var (X:=Y) (i:=jr) nr vr d3 d4) Ad).go cpos a2 s2 σ' H2 (λvs H3=>vs=[v]/\H3=H2) I2 ⟨_,hv,rfl,rfl⟩) λus s3 ⟨vs,H3,U,r3,ev,eH⟩=>?_) (by show he) (by rfl);subst ev eH;show⟨a5 U,?_⟩;obtain⟨o3,aF,aG,a8,a7⟩:=(U.AJ.GU a1:DK f q params body scope cl c' s3.heap);have code:s3.heap.CodeRec (.ref c') q:=(U.AJ.GU a9:BZ c' q s3.heap)
  cases r3 with
  | @cons _ u3 _ _ ru rn=>
   cases rn;have I4:=U.FV I.ok rfl;show OS (MH (Ac6 (CX:=HS X.prog X.w) L.sc a8 a7 code hr U.env0 (L.bd _ _ _ _ _) ru (As.later I4 hex cells) (L.go f c' cl X.A X.stack s3 H3 (Lx X.K i C ts D σ') (hr.deeper _)).go h1) λres s' hq=>?_)
   cases res with
   | error e=>show Tz (cp:=cp) (hpos:=hpos) hN hi hk aC aB hg hm aA hs I4 hq
   | ok fl=>
    cases fl with
    | ret u=>show U.after hq
    | next=>show False.elim hq
    | brk=>show False.elim hq
    | cont=>show False.elim hq
 have hS:HU Y [.Assign [.Name xn pa] (.Call (.Name O p) [.Name G pr] [] cpos) a4] _:=Us (X6 (X:=Y) (i:=ia) hN nn ln hE aD hf);show LB (hS [] s σ H D (I.tryx rfl) ⟨rfl,h⟩) (λfl s1 z=>?_) λ_ _ z=>z
 cases fl with
 | next=>
  obtain⟨σ1,H1,J,z⟩:=z;show OL ⟨σ1,H1,J.FV I.ok rfl,z⟩
 | brk=>
  obtain⟨σ1,H1,J,z⟩:=z;show⟨σ1,H1,J.FV I.ok rfl,z⟩
 | cont=>
  obtain⟨σ1,H1,J,z⟩:=z;show⟨σ1,H1,J.FV I.ok rfl,z⟩
 | ret u=>
  obtain⟨v,σ1,H1,J,r,z⟩:=z;show⟨v,σ1,H1,J.FV I.ok rfl,r,z⟩
section
variable {E:Bf}
end
def Inv.froze (I:Inv X pins σ H s)(hd:H d=some u)(G:∀xs,u≠.tup xs)(nf:∀o' U,u≠.EM o' U)(Y:∀ps,u≠.FK ps)(O:∀x,u≠.own x)(e:s.heap.get? d=some o) :
  Inv X pins σ (upd H d (.EM o u)) {s with heap:=s.heap,toks:=t'}:=by
 have keep:∀b o',H b=some o'->b≠d->upd H d (.EM o u) b=some o':=λb o' q n=>by rw[Ak n];show q
 have ok:AL X.prog X.w (upd H d (.EM o u)) s.heap d u:=(I.AJ d u hd).CC (λ_ _ _ q=>q) (λb q=>keep b _ q λz=>by rw[z,hd]at q;cases q;show O _ rfl) λb xs q=>keep b _ q λz=>by rw[z,hd]at q;cases q;show G _ rfl
 show I.un (t':=t') ⟨λb o' q n _ _=>q,λb o' q n _ _=>⟨o'.slots,q⟩,λb o' q n _=>by rw[Ak (λz=>by rw[z,hd]at n;cases n)];show n,λb o' q _=>⟨o',q⟩,λb xs q=>keep b _ q λz=>by rw[z,hd]at q;cases q;show G _ rfl,
  λb o' U q=>keep b _ q λz=>by rw[z,hd]at q;cases q;show nf _ _ rfl,λb ps q=>⟨#[],by rw[Array.append_empty];show keep b _ q λz=>by rw[z,hd]at q;cases q;show Y _ rfl⟩⟩ λa o' q=>?_
 by_cases ha:a=d
 .subst ha;rw[Ag]at q;cases q;show⟨e,ok⟩
 .rw [Ak ha]at q;show(I.AJ a o' q).CC (λ_ _ _ q=>q) (λb q=>keep b _ q λz=>by rw[z,hd]at q;cases q;show O _ rfl) λb xs q=>keep b _ q λz=>by rw[z,hd]at q;cases q;show G _ rfl
noncomputable def Iti (d:Addr)(o:Obj)(kvs:List (Key×V)):It:=
 ⟨λi H=>H d=some (.EM o (.dK kvs))/\i<kvs.length,
  λi H v H'=>∃p k x,H p=none/\v=.ref p/\H'=upd H p (.tup [kV k,x])/\kvs[i]?=some (k,x),
  λi H=>H d=some (.EM o (.dK kvs))/\kvs.length<=i⟩
def iTn (it d:Addr)(n ep:Nat)(i:Nat)(h:Heap):Prop:=∃ok G,IsItemIter h it d i n ep ok G
def U4 (h:K7 k u=true):RelV (kV k) u:=by
 rcases Cm h with⟨i,t,rfl,rfl⟩|⟨x,t,rfl,rfl⟩
 .show⟨t,rfl⟩
 .show⟨t,rfl⟩
def Qg:∀{vs:List (Key×Value)},KV kvs vs->kvs.length=vs.length:=λr=>by
 induction r with
 | nil=>rfl
 | cons _ _ G=>rw[KN,KN,G]
theorem Yx:∀{kvs:List (Key×V)} {vs:List (Key×Value)} {i:Nat} {k:Key} {v:V},KV kvs vs->kvs[i]?=some (k,v)->∃u,vs[i]?=some (k,u)/\RelV v u
 | _,_,i,k,v,.nil,e=>by simp at e
 | _,_,0,k,v,.cons (a:=a) (b:=b) h _,e=>by
  have e:a=(k,v):=by simpa using e
  obtain⟨b1,G⟩:=b;subst e;obtain⟨h1,h2⟩:=h;have h1:k=b1:=h1;subst h1;show Aq G rfl h2
 | _,_,i+1,k,v,.cons _ r,e=>by
  show Am (Yx (i:=i) r (by simpa using e)) λu O U=>Aq u (by simpa using O) U
def Y3 (I:Inv X pins σ H s)(h:H d=some (.EM o (.dK kvs)))(hd:o.data=.dict es ep):∃vs,KV kvs vs/\s.heap.DictAt (B3 X.prog X.w) d vs ep:=by
 show N0 (I.AJ d _ h) λg _ _ z1=>Am z1 λvs r U=>Zd U λo' a1 Y g' ex dd G pp O=>?_;rw[g]at g';cases g';rw[hd]at dd;cases dd;show Aq vs r (D5 o es g ex hd G pp O)
theorem Sm {P:Program}{w:World}{K:A3}{kk}(hd:o.data=.dict es ep) :
  Turn P w K (.Tuple a8 kk pos) (Iti d o kvs) [it] it (iTn it d kvs.length ep) where
 mem:=by simp
 obj:=λi h st c hc=>by
  show G9 st λok O G=>?_;rw[JY.mp hc];show Ac G λv z=>(nomatch z)
 keep:=λi h h' st k=>by
  show G9 st λok O G=>Jm ok O (k _ (by simp) _ G)
 item:=by
  intro X hP hw hK hc i pins s σ H E I U st hg;subst hP hw hK;obtain⟨hz,hi⟩:=hg;show G9 st λok O G=>Am (Y3 I hz hd) λvs r da=>?_;obtain⟨⟨k,v⟩,hv⟩:∃p,kvs[i]?=some p:=⟨_,KG hi⟩;show Am (Yx r hv) λu hu ru=>?_;have len:=Qg r;rw[len]at G;show wpAny_pyNext_items_item G da hu λa2 h' a6 out tup size a5=>Ac rfl (wpAny_letOwnedTupleGo_items (s:={s with heap:=h'}) out λY e2 sb=>?_);have a1:@LT.lt Nat _ it s.heap.objs.size:=JL G;have up:∀c o,c≠it->h'.get? c=some o->Y.get? c=some o:=λc o a4 y=>(sb.2 c a4).trans y;have keep:∀c o,c∉[it]->s.heap.get? c=some o->Y.get? c=some o:=λc o hc y=>by
   have hc:c≠it:=by simpa using hc
   show up c o hc (a5 c o hc y)
  have a7:iTn it d kvs.length ep (i+1) Y:=(Jm a2 u (by rw[len];show e2));have I1:Inv X pins σ (upd H s.heap.objs.size (.tup [kV k,v])) {s with heap:=Y,toks:=s.toks}:=
   I.GR (t':=s.toks) (its:=[a2,u]) U keep (λc hc=>by rw[JY.mp hc];show⟨_,e2⟩) (JN _) (zl 2) (.cons (U4 a6) (.cons ru .nil)) (A8 (up _ _ (KS a1) tup) rfl ⟨_,rfl⟩) (Ac (up _ _ (KS a1) tup) rfl)
  show Ct (.ref s.heap.objs.size) _ I1 rfl (Cr _ k v I.fresh rfl rfl hv) a7 λc hc=>?_;have hc:c=it:=by simpa using hc
  rw[Ak (by rw[hc];show JP a1)];show(U c (by simp[hc])).1
 done:=by
  intro X hP hw hK hc i pins s σ H E I U st hg;subst hP hw hK;obtain⟨hz,hl⟩:=hg;show G9 st λok O G=>Am (Y3 I hz hd) λvs r da=>?_;have len:=Qg r;rw[len]at G;show wpAny_pyNext_items_end (I.ok.hd hc) G da (List.getElem?_eq_none (by omega)) λh' k1=>⟨rfl,I.GY (t':=s.toks) U λc o hc y=>?_⟩;show k1 c o (by simpa using hc) y
 self:=λA i s Q E st h=>by
  show G9 st λok O G=>?_;have hT:s.TypeIs (.ref it) "dict_itemiterator":=(Ac G rfl);show wpAny_pyIter_slot hT F.slot_dict_itemiterator_iter (MJ F.slot_dict_itemiterator_iter hT PySem.W.kcp_entry ?_ (F.args_dict_itemiterator_iter_1 _))
  show wpAny _ _ (ret (.ref it)) _ _ s
  show JK (Ac rfl (Aw "dict_itemiterator" _ hT F.slot_dict_itemiterator_next.lookup h))
def iItems (K:A3)(G:TE):TI:=λσ H R=>G σ H λx H1=>∃d kvs,x=.ref d/\H1 d=some (.dK kvs)/\∀o,R (Iti d o kvs) (upd H1 d (.EM o (.dK kvs)))
def Xx {kk}(ho:QE X o td)(a5:attributeBase o "items" X.env (eval o X.env)=eval o X.env:=by rfl)(a6:(apos.endLine==cpos.line)=true:=by rfl) :
  QI X (.Tuple a7 kk a8) (.Call (.Attribute o "items" apos) [] [] cpos) (iItems X.K td):=by
 show⟨λpins s σ H R I h=>wpAny_Call_method0_late a5 a6 (AE (ho.go pins s σ H _ I h) λv s1 ⟨x,H1,Y,r1,d,kvs,ex,hd,q⟩=>?_)⟩;subst ex;cases r1;show B9 (Y.AJ d _ hd) λzl hs z1=>Am z1 λvs r z2=>Zd z2 λG es ep g ex dd a1 pp nn=>?_;have U:s1.heap.DictOf (B3 X.prog X.w) d vs:=(Qh G es ep g ex dd a1 pp nn);show D5 "dict" "dict.items" PySem.F.plainAttrs_dict PySem.F.slot_dict_items PySem.F.type_dict_items U.typeIs ?_ (Calls.callWith_builtin rfl (PySem.evalArgs_none ?_))
 .intro a e;cases e;show Aq G g ex.2.1
 .show (call_meetsIn F.slot_dict_items U.typeIs F.entry_dict_items (F.args_dict_items_1 _) (meets_dict_items (B3 X.prog X.w) d hs) ⟨⟨vs,U⟩,?_⟩);have O:Inv X pins σ H1 {s1 with heap:=s1.heap.push {cls:=.type "dict_items",data:=.fields #[.ref d]}}:=Y.kept (t':=s1.toks) λb o q=>JI _ q;have g2:(s1.heap.push {cls:=.type "dict_items",data:=.fields #[.ref d]}).get? d=some G:=JI _ g;have len:=Qg r;show wpAny_pyIter_items (knd:=B3 X.prog X.w) (kvs:=vs) (ep:=ep) (A8 (JO _ rfl) rfl rfl) (D5 G es g2 ex dd a1 pp nn) ?_;have I3:=(O.froze (o:=G) (t':=s1.toks) hd (λ_ z=>nomatch z) (λ_ _ z=>nomatch z) (λ_ z=>nomatch z) (λ_ z=>nomatch z) g2);have I4:=I3.kept (t':=s1.toks) (h':=(s1.heap.push {cls:=.type "dict_items",data:=.fields #[.ref d]}).push {cls:=.type "dict_itemiterator",data:=.fields #[.none,.bool false,.ref d,.int 0 0,.int vs.length 0,.int ep 0,.none,.none]}) λb o q=>JI _ q;have a2:d<s1.heap.objs.size:=JL g;show B8 _ [(s1.heap.push {cls:=.type "dict_items",data:=.fields #[.ref d]}).objs.size] (iTn _ d kvs.length ep) (Iti d G kvs) _ rfl I4 (Sm dd) (Jm .none .none (by rw[len];show JO _ rfl)) (λc hc=>?_) (q G);have hc:c=(s1.heap.push {cls:=.type "dict_items",data:=.fields #[.ref d]}).objs.size:=by simpa using hc
  subst hc;show O.IB (JN _) ?_;have a4:(s1.heap.push {cls:=.type "dict_items",data:=.fields #[.ref d]}).objs.size≠d:=λz=>by
   have e1:(s1.heap.push {cls:=.type "dict_items",data:=.fields #[.ref d]}).objs.size=s1.heap.objs.size+1:=KZ _ _;have e2:@LT.lt Nat _ (s1.heap.objs.size+1) s1.heap.objs.size:=by rw[← e1,z];show a2
   show Nat.not_succ_lt_self e2
  rw[Ak a4];show O.AJ.fresh (JN _)
def Wd {d:Addr}{o:Obj}{kvs:List (Key×V)}{g:TG}{tb:TS}{D:Ends}{σ:St}{H:Hp}(Pv:Nat->St->Hp->Prop)(U:Pv 0 σ H)(hl:∀i σ H,i<=kvs.length->Pv i σ H->H d=some (.EM o (.dK kvs)))
  (hs:∀i k x σ H p,kvs[i]?=some (k,x)->Pv i σ H->H p=none->g (.ref p) σ (upd H p (.tup [kV k,x])) λσ2 H2=>tb {D with nx:=Pv (i+1),ct:=Pv (i+1),bk:=D.nx} σ2 H2)(hd:∀σ H,Pv kvs.length σ H->D.nx σ H) :
  ∃W:Nat->Nat->St->Hp->Prop,(∃m,W 0 m σ H)/\∀i m σ H,W i m σ H ->
   ((Iti d o kvs).stop i H/\D.nx σ H)\/((Iti d o kvs).go i H/\∃N:St->Hp->Prop,(∀σ' H',N σ' H'->∃G,G<m/\W (i+1) G σ' H')/\∀x H',(Iti d o kvs).DH i H x H'->g x σ H' λσ2 H2=>tb {D with nx:=N,ct:=N,bk:=D.nx} σ2 H2):=by
 show Aq (λi m σ H=>m=kvs.length-i/\i<=kvs.length/\Pv i σ H) (Bc kvs.length (by simp) (LD _) U) ?_;rintro i m σ H ⟨rfl,hi,p⟩;have z:=hl i σ H hi p
 rcases Nat.lt_or_ge i kvs.length with lt|O
 .show .inr ⟨⟨z,lt⟩,(Aq (Pv (i+1)) (λσ' H' Y=>(Ep (kvs.length-(i+1)) (by omega) rfl lt Y)) λx H' y=>?_)⟩;show Jq y λt k x' ht z1 z2 e=>?_;subst z1 z2;show hs i k x' σ H t e p ht
 .obtain rfl:i=kvs.length:=Nat.le_antisymm hi O;show .inl ⟨⟨z,JN _⟩,hd σ H p⟩
end L2
namespace PySem.SeqAt
open PySem PySem.Spec
end PySem.SeqAt
namespace L2
open PySem PySem.Spec PyProof.Rows
def AD.up {P:Program}{w:World}{K:A3}{mg:Bv}{base:Heap}{CX:IJ}{k:Nat}{f:Addr}{fd:FuncData}{ps:List Str}{sp:Sp}(F:AD P w K mg base AU k f fd ps sp):AD P w K mg base CX k f fd ps sp:=
 ⟨F.len,λA outer s H args us vs Q E U O G Y hs=>MH (F.run A outer s H args us vs Q E U O G Y hs) λr s' h=>by
  cases r with
  | error e=>show False.elim h
  | ok fl=>cases fl<;>show h⟩
section
end
mutual
def PD (H:Hp):V->PyData->Prop
 | v,.none=>v=.AQ
 | v,.int i=>v=.int i
 | v,.str x=>v=.str x
 | v,.tuple ds=>∃a vs,v=.ref a/\H a=some (.tup vs)/\PDs H vs ds
 | _,_=>False
def PDs (H:Hp):List V->List PyData->Prop
 | vs,[]=>vs=[]
 | vs,d::ds=>∃v vr,vs=v::vr/\PD H v d/\PDs H vr ds
end
section
mutual
theorem PD.reads (I:Inv X pins σ H s):∀{d:PyData} {v:V} {u:Value},PD H v d->RelV v u->Reads s.heap u d []
 | .none,v,u,h,r=>by cases(show v=.AQ from h);cases r;show .none
 | .int i,v,u,h,r=>by cases(show v=.int i from h);obtain⟨t,rfl⟩:=r;show .int _ _
 | .str x,v,u,h,r=>by cases(show v=.str x from h);obtain⟨t,rfl⟩:=r;show .str _ _
 | .tuple ds,v,u,h,r=>by
  show B7 h λa vs z1 ha hs=>?_;subst z1;cases r;show Bp (I.tuple (AC.of ha)) λits rv ht _=>?_;show Bp ht λo ho hc z1=>?_;obtain⟨n,hd⟩:=z1;show .tuple ho hc hd (PDs.reads I hs rv)
 | .bool _,v,u,h,r=>h.elim
 | .list _,v,u,h,r=>h.elim
 | .dict _,v,u,h,r=>h.elim
theorem PDs.reads (I:Inv X pins σ H s):∀{ds:List PyData} {vs:List V} {us:List Value},PDs H vs ds->AF vs us->ReadsAll s.heap us ds []
 | [],vs,us,h,r=>by cases(show vs=[] from h);cases r;show .nil
 | d::ds,vs,us,h,r=>by
  show B7 h λv vr z1 h1 h2=>?_;subst z1
  cases r with
  | cons r1 r2=>show .cons (PD.reads I h1 r1) (PDs.reads I h2 r2)
end
end
def Ko (s:AA H H1)(h:H d=none):AA H (upd H1 d o):=λb u q=>by rw[Ak (Aj q h)];show s b u q
def Bx {α:Type}{l:List α}{i:Nat}{x:α}(h:l[i]?=some x):l.take (i+1)=l.take i++[x]:=by
 rw[List.take_succ,h];rfl
def T4 (a b:Str):decide (V.str a=V.str b)=decide (a=b):=by
 rw[MZ,MW,MW];show⟨V.str.inj,LR V.str⟩
def join (J:L2.St->Hp->Prop)(h1:∀σ' H',J σ' H'->u D σ' H')(h2:(∀σ' H',J σ' H'->u D σ' H')->Zp t u D σ H):Zp t u D σ H:=h2 h1
theorem Paired.len {α β:Type}{F:α->β->Prop}:∀{l:List α} {m:List β},Paired F l m->l.length=m.length
 | _,_,.nil=>rfl
 | _,_,.cons _ t=>by simp[Paired.len t]
theorem Paired.at {α β:Type}{F:α->β->Prop}:∀{l:List α} {m:List β} {i:Nat} {x:α},Paired F l m->l[i]?=some x->∃y,m[i]?=some y/\F x y
 | _,_,i,x,.nil,h=>by simp at h
 | _,_,0,x,.cons r _,h=>by simp at h;subst h;show Ac rfl r
 | _,_,i+1,x,.cons _ t,h=>by
  show Am (Paired.at (i:=i) t (by simpa using h)) λy e r=>Aq y (by simpa using e) r
def norm {D:L2.St->Hp->Prop}(e:σ=σ')(h:D σ' H):D σ H:=e▸h
theorem Paired.appP {α β:Type}{F:α->β->Prop}:∀{l G:List α} {m O:List β},Paired F l m->Paired F G O->Paired F (l++G) (m++O)
 | _,_,_,_,.nil,h=>h
 | _,_,_,_,.cons q r,h=>.cons q (Paired.appP r h)
theorem Ox:∀{kvs:List (Key×V)} {vs:List (Key×Value)} {its:List Value},KV kvs vs->its.length=vs.length->(∀(j:Nat) v,its[j]?=some v->∃k x,vs[j]?=some (k,x)/\K7 k v=true)->AF (kvs.map λp=>kV p.1) its
 | _,_,[],.nil,_,_=>.nil
 | _,_,u::us,.nil,h,_=>by cases h
 | _,_,[],.cons _ _,h,_=>by cases h
 | _,_,u::us,.cons (a:=a) (b:=b) h r,hl,U=>by
  show B5 (U 0 u rfl) λk x G O=>?_;have G:b=(k,x):=by simpa using G
  have Y:a.1=k:=by rw[h.1,G]
  show .cons (by show RelV (kV a.1) u;rw[Y];show U4 O) (Ox r (by simpa using hl) λj v e=>by
   show B5 (U (j+1) v (by simpa using e)) λk x G O=>(Ce k x (by simpa using G) O))
def T6 (hc:X.calm=true):Fm X (.type "list") (λxs H Q=>∃(a:Addr) (kvs:List (Key×V)),xs=[.ref a]/\Rd H a (.dK kvs)/\∀l,H l=none->Q (.ref l) (upd H l (.lst (kvs.map λp=>kV p.1)))):=by
 intro pins s σ H xs us Q I r h;show B7 h λa kvs z1 ha q=>?_;subst z1;show Am (K5 r) λu z1 ru=>?_;subst z1;cases ru;show B9 (O7 I.AJ ha) λz hS z1=>Am z1 λvs G dd=>?_;obtain⟨ep,da⟩:=dd.dictAt;have len:=Qg G;show PySem.W.kdl_call (PySem.W.kdl_dict (knd:=B3 X.prog X.w) (kvs:=vs) (ep:=ep) hS) (I.ok.hd hc) da (by rw[← len];show z) λh' tk O c' hk Y U=>?_;have rv:AF (kvs.map λp=>kV p.1) O.toList:=Ox G (by rw[Array.length_toList];show U.1) λj v e=>U.2 j v (by rw[← Array.getElem?_toList];show e);show Aw (.ref s.heap.objs.size) _ (I.laid (t':=tk) hk (JN _) (show AL X.prog X.w _ h' _ (.lst _)from⟨by rw[JR];show z,(Ce O.toList c' rv (by rw[Array.toArray_toList];show Y))⟩)) rfl (q _ (I.AJ.fresh (JN _)))
section
variable {R:Result->Shared->Prop}
abbrev FJ (G O tg iter Y a1:Expr)(U:List Expr)(scope:Scope)(pos:Pos):Expr:=.DictComp G O [⟨tg,iter,[],0⟩,⟨Y,a1,U,0⟩] scope pos
def R5 (O U tg iter a1 G:Expr)(Y:List Expr)(scope:Scope)(pos:Pos)(it:Value)(D:Addr)(env:Env) :
  compTurn (FJ O U tg iter a1 G Y scope pos) 0 it (.ref D) env=(do
   standAt iter.pos
   match ← pyNext it with
   | none=>pure (.done .next)
   | some v=>
    letOwnedTupleGo tg it v
    assign tg env v
    let x ← eval G env
    standAt G.pos
    let x ← foldedSetIterable G env x
    let _ ← runOwn (.compStart (FJ O U tg iter a1 G Y scope pos) 1 (← holding [x] (pyIter x)) (.ref D) env) env
    again (.compLoop (FJ O U tg iter a1 G Y scope pos) 0 it (.ref D) env)):=by rfl
def R4 (O G tg iter U a2:Expr)(a1:List Expr)(scope:Scope)(pos:Pos)(it:Value)(D:Addr)(env:Env) :
   compTurn (FJ O G tg iter U a2 a1 scope pos) 1 it (.ref D) env=(do
     standAt a2.pos
     match ← pyNext it with
     | none=>pure (.done .next)
     | some v=>
       letOwnedTupleGo U it v
       assign U env v
       let mut ok:=true
       for c in a1 do
         if ok then ok ← isTrue c env (eval c env)
       if ok then
         (do
           let Y ← eval O env
           let vv ← holding [Y] (eval G env)
           standAt {O.pos with endLine:=G.pos.endLine,endCol:=G.pos.endCol}
           holding [Y,vv] (dictSet D Y vv))
       again (.compLoop (FJ O G tg iter U a2 a1 scope pos) 1 it (.ref D) env)):=by rfl
def R7 (I:Nat->Shared->Prop)
   (a7:∀n s,I n s->wpAny (model prog w) A (pyNext it) (λr U=>match r with
     | none=>R (.ok .next) U
     | some v=>wpAny (model prog w) A (letOwnedTupleGo tg it v) (λ_ a4=>wpAny (model prog w) A (assign tg env v) (λ_ s₂=>
         wpAny (model prog w) A (eval G env) (λx s₃=>wpAny (model prog w) A (pyIter x) (λa2 s₄=>
           codeAny (model prog w) A (.compStart (FJ Y vx tg iter a5 G a1 scope pos) 1 a2 (.ref D) env) (λr s₅=>r=.ok .next/\∃m,m<n/\I m s₅) s₄) (λ_ _=>False) s₃) (λ_ _=>False) s₂) (λ_ _=>False) a4) (λ_ _=>False) U) (λ_ _=>False) s)
   (hf:∀x,foldedSetIterable G env x=pure x)(n:Nat)(h:I n s) :
   codeAny (model prog w) A (.compLoop (FJ Y vx tg iter a5 G a1 scope pos) 0 it (.ref D) env) R s:=by
 have nv:∀{α:Type} {t:Sem α} {Q:α->Shared->Prop} {E':Bf} {s':Shared},wpAny (model prog w) A t Q (λ_ _=>False) s'->wpAny (model prog w) A t Q E' s':=
   λh=>LB h (λ_ _ q=>q) λ_ _ z=>z.elim
 show codeAny_loop rfl I (λn s hI=>?_) n h
 show wpAny _ A ((compTurn (FJ Y vx tg iter a5 G a1 scope pos) 0 it (.ref D) env).onRaise (λx=>do noteFrame x env;theTreesLotGoes x)) _ _ s
 show wpAny_noted (nv ?_);rw[R5];show JH (LS (JH (AE (a7 n s hI) (λr U h₁=>?_))))
 cases r with
 | none=>show JK h₁
 | some v=>
   show JH (AE h₁ (λ_ a4 a6=>JH (AE a6 (λ_ s₂ h₂=>JH (AE h₂ (λx s₃ h₃=>JH (LS ?_)))))));rw[hf];show JH (JK (JH (LL (AE h₃ λa2 s₄ h₄=>JH (wpAny_runOwn (MH h₄ λr s₅ O=>?_))))));obtain⟨rfl,O⟩:=O;show JK ⟨rfl,O⟩
def R6 (I:Nat->Shared->Prop)
   (a5:∀n s,I n s->wpAny (model prog w) A (pyNext it) (λr O=>match r with
     | none=>R (.ok .next) O
     | some v=>wpAny (model prog w) A (letOwnedTupleGo U it v) (λ_ a2=>wpAny (model prog w) A (assign U env v) (λ_ Y=>
         wpAny (model prog w) A (forIn a1 true λc r=>if r=true then do let ok ← isTrue c env (eval c env);pure (ForInStep.yield ok)else pure (ForInStep.yield r)) (λok s₃=>
           ok=false/\∃m,m<n/\I m s₃) (λ_ _=>False) Y) (λ_ _=>False) a2) (λ_ _=>False) O) (λ_ _=>False) s)
   (n:Nat)(h:I n s) :
   codeAny (model prog w) A (.compLoop (FJ kx vx tg iter U a6 a1 scope pos) 1 it (.ref D) env) R s:=by
 have nv:∀{α:Type} {t:Sem α} {Q:α->Shared->Prop} {E':Bf} {s':Shared},wpAny (model prog w) A t Q (λ_ _=>False) s'->wpAny (model prog w) A t Q E' s':=
   λh=>LB h (λ_ _ q=>q) λ_ _ z=>z.elim
 show codeAny_loop rfl I (λn s hI=>?_) n h
 show wpAny _ A ((compTurn (FJ kx vx tg iter U a6 a1 scope pos) 1 it (.ref D) env).onRaise (λx=>do noteFrame x env;theTreesLotGoes x)) _ _ s
 show wpAny_noted (nv ?_);rw[R4];show JH (LS (JH (AE (a5 n s hI) (λr O h₁=>?_))))
 cases r with
 | none=>show JK h₁
 | some v=>
   show JH (AE h₁ (λ_ a2 a4=>JH (AE a4 (λ_ Y h₂=>JH (AE h₂ (λok s₃ G=>?_))))));obtain⟨rfl,G⟩:=G;show JK ⟨rfl,G⟩
def Qp
  (h0:codeAny (model prog w) A (.compLoop (FJ O U tg iter a2 G Y scope pos) 1 it acc env) R s)
  (h:wpAny (model prog w) A (pyIter it) (λa1 s'=>codeAny (model prog w) A (.compLoop (FJ O U tg iter a2 G Y scope pos) 1 a1 acc env) R s') (λ_ _=>False) s) :
  codeAny (model prog w) A (.compStart (FJ O U tg iter a2 G Y scope pos) 1 it acc env) R s:=by
 show codeAny_of_tree ?_
 show wpAny _ A ((compStart (FJ O U tg iter a2 G Y scope pos) 1 it acc env).onRaise (λx=>do noteFrame x env;standAt theWindowsPlace)) _ _ s
 show wpAny_notedAt ?_;unfold compStart
 show wpAny _ A (ask >>= _) _ _ s
 show JH (wpAny_askSetting (wpAny_ite ?_));split
 .first
   | show JH (JK (JK (And.intro rfl h0)))
   | show JK (And.intro rfl h0)
 .first
   | show JH (NU (JH (LS (JH (LB h (λa1 s' h'=>JK (And.intro rfl h')) λ_ _ x=>x.elim)))))
   | (show JH (NU ?_);show wpAny _ _ (standAt G.pos >>= _) _ _ s;show JH (LS (JH (LB h (λa1 s' h'=>JK (And.intro rfl h')) λ_ _ x=>x.elim))))
end
def tN (tt:TT):TS:=λD σ H=>tt σ H λok H'=>ok=false/\D.nx σ H'
def Ad2 (O:TI)(G:TG)(tt:TT):TS:=λD σ H=>tFor O G (tN tt) {nx:=D.nx,rt:=λ_ _=>False} σ H
def Xg (κ:St->St)(Y:TI)(g:TG)(a1:TI)(U:TG)(tt:TT):TE:=λσ H Q=>Y σ H λJ H1=>∀D,H1 D=none->∃W:Nat->Nat->St->Hp->Prop,(∃m,W 0 m (κ σ) (upd H1 D (.dK [])))/\∀i m σ' H',W i m σ' H' ->
 (J.stop i H'/\Q (.ref D) H')\/(J.go i H'/\∃N:St->Hp->Prop,(∀σ3 G,N σ3 G->∃O,O<m/\W (i+1) O σ3 G)/\∀x H2,J.DH i H' x H2->g x σ' H2 λσ3 G=>Ad2 a1 U tt {nx:=N,ct:=N,bk:=λ_ H'=>Q (.ref D) H',rt:=λ_ _=>False} σ3 G)
section
def Wm {E:Bf}
  {RR:Value->Addr->Result->Shared->Prop}{tn:Nat->Heap->Prop}{W:Addr->Nat->Nat->St->Hp->Prop}{Fi:Addr->Hp->Prop}
  (c:AS X scope cl N' n js)(hc:X.calm=true)
  (aj:∀G Y fp,PG (AY X N' scope cl G Y fp) tg g/\PI (AY X N' scope cl G Y fp) a1 a2 az/\PG (AY X N' scope cl G Y fp) a1 g2/\IX (AY X N' scope cl G Y fp) a7 tt)
  (hf:∀a x,foldedSetIterable a2 (compEnvC scope cl a X.env) x=pure x)
  (I:Inv X pins σ H s)(T:Turn X.prog X.w X.K tg J fp it tn)(st:tn 0 s.heap)(f:∀b∈fp,Ff X pins H b)
  (w0:∀D,H D=none->∃m,W D 0 m (Er n js σ) (upd H D (.dK [])))
  (b9:∀D,H D=none->∀i m σ' H',W D i m σ' H'->(J.stop i H'/\Fi D H')\/(J.go i H'/\∃N:St->Hp->Prop,(∀σ3 Y,N σ3 Y->∃U,U<m/\W D (i+1) U σ3 Y)/\∀x H2,J.DH i H' x H2->g x σ' H2 λσ3 Y=>Ad2 az g2 tt {nx:=N,ct:=N,bk:=λ_ H'=>Fi D H',rt:=λ_ _=>False} σ3 Y))
  (hR:∀(D:Addr) (G:Shared) (Y H':Hp) (s':Shared),Inv X pins σ Y G->Inv X pins σ H' s'->(∃m,s'.heap.Ns G.heap.objs.size m)->H' G.heap.objs.size=none->Fi D H'->RR (.ref D) G.heap.objs.size (.ok .next) s') :
  wpAny (model X.prog X.w) X.A newDict (λacc s₃=>wpAny (model X.prog X.w) X.A (newFunctionEnv scope X.env.globals cl [] X.env.qual none .none (some X.env)) (λaK s₄=>
   codeAny (model X.prog X.w) X.A (.compStart (FJ kx vx tg iter a1 a2 a7 scope pos) 0 (.ref it) acc {aK with scope:=relabel scope X.env}) (RR acc aK.locals) s₄) E s₃) E s:=by
 have hD:H s.heap.objs.size=none:=I.fresh;have I3:Inv X pins σ (upd H s.heap.objs.size (.dK [])) {s with heap:=s.heap.push {cls:=.type "dict",data:=.dict #[]},toks:=s.toks}:=I.laid (t':=s.toks) (λ_ _ q=>JI _ q) (JN _) (M7 s.heap I.big);show MD ?_;have f3:∀b∈fp,Ff X pins (upd H s.heap.objs.size (.dK [])) b:=λb O=>by
  show Am (T.obj _ _ st b O) λo e _=>?_;show⟨by rw[Ak (JP (JL e))];show(f b O).1,(f b O).2⟩
 generalize al:({s with heap:=s.heap.push {cls:=.type "dict",data:=.dict #[]},toks:=s.toks}:Shared)=G at I3;have ah:s.heap.push {cls:=.type "dict",data:=.dict #[]}=G.heap:=by rw[← al]
 have k3:∀b o,s.heap.get? b=some o->G.heap.get? b=some o:=λb o e=>by rw[← ah];show JI _ e
 have fo:∀b∈fp,b<G.heap.objs.size:=λb O=>by
  show Am (T.obj _ _ st b O) λo e _=>JL (k3 b o e)
 show OD c.DF (by intro y hy;simp at hy) (λh₁ b7 b8=>?_) c.kind;have k4:∀b o,G.heap.get? b=some o->h₁.get? b=some o:=λb o e=>b8.extBut b o (JP (JL e)) (JI _ e);have I4:=M1 (h₁:=h₁) (tk:=G.toks+([]:List (Str×Value)).length) c I3 f3 fo ⟨_,b7⟩ k4;have aI:tn 0 h₁:=T.keep _ _ _ st λb _ o e=>k4 b o (k3 b o e);have aA:∀{H':Hp},(∀b∈fp,H' b=none)->∀b∈fp,Ff (AY X N' scope cl G (upd H s.heap.objs.size (.dK [])) fp) [] H' b:=λhn b O=>
  (Qk (hn b O) (JP (fo b O)) (I4.ok.GB b O) (.inl O) (λx a h=>(f b O).2.2.2.2.1 x a (c.sub x a h)) λp hp=>absurd (show p∈([]:List (Addr×Obj))from hp) (by simp))
 show N0 (aj G (upd H s.heap.objs.size (.dK [])) fp) λhg ai ag am=>?_;have tr:=b9 _ hD;have aM:codeAny (model X.prog X.w) X.A (.compLoop (FJ kx vx tg iter a1 a2 a7 scope pos) 0 (.ref it) (.ref s.heap.objs.size) (compEnvC scope cl G.heap.objs.size X.env))
   (RR (.ref s.heap.objs.size) G.heap.objs.size) {G with heap:=h₁,toks:=G.toks+([]:List (Str×Value)).length}:=by
  obtain⟨m0,w0⟩:=w0 _ hD;show R7 (λm s'=>∃i σ' H',Inv (AY X N' scope cl G (upd H s.heap.objs.size (.dK [])) fp) [] σ' H' s'/\tn i s'.heap/\(∀b∈fp,H' b=none)/\W s.heap.objs.size i m σ' H') ?_ (hf _) m0 (Cr 0 _ _ I4 aI (λb O=>(f3 b O).1) w0);rintro m s5 ⟨i,σ5,H5,I5,aJ,aG,w5⟩;rcases tr i m σ5 H5 w5 with⟨stop,qF⟩|⟨go,N,hN,step⟩
  .show AE (T.done (AY X N' scope cl G (upd H s.heap.objs.size (.dK [])) fp) rfl rfl rfl hc i [] s5 σ5 H5 (λ_ _=>False) I5 (aA aG) aJ stop) λr s6 ⟨hr,I6⟩=>?_;subst hr;show Am I6.loc λm6 ak _=>hR _ G _ H5 s6 I3 (Nb I3 f3 I6) ⟨m6,ak⟩ I6.free qF
  .show AE (T.item (AY X N' scope cl G (upd H s.heap.objs.size (.dK [])) fp) rfl rfl rfl hc i [] s5 σ5 H5 (λ_ _=>False) I5 (aA aG) aJ go) λr s6 ⟨u,hr,h6⟩=>?_;subst hr;show AE h6 λ_ s7 ⟨x,H7,I7,r7,y7,a8,aa⟩=>?_;have aZ:=I7.pinned (aA aa) (T.obj _ _ a8);show AE (hg _ s7 σ5 H7 x u _ aZ r7 (step x H7 y7)) λ_ s8 ⟨σ8,H8,I8,q8⟩=>?_;have b5:∀{σ':St} {H':Hp} {s':Shared},Inv (AY X N' scope cl G (upd H s.heap.objs.size (.dK [])) fp) ([]++G8 fp s7.heap) σ' H' s'->(∃U,U<m/\W s.heap.objs.size (i+1) U σ' H') ->
     ∃U,U<m/\∃i σ' H',Inv (AY X N' scope cl G (upd H s.heap.objs.size (.dK [])) fp) [] σ' H' s'/\tn i s'.heap/\(∀b∈fp,H' b=none)/\W s.heap.objs.size i U σ' H':=fun {σ' H' s'} J' w'=>by
    obtain⟨U,hm,w'⟩:=w';show⟨U,hm,i+1,σ',H',J'.BD,T.keep _ _ _ a8 λb O o e=>(J'.pin (b,o) (JQ _ (JQ _ (Ch O e)))).1,λb O=>(Am (T.obj _ _ a8 b O) λo e d=>((J'.pin (b,o) (JQ _ (JQ _ (Ch O e)))).2.1)),w'⟩
   show AE (ai _ s8 σ8 H8 _ I8 q8) λv2 s9 h9=>AE h9 λbF as ac=>?_;show Nz ac λao a6 ax J2 aQ e2 aU T2 aN aF z1=>Am z1 λW2 z2 bE=>?_;obtain⟨m2,w2⟩:=z2;subst e2;have aB:∀{H':Hp},(∀b∈a6,H' b=none)->∀b∈a6,Ff (AY X N' scope cl G (upd H s.heap.objs.size (.dK [])) fp) ([]++G8 fp s7.heap) H' b:=λhn b O=>⟨hn b O,(aF b O).2⟩;have aP:codeAny (model X.prog X.w) X.A (.compLoop (FJ kx vx tg iter a1 a2 a7 scope pos) 1 (.ref ao) (.ref s.heap.objs.size) (compEnvC scope cl G.heap.objs.size X.env))
     (λr s₅=>r=.ok .next/\∃U,U<m/\∃i σ' H',Inv (AY X N' scope cl G (upd H s.heap.objs.size (.dK [])) fp) [] σ' H' s₅/\tn i s₅.heap/\(∀b∈fp,H' b=none)/\W s.heap.objs.size i U σ' H') as:=by
    show R6 (λn s'=>∃i σ' H',Inv (AY X N' scope cl G (upd H s.heap.objs.size (.dK [])) fp) ([]++G8 fp s7.heap) σ' H' s'/\ax i s'.heap/\(∀b∈a6,H' b=none)/\W2 i n σ' H') ?_ m2 (Cr 0 σ8 aQ aU aN (λb O=>(aF b O).1) w2);rintro n2 aH ⟨j,σ11,a4,aD,aO,aL,ay⟩;rcases bE j n2 σ11 a4 ay with⟨stop,qn⟩|⟨go,N2,af,bD⟩
    .show AE (T2.done (AY X N' scope cl G (upd H s.heap.objs.size (.dK [])) fp) rfl rfl rfl hc j _ aH σ11 a4 (λ_ _=>False) aD (aB aL) aO stop) λr au ⟨hr,aW⟩=>?_;subst hr;show⟨rfl,b5 aW (hN _ _ qn)⟩
    .show AE (T2.item (AY X N' scope cl G (upd H s.heap.objs.size (.dK [])) fp) rfl rfl rfl hc j _ aH σ11 a4 (λ_ _=>False) aD (aB aL) aO go) λr au ⟨u,hr,ae⟩=>?_;subst hr;show AE ae λ_ av ⟨x2,aC,aX,ar,b2,a9,b6⟩=>?_;have b4:=aX.pinned (aB b6) (T2.obj _ _ a9);show AE (ag _ av σ11 aC x2 u _ b4 ar (bD x2 aC b2)) λ_ aw ⟨σ14,aR,aY,ap⟩=>AE (am _ aw σ14 aR _ aY ap) λok bG ⟨aS,a5,eo,aq⟩=>⟨eo,Am (af _ _ aq) λU hm w'=>Aq U hm (Cr (j+1) σ14 aS a5.BD (T2.keep _ _ _ a9 λb O o e=>(a5.pin (b,o) (JQ _ (JQ _ (Ch O e)))).1) (λb O=>(Am (T2.obj _ _ a9 b O) λo e d=>((a5.pin (b,o) (JQ _ (JQ _ (Ch O e)))).2.1))) w')⟩
   show Qp aP (T2.self _ 0 _ _ _ aN aP)
 show codeAny_compStart_dict aM (T.self _ 0 _ _ _ aI aM)
def X9
  (hN:X.N.Nodup)(a8:X.N[i0]?=some y)(hx:X.env.scope.names.lookup y=some .local)
  (aC:swapsWith (FJ kx vx tg iter a1 a2 a4 scope pos) (some (.Name y py)) aG.line X.env=pure true)
  (c:AS X scope cl N' n js)(hc:X.calm=true)(hi:PI X tg iter wi)
  (a9:∀U G fp,PG (AY X N' scope cl U G fp) tg g/\PI (AY X N' scope cl U G fp) a1 a2 a5/\PG (AY X N' scope cl U G fp) a1 g2/\IX (AY X N' scope cl U G fp) a4 tt)
  (hf:∀a x,foldedSetIterable a2 (compEnvC scope cl a X.env) x=pure x:=by intro _ _;rfl)
  (hs:Kn X iter:=by intro _;rfl):PS X (.Assign [.Name y py] (FJ kx vx tg iter a1 a2 a4 scope pos) aG) (Nh (Xg (Er n js) wi g a5 g2 tt) (He i0)):=by
 intro pins s σ H Y I h;rw[exec_Assign_Name_used _ _ _ _ aC];show JH (LS (JH ?_))
 show wpAny _ X.A (do let _ ← comprehension (FJ kx vx tg iter a1 a2 a4 scope pos) scope X.env _ newDict false (eval iter X.env) (some (assign (.Name y py) X.env))) _ _ s
 show JH (AE (MG (use:=some (assign (.Name y py) X.env)) (Q:=λ_ s'=>SP X pins Y .next s') rfl hs c.CG c.kind c.names (AE (hi pins s σ H _ I h) λv s1 h1=>AE h1 λaI s2 h2=>?_))
  λ_ s' hq=>JK (JK hq))
 obtain⟨it,fp,tn,J,H2,e,I2,T,aD,f2,h2⟩:=h2;subst e;have a7:∃W:Addr->Nat->Nat->St->Hp->Prop,(∀D,H2 D=none->∃m,W D 0 m (Er n js σ) (upd H2 D (.dK [])))/\∀D,H2 D=none->∀i m σ' H',W D i m σ' H' ->
   (J.stop i H'/\Y.nx (σ.set i0 (some (.ref D))) H')\/(J.go i H'/\∃N:St->Hp->Prop,(∀σ3 G,N σ3 G->∃m',m'<m/\W D (i+1) m' σ3 G)/\∀x H2,J.DH i H' x H2->g x σ' H2 λσ3 G=>Ad2 a5 g2 tt {nx:=N,ct:=N,bk:=λ_ H'=>Y.nx (σ.set i0 (some (.ref D))) H',rt:=λ_ _=>False} σ3 G):=by
  show⟨λD=>if O:H2 D=none then(h2 D O).choose else λ_ _ _ _=>False,λD O=>?_,λD O=>?_⟩
  .simp only[O,NN];show(h2 D O).choose_spec.1
  .simp only[O,NN];show(h2 D O).choose_spec.2
 show Am a7 λW w0 aH=>Wm (RR:=λacc C=>compPost (model X.prog X.w) X.A X.xe (some (assign (.Name y py) X.env)) (λ_ s'=>SP X pins Y .next s') acc C) (Fi:=λD H'=>Y.nx (σ.set i0 (some (.ref D))) H') (W:=W) c hc a9 hf I2 T aD f2 w0 aH ?_;intro D U G H' s' I3 I' ⟨m,hn⟩ hC q
 show wpAny _ _ (assign (.Name y py) X.env (.ref D)) _ _ s'
 show wpAny_assign_Name (Iq (v:=.ref D) I' hN a8 (.inl hx) rfl (λaJ a6 ⟨a,aF,ha⟩=>?_) (.inr hx));have aA:U.heap.objs.size≠a:=by
  rcases ha with z|z
  .rw [z];show KS I3.lt
  .intro q;obtain⟨v,w⟩:=I3.cell y a z;show absurd w.lt (by rw[← q];show LJ _)
 show Aq m (hn.sameBut aF aA) λh' aB=>(Ce _ H' (Fz I3 a6 hC aB) q)
def Xw
  (hN:X.N.Nodup)(a4:X.N[i0]?=some y)(hx:X.env.scope.names.lookup y=some .local)
  (a5:swapsWith (FJ kx vx tg iter Y a1 a2 scope pos) (some (.Name y py)) a7.line X.env=pure true)
  (c:AS X scope cl N' n js)(hc:X.calm=true)(hi:QI X tg iter wi)
  (U:∀O G fp,QG (AY X N' scope cl O G fp) tg g/\QI (AY X N' scope cl O G fp) Y a1 a6/\QG (AY X N' scope cl O G fp) Y g2/\QTS (AY X N' scope cl O G fp) a2 tt)
  (hf:∀a x,foldedSetIterable a1 (compEnvC scope cl a X.env) x=pure x:=by intro _ _;rfl)
  (hs:Kn X iter:=by intro _;rfl):QS X (.Assign [.Name y py] (FJ kx vx tg iter Y a1 a2 scope pos) a7) (Nh (Xg (Er n js) wi g a6 g2 tt) (He i0)):=
 ⟨X9 hN a4 hx a5 c hc hi.go (λO G fp=>(C9 ((U O G fp).1.go) ((U O G fp).2.1.go) ((U O G fp).2.2.1.go) ((U O G fp).2.2.2.go))) hf hs⟩
end
def W5:typeLookup (.type "tuple") "__getattr__"=pure none:=by rw[NW,MQ];kernel_rfl
def Sn:typeLookup (.type "tuple") "keys"=pure none:=by rw[NW,MQ];kernel_rfl
def Ah0:entryFor table "tuple.__getattribute__"=some Builtin.«object.__getattribute__»:=
 entryFor_alias (id':="object.__getattribute__") (by kernel_rfl) (by first|rfl|decide +kernel|(unfold String.splitOn;simp +decide [String.splitOnAux])) (by decide +kernel) (by kernel_rfl)
def Mx (t:Addr)(its:Array Value)(n:Nat)(sl:Array (Option Value))(u:Tok) :
  Meets (Builtin.«object.__getattribute__» ⟨[.ref t,.str "keys" u],[]⟩) (λA R s=>s.heap.get? t=some {cls:=.type "tuple",data:=.seq its n,dict:=none,slots:=sl}/\raisesAttr (.ref t) "keys" A R s):=
 Meets.of_wp λprog w A R s hs=>by
  obtain⟨G,g,d,tk,os⟩:=s;obtain⟨O,hs⟩:=hs;have U:(⟨G,g,d,tk,os⟩:Shared).TypeIs (.ref t) "tuple":=(Ac O rfl);have Y:=Sn;unfold Builtin.«object.__getattribute__»
  repeat (any_goals (first|assumption|wp_step))
  show wpAny_raiseAttrError hs.1 hs.2 (attrMsg_fits (by decide +kernel) (by decide))
def W6 {E:Bf}{Q:Option Value->Shared->Prop}(hz:s.heap.get? t=some {cls:=.type "tuple",data:=.seq its n,dict:=none,slots:=sl})(Y:A.handled=none)
  (k:∀h' tk,(∀b o,s.heap.get? b=some o->h'.get? b=some o)->Q none {s with heap:=h',toks:=tk}):wpAny (model prog w) A (getAttr? (.ref t) "keys") Q E s:=by
 obtain⟨hp,g,d,tk,os⟩:=s;have O:∀G,(⟨hp,g,d,G,os⟩:Shared).TypeIs (.ref t) "tuple":=λ_=>(Ac hz rfl);have f1:=sub_AttributeError;have f3:=NK.lookup;have f4:=NK.bind (.ref t);have f5:=W5;unfold getAttr? getAttrBy? getAttrBy
 repeat (any_goals (first|assumption|show O _|((with_reducible show wpAny _ _ (call (Value.builtin "tuple.__getattribute__") _ _) _ _ _);show OC NK (O _) Ah0 (PySem.F.args_tuple_getattribute_2 _ _) (Mx t its n sl _) (A6 hz Y λh' G e U=>?_))|wp_step))
 show G9 U.there λt' u' he=>?_
 show wpAny _ _ (getattributeRaised _ _ _ _ _ _ _) _ _ _
 unfold getattributeRaised
 repeat (any_goals (first|assumption|wp_step))
 show k h' G U.keeps
section
variable {prog:Program}{w:World}{A:Around}{κ:Type}[DecidableEq κ]{knd:KeyKind prog w κ}{R:Result->Shared->Prop}
def Vk {d t I:Addr}{its:Array Value}{ps:List (κ×Value)}(hh:A.handled=none)(nI:t≠I)(dt:d≠t)(dI:d≠I)(hz:its.size=ps.length) :
  ∀(m i:Nat) (s:Shared) (kvs:List (κ×Value)),ps.length-i=m->i<=ps.length->s.heap.IsTupleIter I t i->s.heap.IsTuple t its->s.heap.DictOf knd d kvs->kvs.length+ps.length<=sizeLine+i ->
   (∀(j:Nat) (k:κ) (v:Value),ps[j]?=some (k,v)->∃p x,its[j]?=some (.ref p)/\knd.is k x=true/\p≠I/\p≠d/\s.heap.IsTuple p #[x,v]) ->
   (∀h' tk,h'.DictOf knd d (merged kvs (ps.drop i))->(∀a o,a≠I->a≠d->s.heap.get? a=some o->h'.get? a=some o)->R (.ok (.ret .none)) {s with heap:=h',toks:=tk}) ->
   codeAny (model prog w) A (.builtin "dict.update.loop" ⟨[.ref d,.ref I,rawInt i,.none],[]⟩) R s:=by
 intro m
 induction m with
 | zero=>
  intro i s kvs hm hi a6 ht hd hsz hp k;have e:i=ps.length:=by omega
  subst e;show NI Fh ?_;rw[MU Cl _]
  show wpAny _ A.in1 (pyNext (.ref I) >>= λ_=>_) _ _ s
  show JH ((Walks.tuple (prog:=prog) (w:=w) (A:=A.in1) hh I t nI its).done s _ _ (by rw[hz];show⟨a6,ht⟩) λh' tk up=>JH (JK (JK (k h' tk ?_ λa o ha _ e=>up a o (by simpa using ha) e))));rw[List.drop_length];show Da hd λo es ep ho r=>Ht o es ep (up _ _ (by simpa using dI) ho) r
 | succ m ih=>
  intro i s kvs hm hi a6 ht hd hsz hp k;have lt:i<ps.length:=by omega
  obtain⟨G,v,hk⟩:∃G v,ps[i]?=some (G,v):=(Cs (KG lt));show Jr (hp i G v hk) λp x hx a9 pI pd aD=>NI Fh ?_;rw[MU Cl _]
  show wpAny _ A.in1 (pyNext (.ref I) >>= λ_=>_) _ _ s
  show JH ((Walks.tuple (prog:=prog) (w:=w) (A:=A.in1) hh I t nI its).item i s _ _ (by omega) ⟨a6,ht⟩ λu h' tk hu st up=>?_);rw[hx]at hu;cases hu;have O:∀b o,b≠I->s.heap.get? b=some o->h'.get? b=some o:=λb o U e=>up b o (by simpa using U) e;have a8:h'.DictOf knd d kvs:=by
   show Da hd λo es ep ho r=>Ht o es ep (O _ _ dI ho) r
  show Bp (id aD) λop a7 aB z1=>?_;obtain⟨aI,aC⟩:=z1
  show wpAny _ _ (do
     holding [.ref p] do
      let aH ← (Builtin.Dict.pairItems (.ref p)).tryCatch λe=>do
       if !(← isInstance e (.type "TypeError"))then throw e
       rule "dict.update.element-no-sequence"
       raiseError "TypeError" s!"cannot convert dictionary update sequence element #{(i : Int)} to a sequence"
      match aH with
      | [k,v]=>holding [k,v] (dictSet d k v)
      | l=>
       rule "dict.update.element-length"
       raiseError "ValueError" s!"dictionary update sequence element #{(i : Int)} has length {l.length}; 2 is required"
     again (.builtin "dict.update.loop" ⟨[.ref d,.ref I,rawInt ((i:Int)+1),.none],[]⟩)) _ _ _
  show JH (LL (JH (wpAny_tryCatch ?_)))
  delta Builtin.Dict.pairItems
  show JH (OH (s:={s with heap:=h',toks:=tk}) (T:="tuple") (Ac (O _ _ pI a7) aB) (?_));rw[KE (by decide)];show JH (LY (s:={s with heap:=h',toks:=tk}) (O _ _ pI a7) aC (JK ?_))
  show wpAny _ _ (holding [x,v] (dictSet d x v)) _ _ _
  show LL (wpAny_dictSet_pairs (s:={s with heap:=h',toks:=tk}) (hsz:=by omega) a9 a8 λh2 d2 sb=>JK ⟨NY Cl _,?_⟩);have Y:∀a o,a≠d->h'.get? a=some o->h2.get? a=some o:=λa o ha e=>sb.extBut a o ha e;have ee:rawInt ((i:Int)+1)=rawInt ((i+1:Nat):Int):=by simp
  rw[ee];show ih (i+1) _ (stored kvs G v) (by omega) lt (st.1.at λo e=>Y _ o dI.symm e) (st.2.at λo e=>Y _ o dt.symm e) d2 ?_ (λj k' v' hj=>?_) ?_
  .have:=stored_length_le kvs G v;omega
  .show Jr (hp j k' v' hj) λp' x' a1 a2 a3 a4 a5=>Ct p' x' a1 a2 a3 a4 (a5.at λo e=>Y _ o a4 (O _ o a3 e))
  .intro h3 aF aA aG;show k h3 aF ?_ λa o ha U e=>aG a o ha U (Y a o U (O a o ha e));have e1:ps.drop i=(G,v)::ps.drop (i+1):=by
    rw[NF lt];rw[KG lt]at hk;rw[KC hk]
   rw[e1];show aA
end
def Rs {κ:Type}[DecidableEq κ](knd:KeyKind prog w κ)(dt:d≠t) :
  MeetsIn prog w (Builtin.«dict.__init__» ⟨[.ref d,.ref t],[]⟩) (λA R s=>A.handled=none/\∃(its:Array Value) (n:Nat) (sl:Array (Option Value)) (ps:List (κ×Value)),s.heap.get? t=some {cls:=.type "tuple",data:=.seq its n,dict:=none,slots:=sl}/\its.size=ps.length/\ps.length<=sizeLine/\s.heap.DictOf knd d [] /\
   (∀(j:Nat) (k:κ) (v:Value),ps[j]?=some (k,v)->∃p x,its[j]?=some (.ref p)/\knd.is k x=true/\p≠d/\s.heap.IsTuple p #[x,v]) /\
   ∀h' tk,h'.DictOf knd d (merged [] ps)->(∀a o,a≠d->s.heap.get? a=some o->h'.get? a=some o)->R (.ok (.ret .none)) {s with heap:=h',toks:=tk}):=
 λA R s hq=>by
  show D7 hq λhh z1=>K3 z1 λits n sl ps ht hz hl hd hp k=>?_
  delta Builtin.«dict.__init__»
  show JH ?_
  delta Builtin.Dict.selfAndRest
  show JH (wpAny_notOrdered_dict hd.typeIs (?_))
  show wpAny _ _ (pure (d,[Value.ref t])) _ _ s
  show JK ?_
  show wpAny _ _ (Builtin.Dict.updateFrom "dict.__init__" d (.ref t) [] .none) _ _ s
  delta Builtin.Dict.updateFrom
  show JH (OH (T:="tuple") (Ac ht rfl) (?_));rw[KE (by decide)];show JH (W6 ht hh λh1 a6 k1=>?_);rw[KE (show(none:Option Value).isNone=true from rfl)];have U:∀{a:Addr},∀o,s.heap.get? a=some o->h1.get? a=some o:=λo e=>k1 _ o e;show JH (NU (JH (wpAny_pyIter_tuple (s:={s with heap:=h1,toks:=a6}) (A8 (U _ ht) rfl ⟨_,rfl⟩) (JK ⟨NY Cl _,?_⟩))));have G:∀{a:Addr},∀o,s.heap.get? a=some o->(h1.push {cls:=.type "tuple_iterator",data:=.fields #[.ref t,.int 0 0]}).get? a=some o:=λo e=>JI _ (U _ e);have O:∀{a:Addr} {o:Obj},s.heap.get? a=some o->a≠h1.objs.size:=λe=>JP (JL (U _ e));have a4:(h1.push {cls:=.type "tuple_iterator",data:=.fields #[.ref t,.int 0 0]}).DictOf knd d []:=by
   show Da hd λo es ep ho r=>Ht o es ep (G _ ho) r
  have dI:d≠h1.objs.size:=by
   show Da hd λo es ep ho r=>O ho
  show Vk (knd:=knd) (ps:=ps) hh (O ht) dt dI hz ps.length 0 _ [] (by simp) (LD _) (A8 (JO _ rfl) rfl rfl) (A8 (G _ ht) rfl ⟨_,rfl⟩) a4 (by simpa using hl) (λj kk v hj=>?_) λh' tk hm up=>?_
  .show Fw (hp j kk v hj) λp x a1 a2 a3 Y=>Am (id Y) λo e r=>Ct p x a1 a2 (O e) a3 (Y.at λo e=>G _ e)
  .show k h' tk (by simpa using hm) λa o ha e=>up a o (O e) ha (G _ e)
def Nd (hc:X.calm=true):Fm X (.type "dict") (λxs H Q=>∃(a:Addr) (us:List V) (ps:List (Key×V)),xs=[.ref a]/\H a=some (.tup us)/\Paired (λu (q:Key×V)=>∃p,u=.ref p/\H p=some (.tup [kV q.1,q.2])) us ps/\∀d,H d=none->Q (.ref d) (upd H d (.dK (Fc [] ps)))):=by
 intro pins s σ H xs us Q I r h;show Jq h λa ts ps z1 ha pr q=>?_;subst z1;show Am (K5 r) λu z1 ru=>?_;subst z1;cases ru;obtain⟨⟨z,o1,O,n1⟩,its,rv,o2,e2,c2,n,d2⟩:=(show AL X.prog X.w H s.heap a (.tup ts)from I.AJ a _ ha);rw[O]at e2;cases e2;obtain⟨cl,di,da,sl⟩:=o1;dsimp only at n1 c2 d2;subst n1 c2 d2;have big:(s.heap.objs.size==sysModules)=false:=beq_eq_false_iff_ne.mpr (ML (JP I.big));have up:∀{a:Addr},∀o,s.heap.get? a=some o->(s.heap.push {cls:=.type "dict",data:=.dict #[]}).get? a=some o:=λo e=>JI _ e;have ex:∃G:List (Key×Value),KV ps G/\its.length=G.length/\∀(j:Nat) (k:Key) (v:Value),G[j]?=some (k,v)->∃p x,its[j]?=some (.ref p)/\(B3 X.prog X.w).is k x=true/\p≠s.heap.objs.size/\(s.heap.push {cls:=.type "dict",data:=.dict #[]}).IsTuple p #[x,v]:=by
  clear O q ha z
  induction pr generalizing its with
  | nil=>
   cases rv;show Bc [] .nil rfl λj k v e=>by simp at e
  | @cons u p a7 a6 hu hr ih=>
   cases rv with
   | @cons _ v _ vr h1 t1=>
   show Bp (ih _ t1) λG U hl Y=>?_;show Am hu λpa z1 a4=>?_;subst z1;cases(show v=Value.ref pa from h1);show D7 ((show AL X.prog X.w H s.heap pa (.tup [kV p.1,p.2])from I.AJ pa _ a4)) λ_ z1=>Am z1 λa8 a5 z2=>Bp z2 λo3 e3 c3 z3=>?_;obtain⟨m3,d3⟩:=z3
   cases a5 with
   | cons hk t2=>
   cases t2 with
   | cons hv t3=>
   cases t3;rename_i kx vx;show Bc ((p.1,vx)::G) (.cons ⟨rfl,hv⟩ U) (by simp[hl]) λj k v e=>?_
   cases j with
   | zero=>
    simp at e;obtain⟨rfl,rfl⟩:=e;show Br pa kx rfl (K8 hk) (JP (JL e3)) (Bc o3 (up _ e3) c3 ⟨m3,d3⟩)
   | succ j=>show Y j k v (by simpa using e)
 show Bp ex λG U hl Y=>?_;have a9:=U.length;have aA:=rv.length;have a2:(Fc [] ps).length<=sizeLine:=by
  have O:=Fg ps [];have:=Paired.len pr;simp at O;omega
 show Nf (Rs (B3 X.prog X.w) (KS (JL O))) ⟨I.ok.hd hc,(B0 its.toArray n sl G (up _ O) (by simpa using hl) (by omega) (Heap.DictOf.new _) (λj k v e=>by simpa using Y j k v e) λh' tk a1 k=>⟨rfl,Aw (.ref s.heap.objs.size) _ (I.laid (a:=s.heap.objs.size) (o:=.dK (Fc [] ps)) (t':=tk) (λb o e=>k b o (JP (JL e)) (up _ e)) (JN _) (M6 a2 big (U.merge .nil) a1)) rfl (q _ (I.AJ.fresh (JN _)))⟩)⟩
def Zu:V->List V->Hp->VK->Prop:=λx vs H Q=>∃(a b:Addr) (kvs ms:List (Key×V)),x=.ref a/\vs=[.ref b]/\a≠b/\H a=some (.dK kvs)/\H b=some (.dK ms)/\kvs.length+ms.length<=sizeLine/\Q .AQ (upd H a (.dK (Fc kvs ms)))
def V1:MtM X "dict.update" Zu:=by
 intro pins s σ H x vs v us Q I rx rv h;show K3 h λa b kvs ms z1 O ne ha hb z3=>?_;subst z1 O;obtain⟨hz,q⟩:=z3;cases rx;show Am rv.one λu z1 ru=>?_;subst z1;cases ru;show B9 (U7 I.AJ ha) λz1 s1 z1=>Am z1 λa2 U G=>?_;show B9 (U7 I.AJ hb) λO s2 z1=>Am z1 λa4 Y d2=>?_;have l1:=U.length;have l2:=Y.length;show call_meetsIn PySem.F.slot_dict_update G.typeIs PySem.F.entry_dict_update (PySem.F.args_dict_update_2 _ _) (meets_dict_update (B3 X.prog X.w) a b ne s2)
  (Br a2 a4 G d2 (by omega) λh' hm _ hs=>?_)
 have a1:(Fc kvs ms).length<=sizeLine:=by
  have:=Fg ms kvs;omega
 have he:∃q,h'.get? a=some q:=let ⟨q,_,_,hq,_⟩:=hm;⟨q,hq⟩
 show Aw .AQ _ (Lw (t':=s.toks) I (by rw[ha];show True.intro) hs he (M6 a1 s1 (Y.merge U) hm)) rfl q
def Xt:V->List V->Hp->VK->Prop:=λx vs H Q=>∃(l b:Addr) (xs zs:List V),x=.ref l/\vs=[.ref b]/\H l=some (.lst xs)/\H b=some (.tup zs)/\xs.length+zs.length<=sizeLine/\Q .AQ (upd H l (.lst (xs++zs)))
end L2
namespace PySem.AutoSeq1
open PySem Sem
def ER (l:Addr)(G:Array Value)(n:Nat)(b:Addr)(O:Array Value)(n2:Nat)(sl:Array (Option Value))(a4:¬(!G.isEmpty&&Builtin.List.listTooLong (G.size+O.size))=true)(Y:G.size<=sizeLine)(a1:G.size+O.size<=sizeLine+1) :
  Meets (Builtin.«list.extend» ⟨[.ref l,.ref b],[]⟩) (λ_ R s=>s.heap.get? l=some {cls:=.type "list",dict:=none,data:=.seq G n,slots:=#[]}/\s.heap.get? b=some {cls:=.type "tuple",dict:=none,data:=.seq O n2,slots:=sl}/\R (.ok (.ret Value.none)) {s with heap:=s.heap.update l (Obj.mapSeq λx=>x++O),toks:=s.toks}):=
 .of_wp λprog w A R s h=>by
  obtain⟨hp,g,d,tk,os⟩:=s;obtain⟨hl,U,h⟩:=h;have f1:=idx_int;have f2:=sub_tuple_tuple;have f3:=sub_list_list;have f4:=sub_tuple_list;have f5:=sub_list_tuple;have a2:(G++O).size<=sizeLine+1:=by rw[Array.size_append];show a1
  wp_walk using(wpAny_updateSeq hl rfl (hz:=Y) (_hz':=a2)),wpAny_loadPart' hl,wpAny_loadPart' U;show⟨_,rfl,h⟩
end PySem.AutoSeq1
namespace L2
open PySem PySem.Spec PyProof.Rows
def Tm:MtM X "list.extend" Xt:=by
 intro pins s σ H x vs v us Q I rx rv h;show K3 h λl b xs zs z1 z2 hH hB hz q=>?_;subst z1 z2;cases rx;show Am rv.one λu z1 ru=>?_;subst z1;cases ru;show D7 (I.HW hH) λz z1=>B7 z1 λits n r hl e=>?_;obtain⟨⟨_,o1,Y,n1⟩,G,r2,o2,e2,O,n2,U⟩:=(show AL X.prog X.w H s.heap b (.tup zs)from I.AJ b _ hB);rw[Y]at e2;cases e2;obtain⟨cl,di,da,sl⟩:=o1;dsimp only at n1 O U;subst n1 O U;have a2:=r2.length;have hsz:its.toArray.size+G.toArray.size<=sizeLine:=by rw[JZ,JZ];omega
 have a1:¬(!its.toArray.isEmpty&&Builtin.List.listTooLong (its.toArray.size+G.toArray.size))=true:=by
  rw[Ms hsz,Bool.and_false];show JX
 show OC F.slot_list_extend (Ac e rfl) F.entry_list_extend (F.args_list_extend_2 _ _)
  (AutoSeq1.ER l its.toArray n b G.toArray n2 sl a1 (by rw[JZ];omega) (by omega)) (A6 e Y ?_)
 show Aw .AQ _ (I.IZ (its':=its++G) hH e (by simp) (r.append r2) ?_) rfl q;rw[JV];omega
def rAnyK (K:A3):List V->Hp->VK->Prop:=λxs H Q=>∃(a:Addr) (bs:List Bool),xs=[.ref a]/\AK K H a (bs.map V.bl)/\Q (.bl (bs.any id)) H
def rAllK (K:A3):List V->Hp->VK->Prop:=λxs H Q=>∃(a:Addr) (bs:List Bool),xs=[.ref a]/\AK K H a (bs.map V.bl)/\Q (.bl (bs.all id)) H
def rLenK (K:A3):List V->Hp->VK->Prop:=λxs H Q=>∃p ys,xs=[.ref p]/\(AK K H p ys\/AC K H p ys)/\Q (.int ys.length) H
def rIsiK (K:A3):List V->Hp->VK->Prop:=λxs H Q=>∃x n t b,xs=[x,.ty n]/\ED K H x t/\PySem.W.kitOne K t (.type n)=some b/\Q (.bl b) H
def AT (K:A3)(h:X.K=K:=by rfl):IxR X (rIxT K):=h▸ix_tup
def EK (K:A3)(h:X.K=K:=by rfl):IxR X (rIxL K):=h▸Ls
def Gq (K:A3)(h:X.K=K:=by rfl):Fm X (.builtin "len") (rLenK K):=h▸Qs
def anyK (K:A3)(hc:X.calm=true)(h:X.K=K:=by rfl):Fm X (.builtin "any") (rAnyK K):=h▸Zi hc
def Ng (K:A3)(hc:X.calm=true)(h:X.K=K:=by rfl):Fm X (.builtin "all") (rAllK K):=h▸Zj hc
def Kg (K:A3)(h:X.K=K:=by rfl):Fm X (.builtin "isinstance") (rIsiK K):=h▸Sb
def inK (K:A3)(h:X.K=K:=by rfl):CO X (compareOp .In) (rIn K false):=h▸Ou
def notInK (K:A3)(h:X.K=K:=by rfl):CO X (compareOp .NotIn) (rIn K true):=h▸Py
def rm (G:AV O A)(h:k<=O:=by first|decide|omega):AV k A:=G.mono h
def Lg (r:Addr)(a b c:Int)(t u v:Tok)(G:¬Builtin.Range.rangeSize a b c>=2 ^ 63) :
  Meets (Builtin.«range.__len__» ⟨[.ref r],[]⟩) (λ_ R s=>s.heap.get? r=some {cls:=.type "range",dict:=none,data:=.fields #[.int a t,.int b u,.int c v],slots:=#[]}/\∀t',R (.ok (.ret (.int (Builtin.Range.rangeSize a b c) t'))) {s with toks:=s.toks+1}):=
 .of_wp λprog w A R s h=>by
  obtain⟨O,g,d,tk,os⟩:=s;obtain⟨hl,h⟩:=h
  wp_walk using wpAny_loadPart' hl
  rw[JW G];show JH (wpAny_mkInt (JK (Ac rfl (h _))))
def Yq:typeLookup (.type "range") "__len__"=pure (some (.builtin "range.__len__")):=by rw[NW,MQ];kernel_rfl
section
variable {E:Bf}
def Nc {Q:Bf}(O:IsRange s.heap r a b c t u v)(U:0<=Builtin.Range.rangeSize a b c)(Y:Builtin.Range.rangeSize a b c<2 ^ 62)
  (h:∀t' tk,s.toks<=tk->Q (.int (Builtin.Range.rangeSize a b c) t') {s with toks:=tk}):wpAny (model prog w) A (call (.builtin "len") [.ref r]) Q E s:=by
 have G:s.TypeIs (.ref r) "range":=(Ac O rfl);show Calls.call_function_entry kind_len plain_len entry_len (args_len1 _) ?_;unfold Builtin.«len»;show JH (m:=oneArg "len" _) (JK ?_)
 show JH (m:=callSpecial? (.ref r) (Str.ofString "__len__")) (LI (name:=Str.ofString "__len__") G F.slot_range_len
  (OC F.slot_range_len G F.entry_range_len (F.args_range_len_1 _) (Lg r a b c t u v (by omega)) ⟨O,λt'=>?_⟩))
 show JH (LL (JK (JH (wpAny_letGo ?_))))
 show wpAny _ _ (if Builtin.Range.rangeSize a b c<0 then _ else _) _ _ _
 rw[JW (by omega)]
 show wpAny _ _ (if Builtin.Range.rangeSize a b c>=2 ^ 63 then _ else _) _ _ _
 rw[JW (by omega)];show JH (wpAny_mkInt (JK (Ac rfl (h _ _ (by show s.toks<=s.toks+1+1;omega)))))
def N4 {a c:Int}{n:Nat}{t v:Tok}{Q:List Value->Shared->Prop}(hh:A.handled=none)(hr:IsRange s.heap r a b c t u v)(hs:Builtin.Range.small a b c=true)(hn:Builtin.Range.rangeSize a b c=n)(hz:n<=sizeLine)
  (hQ:∀h' tk acc,(∀b o,s.heap.get? b=some o->h'.get? b=some o)->ItemsOf (λi v=>∃t,v=.int (a+i*c) t) acc n->Q acc.toList {s with heap:=h',toks:=tk}):wpAny (model prog w) A (collect (.ref r)) Q E s:=by
 have aK:=NJ;unfold collect;show JH (wpAny_runValue (NI F.entry_proto_collect ?_));rw[MU F.plain_proto_collect _]
 show wpAny _ A.in1 (newList [] >>= λl=>again (.builtin "list.__iadd__" ⟨[l,.ref r],[]⟩)) _ _ s
 show JH (MD (JK ⟨NY F.plain_list_iadd _,NI F.entry_list_iadd ?_⟩));rw[MU F.plain_list_iadd _];have aF:s.heap.objs.size≠r:=KS (JL hr);have h1:Builtin.List.listSameRef (.ref s.heap.objs.size) (.ref r)=false:=by simp[Builtin.List.listSameRef,aF]
 show wpAny _ A.in1 (Builtin.List.listExtendWith (.ref s.heap.objs.size) (.ref r) (.ref s.heap.objs.size)) _ _ _
 have a2:IsRange (s.heap.push {cls:=.type "list",data:=.seq ([]:List Value).toArray}) r a b c t u v:=JI _ hr;unfold Builtin.List.listExtendWith;show JH (OH (T:="range") (Ac a2 rfl) ?_);rw[JW (by rw[h1];decide)];show JH (wpAny_pyIter_range a2 hs (JH (LL ?_)));unfold Builtin.List.listLengthHint;have a4:IsRange ((s.heap.push {cls:=.type "list",data:=.seq ([]:List Value).toArray}).push {cls:=.type "range_iterator",data:=.fields #[rawInt a,rawInt (Builtin.Range.rangeSize a b c),rawInt c]}) r a b c t u v:=JI _ a2;show JH (wpAny_specialOf (T:="range") (Ac a4 rfl) Yq ?_)
 (generalize a1:("range.__len__":String)=a7;(fail_if_success (clear a1 a7));wp_delta;rw[show splitId a7=some ("range","__len__")from by subst a1;decide +kernel];subst a1)
 show JH (NP (T:="range") (b:=true) (Ac a4 rfl) (by rw[isSubtype_type];kernel_rfl) ?_);rw[JW (by decide)]
 try dsimp only
 rw[JW (by decide +kernel)]
 try dsimp only
 rw[KE (show(some (Value.builtin "range.__len__")).isSome=true from rfl)];show JH (NU (JH (NX (Nc a4 (by omega) (by omega) λt' tk htk=>JH (m:=asInt? _) (JK ?_)))));dsimp only;rw[JW (by rw[hn,Ms (by simpa using hz)];decide)];show JK ?_;have W:=(Walks.range (prog:=prog) (w:=w) (A:=A.in1) hh (s.heap.push {cls:=.type "list",data:=.seq ([]:List Value).toArray}).objs.size a c n).toS;have hsz:(s.heap.push {cls:=.type "list",data:=.seq ([]:List Value).toArray}).objs.size=s.heap.objs.size+1:=by simp[KZ]
 have aC:s.heap.objs.size∉[(s.heap.push {cls:=.type "list",data:=.seq ([]:List Value).toArray}).objs.size]:=by
  rw[hsz,JY];show JP (OG _)
 generalize Y:((s.heap.push {cls:=.type "list",data:=.seq ([]:List Value).toArray}).push {cls:=.type "range_iterator",data:=.fields #[rawInt a,rawInt (Builtin.Range.rangeSize a b c),rawInt c]})=h2 at *;have U:h2.get? s.heap.objs.size=some {cls:=.type "list",data:=.seq ([]:List Value).toArray}:=by rw[← Y];show JI _ (JO _ rfl)
 have aG:IsRangeIter h2 (s.heap.push {cls:=.type "list",data:=.seq ([]:List Value).toArray}).objs.size (a+((0:Nat):Int)*c) ((n:Int)-((0:Nat):Int)) c:=by
  rw[← Y];have e1:a+((0:Nat):Int)*c=a:=by simp
  have e2:(n:Int)-((0:Nat):Int)=Builtin.Range.rangeSize a b c:=by rw[hn];simp
  rw[e1,e2];show JO _ rfl
 have up:∀b o,s.heap.get? b=some o->h2.get? b=some o:=λb o e=>by rw[← Y];show JI _ (JI _ e)
 have a9:∀(G:Heap) (a5:Nat) (k3:Nat),G.get? s.heap.objs.size=some {cls:=.type "list",data:=.seq #[] k3}->(∀b o,b≠s.heap.objs.size->h2.get? b=some o->G.get? b=some o) ->
   codeAny (model prog w) A (.builtin "list.extend.loop" ⟨[.ref s.heap.objs.size,.ref (s.heap.push {cls:=.type "list",data:=.seq ([]:List Value).toArray}).objs.size,.ref s.heap.objs.size],[]⟩) (λr s'=>match r with
    | .ok (.ret v)=>wpAny (model prog w) A (match v with
     | .ref a=>do
      match (← load a).data with
       | Data.seq xs _=>pure xs.toList
       | _=>unsupported "internal:collect"
     | _=>unsupported "internal:collect") Q E s'
    | _=>False) {s with heap:=G,toks:=a5}:=λG a5 k3 aB a8=>by
  show codeAny_extend_loopS W hz _ aC _ n 0 {s with heap:=G,toks:=a5} #[] k3 rfl (LD _) (a8 _ _ (by rw[hsz];show KS (OG _)) aG) aB (ItemsOf.nil _) λs' aI c' hm aA aJ=>?_
  show wpAny _ A (load s.heap.objs.size >>= _) _ _ s'
  show JH (wpAny_load aA ?_);obtain⟨hp,g,d,aH,os⟩:=s';obtain⟨m1,m2,m3,m4,m5⟩:=hm;dsimp only at m1 m2 m3 m4;subst m2 m3 m4;show JK (hQ hp aH aI (λb o e=>m1 b o ?_ (a8 b o (JP (JL e)) (up b o e))) aJ);rw[hsz];intro O;have lt:=JL e
  rcases JS.mp O with z|z
  .show JP lt z
  .rw [JY]at z;show JP (Nat.lt_succ_of_lt lt) z
 split
 .show JH (NU (JH (m:=Builtin.List.listTouch _) ?_));unfold Builtin.List.listTouch Builtin.List.listUpdate;show JH (wpAny_updateSeq (s:={s with heap:=h2,toks:=tk}) U rfl ?_ (by simp) (by simp));have a6:=LV (Obj.mapSeq (·.push .none)) U rfl;show wpAny_updateSeq (s:={s with heap:=h2.update s.heap.objs.size (Obj.mapSeq (·.push .none)),toks:=tk}) a6 rfl ?_ (by simp[NJ]) (by simp);have aD:=LV (Obj.mapSeq (·.pop)) a6 rfl;show JK ⟨NY F.plain_extend_loop _,MH (a9 _ tk _ aD λb o O e=>?_) λr s' h=>?_⟩
  .rw [KW _ _ O.symm,KW _ _ O.symm];show e
  .cases r with
   | error e=>show h.elim
   | ok f=>cases f<;>first|show h|show h.elim
 .show JK ⟨NY F.plain_extend_loop _,MH (a9 h2 tk 0 U λb o _ e=>e) λr s' h=>?_⟩
  cases r with
  | error e=>show h.elim
  | ok f=>cases f<;>first|show h|show h.elim
end
def Hz (r:Addr)(a b c:Int)(n:Nat)(t u v:Tok)(hs:Builtin.Range.small a b c=true)(hn:Builtin.Range.rangeSize a b c=n)(hz:n<=sizeLine) :
   Meets (Builtin.«tuple.__new__» ⟨[.type "tuple",.ref r],[]⟩)
     (λA R s=>A.handled=none/\IsRange s.heap r a b c t u v/\∀(h':Heap) (tk:Nat) (acc:Array Value),(∀b o,s.heap.get? b=some o->h'.get? b=some o)->ItemsOf (λi v=>∃t,v=.int (a+i*c) t) acc n ->
       R (.ok (.ret (.ref h'.objs.size))) {s with heap:=h'.push {cls:=.type "tuple",data:=.seq acc},toks:=tk}):=
 .of_wp λprog w A R s h=>by
   obtain⟨Y,G,h⟩:=h;have a4:=sub_tuple_self;have a5:=init_tuple_lookup;have a2:=madeHere_tuple;have U:s.TypeIs (.ref r) "range":=⟨_,G,rfl⟩;have a1:A.in1.handled=none:=Y
   wp_walk using LF G,OH U,N4 a1 G hs hn hz
   intro h' tk acc hk O
   show wpAny _ _ (Builtin.Tuple.tupleExact acc.toList.toArray >>= λv=>ret v) _ _ _
   unfold Builtin.Tuple.tupleExact;show JH (MD (JK ⟨_,rfl,?_⟩) (show acc.toList.toArray.size<=sizeLine by simp only[Array.toArray_toList];rw[O.1];show hz));have e:acc.toList.toArray=acc:=by simp
   rw[e];show h h' tk acc hk O
noncomputable def Jo (a:Int):Nat->List V
 | 0=>[]
 | n+1=>.int a::Jo (a-1) n
theorem Ki:∀(a:Int) (n:Nat),(Jo a n).length=n
 | _,0=>rfl
 | a,n+1=>by rw[Jo,KN,Ki]
theorem R0:∀(a:Int) (n i:Nat),i<n->(Jo a n)[i]?=some (.int (a-i))
 | a,n+1,0,_=>by simp[Jo]
 | a,n+1,i+1,h=>by
  rw[Jo,List.getElem?_cons_succ,R0 (a-1) n i (by omega)]
  congr 2
  omega
theorem K4:∀{xs:List V} {us:List Value},xs.length=us.length->(∀(i:Nat) (x:V) (u:Value),xs[i]?=some x->us[i]?=some u->RelV x u)->AF xs us
 | [],[],_,_=>.nil
 | [],_::_,h,_=>by simp at h
 | _::_,[],h,_=>by simp at h
 | x::xs,u::us,h,f=>.cons (f 0 x u rfl rfl) (K4 (by simpa using h) λi y v G O=>f (i+1) y v (by simpa using G) (by simpa using O))
def tDown (ta:TA):TE:=λσ H Q=>ta σ H λvs H1=>∃m:Nat,vs=[.int m,.int 0,.int (-1)]/\m<=1000000/\∀p,H1 p=none->Q (.ref p) (upd H1 p (.tup (Jo m m)))
def Z2 (hc:X.calm=true)(hg:Gl X "tuple")(hm:X.mg "tuple"=none)(a6:Gl X "range")(a7:X.mg "range"=none)(ha:QA X [x,y,z] ta)
  (h0:starEach [.Call (.Name "range" p') [x,y,z] [] U] X.env=[(false,eval (.Call (.Name "range" p') [x,y,z] [] U) X.env)]:=by rfl)
  (hs:starEach [x,y,z] X.env=[(false,eval x X.env),(false,eval y X.env),(false,eval z X.env)]:=by rfl)(a2:starEach [y,z] X.env=[(false,eval y X.env),(false,eval z X.env)]:=by rfl) :
  QE X (.Call (.Name "tuple" p) [.Call (.Name "range" p') [x,y,z] [] U] [] pos) (tDown ta):=by
 show⟨λpins s σ H Q I h=>Call_ (Hs I hg hm NV (LN ?_ h0 rfl))⟩;rw[h0];show Calls.spliced_cons ?_;show Call_ (Hs I a6 a7 boot_range (LN (AE (ha.go U pins s σ H _ I h) λus s1 ⟨vs,H1,Y,r1,q1⟩=>(Bp q1 λm e aA q=>?_)) (by rw[hs,a2]) (by rw[a2];rfl)));subst e
 cases r1 with
 | cons r G=>
 cases G with
 | cons r' G=>
 cases G with
 | cons a9 G=>
 cases G;obtain⟨t,rfl⟩:=r;obtain⟨t',rfl⟩:=r';obtain⟨a4,rfl⟩:=a9;have aB:=NJ;have a1:Builtin.Range.rangeSize m 0 (-1)=m:=by
  unfold Builtin.Range.rangeSize;rw[JW (by decide),show(-(-1):Int)=1 from rfl,Int.ediv_one];split<;>omega
 have a8:Builtin.Range.small m 0 (-1)=true:=by
  unfold Builtin.Range.small;rw[a1];simp only[Builtin.Range.rangeFitsLong,NM,Bool.or_eq_true,MW];show⟨⟨⟨⟨?_,?_⟩,?_⟩,?_⟩,.inr ?_⟩<;>first|(rw[JW (by decide)];decide)|decide|omega
 show call_range_3 (by decide) (Calls.spliced_nil ?_);have up:∀b o,s1.heap.get? b=some o->(s1.heap.push {cls:=.type "range",data:=.fields #[.int m t,.int 0 t',.int (-1) a4]}).get? b=some o:=λb o e=>JI _ e;show callType_new F.called_tuple (by decide) (F.typeCall_tuple_1 _) (F.newCall_tuple_1 _) (λobj=>F.args_object_init_2 obj _) F.entry_tuple_new
  (Hz _ m 0 (-1) m t t' a4 a8 a1 (by omega)) (A6 (Y.ok.hd hc) (JO _ rfl) λh' tk acc hk a5=>⟨(Ac (JO _ rfl) rfl),?_⟩)
 have I2:Inv X pins σ H1 {s1 with heap:=h',toks:=tk}:=Y.kept (t':=tk) λb o e=>hk b o (up b o e);have hv:AF (Jo m m) acc.toList:=by
  show K4 (by rw[Ki];simpa using a5.1.symm) λi x u O e2=>?_;have hi:i<m:=by have:=(List.getElem?_eq_some_iff.mp O).1;rw[Ki]at this;show this
  rw[R0 _ _ _ hi]at O;cases O;obtain⟨t3,e3⟩:=a5.2 i u (by simpa using e2);rw[e3,show((m:Int)+(i:Int)*-1)=(m:Int)-(i:Int)by omega];show⟨t3,rfl⟩
 show Aw (.ref h'.objs.size) _ (I2.laid (t':=tk) (o:=.tup (Jo m m)) (λb ob q=>JI _ q) (JN _) ⟨⟨by rw[Ki];omega,(Ac (JO _ rfl) rfl)⟩,(Aq acc.toList hv (by rw[show acc.toList.toArray=acc by simp];show IsTup.new h' acc))⟩) rfl (q _ (I2.AJ.fresh (JN _)))
def Gu (s:AA H H')(h:H D=none):AA H (upd H' D o):=λb u e=>by rw[Ak (Aj e h)];show s b u e
section
variable {K:A3}{a D:Addr}{xs:List V}{g:TG}{tt:TT}{te:TE}{σ0:St}{H:Hp}{Q:Hp->Prop}
noncomputable def fm (outs:List (Option V)):List V:=outs.filterMap id
theorem M5:∀(l:List (Option V)),(fm l).length<=l.length
 | []=>JN _
 | none::l=>Nat.le_succ_of_le (M5 l)
 | some _::l=>Nat.succ_le_succ (M5 l)
def Iz {outs:List (Option V)}{i:Nat}{o:Option V}(h:outs[i]?=some o):fm (outs.take (i+1))=fm (outs.take i)++o.toList:=by
 have hi:=(List.getElem?_eq_some_iff.mp h).1;rw[List.take_succ,h];unfold fm;rw[List.filterMap_append];cases o<;>rfl
def Ag8 (xs:List V)(outs:List (Option V))(g:TG)(tt:TT)(te:TE)(Sg:St->Prop)(H:Hp):Prop:=
 ∀(i:Nat) (x:V) (o:Option V) (σ:St) (H':Hp) (R:V->St->Hp->Prop) (U:St->Hp->Prop),xs[i]?=some x->outs[i]?=some o->Sg σ->AA H H'->(∀y σ3 O,o=some y->Sg σ3->AA H' O->R y σ3 O)->(∀σ3 G,o=none->Sg σ3->AA H' G->U σ3 G) ->
  g x σ H' λσ3 Y=>tt σ3 Y λok G=>if ok=true then te σ3 G λy O=>R y σ3 O else U σ3 G
def Kk (Sg:St->Prop)(outs:List (Option V))(ha:H a=some (.tup xs))(Y:xs.length<=1000)(ho:outs.length=xs.length)(hD:H D=none)(h0:Sg σ0)(hs:Ag8 xs outs g tt te Sg H)
   (hd:∀H',AA H H'->H' D=some (.lst (fm outs))->Q H') :
   ∃W:Nat->Nat->St->Hp->Prop,(∃m,W 0 m σ0 (upd H D (.lst [])))/\∀i m σ' H',W i m σ' H' ->
     ((HK K a).stop i H'/\Q H')\/((HK K a).go i H'/\∃(Ay:V->St->Hp->Prop) (An:St->Hp->Prop),(∀y σ3 O,Ay y σ3 O->∃ys,O D=some (.lst ys)/\ys.length<sizeLine/\∃U,U<m/\W (i+1) U σ3 (upd O D (.lst (ys++[y])))) /\
       (∀σ3 G,An σ3 G->∃U,U<m/\W (i+1) U σ3 G) /\
       ∀x H2,(HK K a).DH i H' x H2->g x σ' H2 λσ3 H3=>tt σ3 H3 λok G=>if ok=true then te σ3 G (λy O=>Ay y σ3 O)else An σ3 G):=by
 show Zf (xs:=xs) (λi ys σ H'=>Sg σ/\AA H H'/\H' D=some (.lst ys)/\ys=fm (outs.take i)) (JU Y (by decide)) (C9 h0 ((AA.refl H).upd hD) Ag (by simp[fm])) (λi ys σ H' hi ⟨_,sm,hd,e⟩=>(A6 (AC.of (sm _ _ ha)) hd ?_)) ?_ ?_
 . rw[e];show JU (M5 _) (by rw[NC];show OM ..)
 . rintro i x ys σ H' Y ⟨sg,sm,hd,rfl⟩;have hi:i<outs.length:=by rw[ho];show(List.getElem?_eq_some_iff.mp Y).1
   obtain⟨o,eo⟩:∃o,outs[i]?=some o:=⟨_,KG hi⟩;show hs i x o σ H' _ _ Y eo sg sm (λy σ3 O e a1 s5=>?_) (λσ3 G e a1 s4=>?_)
   . subst e;show Fq (s5 _ _ hd) a1 (Gu (sm.trans s5) hD) Ag (by rw[Iz eo];rfl)
   . subst e;show C9 a1 (sm.trans s4) (s4 _ _ hd) (by rw[Iz eo];simp)
 . rintro ys σ H' ⟨_,sm,a2,rfl⟩;rw[List.take_of_length_le (by omega)]at a2;show hd H' sm a2
def R9 (Sg:St->Prop)(outs:List (Option V))(ha:H a=some (.lst xs))(Y:xs.length<=1000)(ho:outs.length=xs.length)(hD:H D=none)(h0:Sg σ0)(hs:Ag8 xs outs g tt te Sg H)
   (hd:∀H',AA H H'->H' D=some (.lst (fm outs))->Q H') :
   ∃W:Nat->Nat->St->Hp->Prop,(∃m,W 0 m σ0 (upd H D (.lst [])))/\∀i m σ' H',W i m σ' H' ->
     ((HH K a).stop i H'/\Q H')\/((HH K a).go i H'/\∃(Ay:V->St->Hp->Prop) (An:St->Hp->Prop),(∀y σ3 O,Ay y σ3 O->∃ys,O D=some (.lst ys)/\ys.length<sizeLine/\∃U,U<m/\W (i+1) U σ3 (upd O D (.lst (ys++[y])))) /\
       (∀σ3 G,An σ3 G->∃U,U<m/\W (i+1) U σ3 G) /\
       ∀x H2,(HH K a).DH i H' x H2->g x σ' H2 λσ3 H3=>tt σ3 H3 λok G=>if ok=true then te σ3 G (λy O=>Ay y σ3 O)else An σ3 G):=by
 show Wo (xs:=xs) (λi ys σ H'=>Sg σ/\AA H H'/\H' D=some (.lst ys)/\ys=fm (outs.take i)) (JU Y (by decide)) hD (C9 h0 ((AA.refl H).upd hD) Ag (by simp[fm])) (λi ys σ H' hi ⟨_,sm,hd,e⟩=>(A6 (AK.of (sm _ _ ha)) hd ?_)) ?_ ?_
 . rw[e];show JU (M5 _) (by rw[NC];show OM ..)
 . rintro i x ys σ H' Y ⟨sg,sm,hd,rfl⟩;have hi:i<outs.length:=by rw[ho];show(List.getElem?_eq_some_iff.mp Y).1
   obtain⟨o,eo⟩:∃o,outs[i]?=some o:=⟨_,KG hi⟩;show hs i x o σ H' _ _ Y eo sg sm (λy σ3 O e a1 s5=>?_) (λσ3 G e a1 s4=>?_)
   . subst e;show Fq (s5 _ _ hd) a1 (Gu (sm.trans s5) hD) Ag (by rw[Iz eo];rfl)
   . subst e;show C9 a1 (sm.trans s4) (s4 _ _ hd) (by rw[Iz eo];simp)
 . rintro ys σ H' ⟨_,sm,a2,rfl⟩;rw[List.take_of_length_le (by omega)]at a2;show hd H' sm a2
def Cp (l:List V):fm (l.map some)=l:=by
 unfold fm;rw[List.filterMap_map];simp
def Wb {α:Type}{f:α->V}{l:List α}{i:Nat}{x:α}(h:l[i]?=some x):((l.map f).map some)[i]?=some (some (f x)):=by
 rw[KP,KP,h];rfl
end
section
variable {K:A3}{a:Addr}{xs:List V}{g:TG}{tb:TS}{D:Ends}{σ:St}{H:Hp}
def Lj (Sg:St->Prop)(ha:H a=some (.tup xs))(U:Sg σ)
  (hs:∀(i:Nat) x σ H',xs[i]?=some x->Sg σ->AA H H'->∀N:St->Hp->Prop,(∀σ3 G,Sg σ3->AA H G->N σ3 G)->g x σ H' λσ2 H2=>tb {D with nx:=N,ct:=N,bk:=D.nx} σ2 H2)(hd:∀σ H',Sg σ->AA H H'->D.nx σ H') :
  ∃W:Nat->Nat->St->Hp->Prop,(∃m,W 0 m σ H)/\∀i m σ H,W i m σ H ->
   ((HK K a).stop i H/\D.nx σ H)\/((HK K a).go i H/\∃N:St->Hp->Prop,(∀σ' H',N σ' H'->∃O,O<m/\W (i+1) O σ' H')/\∀x H',(HK K a).DH i H x H'->g x σ H' λσ2 H2=>tb {D with nx:=N,ct:=N,bk:=D.nx} σ2 H2):=
 Hu (xs:=xs) (λ_ σ H'=>Sg σ/\AA H H') ⟨U,AA.refl H⟩ (λ_ _ _ _ p=>AC.of (p.2 _ _ ha)) (λi x σ H' Y p=>hs i x σ H' Y p.1 p.2 _ λ_ _ a b=>⟨a,b⟩) λσ H' p=>hd σ H' p.1 p.2
def forL (Sg:St->Prop)(ha:H a=some (.lst xs))(U:Sg σ)
  (hs:∀(i:Nat) x σ H',xs[i]?=some x->Sg σ->AA H H'->∀N:St->Hp->Prop,(∀σ3 G,Sg σ3->AA H G->N σ3 G)->g x σ H' λσ2 H2=>tb {D with nx:=N,ct:=N,bk:=D.nx} σ2 H2)(hd:∀σ H',Sg σ->AA H H'->D.nx σ H') :
  ∃W:Nat->Nat->St->Hp->Prop,(∃m,W 0 m σ H)/\∀i m σ H,W i m σ H ->
   ((HH K a).stop i H/\D.nx σ H)\/((HH K a).go i H/\∃N:St->Hp->Prop,(∀σ' H',N σ' H'->∃O,O<m/\W (i+1) O σ' H')/\∀x H',(HH K a).DH i H x H'->g x σ H' λσ2 H2=>tb {D with nx:=N,ct:=N,bk:=D.nx} σ2 H2):=
 Io (xs:=xs) (λ_ σ H'=>Sg σ/\AA H H') ⟨U,AA.refl H⟩ (λ_ _ _ _ p=>AK.of (p.2 _ _ ha)) (λi x σ H' Y p=>hs i x σ H' Y p.1 p.2 _ λ_ _ a b=>⟨a,b⟩) λσ H' p=>hd σ H' p.1 p.2
def Y5 (Sg:St->Prop)(ha:H a=some (.tup xs))(U:Sg σ)
  (hs:∀(i:Nat) x σ H' p,xs[i]?=some x->Sg σ->AA H H'->H' p=some (.tup [.int i,x])->∀N:St->Hp->Prop,(∀σ3 G,Sg σ3->AA H G->N σ3 G)->g (.ref p) σ H' λσ2 H2=>tb {D with nx:=N,ct:=N,bk:=D.nx} σ2 H2)(hd:∀σ H',Sg σ->AA H H'->D.nx σ H') :
  ∃W:Nat->Nat->St->Hp->Prop,(∃m,W 0 m σ H)/\∀i m σ H,W i m σ H ->
   ((Ite false K a).stop i H/\D.nx σ H)\/((Ite false K a).go i H/\∃N:St->Hp->Prop,(∀σ' H',N σ' H'->∃O,O<m/\W (i+1) O σ' H')/\∀x H',(Ite false K a).DH i H x H'->g x σ H' λσ2 H2=>tb {D with nx:=N,ct:=N,bk:=D.nx} σ2 H2):=
 Kh (b:=false) (xs:=xs) (λ_ σ H'=>Sg σ/\AA H H') ⟨U,AA.refl H⟩ (λ_ _ _ _ p=>AC.of (p.2 _ _ ha)) (λi x σ H' q hx p Y=>hs i x σ _ q hx p.1 (p.2.upd Y) Ag _ λ_ _ a b=>⟨a,b⟩) λσ H' p=>hd σ H' p.1 p.2
end
end L2
namespace P2
open PySem PySem.Spec PyProof.Rows L2
def top (i:Nat):Stmt:=PySem.Challenge.pw_passpapers_k20_calls_deep.main.body.getD i (.Pass ⟨0,0,0,0⟩)
abbrev Gi:Stmt:=top 1
abbrev Hh:Stmt:=top 2
abbrev Hi:Stmt:=top 3
abbrev Dp:Stmt:=top 4
abbrev Ez:Stmt:=top 5
abbrev E3:Stmt:=top 10
abbrev C2:Stmt:=top 11
abbrev Gb:Stmt:=top 12
abbrev E8:Stmt:=top 13
abbrev E6:Stmt:=top 15
abbrev E1:Stmt:=top 16
abbrev Eb:Stmt:=top 21
abbrev Ey:Stmt:=top 31
abbrev Gc:Stmt:=top 34
abbrev Ec:Stmt:=top 35
abbrev Fa:Stmt:=top 39
abbrev Cw:Stmt:=top 40
abbrev Gg:Stmt:=top 42
abbrev Gf:Stmt:=top 43
abbrev Dv:Stmt:=top 44
abbrev Gj:Stmt:=top 45
abbrev Dw:Stmt:=top 50
abbrev Hj:Stmt:=top 52
abbrev L7:Stmt:=top 60
abbrev Ef:Stmt:=top 61
abbrev Hl:Stmt:=top 62
abbrev E9:Stmt:=top 63
abbrev Hm:Stmt:=top 64
abbrev El:Stmt:=top 65
abbrev Cg:Stmt:=top 66
abbrev Dr:Stmt:=top 67
abbrev Cf:Stmt:=top 68
abbrev De:Stmt:=top 69
abbrev Ed:Stmt:=top 70
abbrev Hk:Stmt:=top 71
abbrev Hg:Stmt:=top 72
abbrev Jg:Stmt:=top 73
abbrev Dc:Stmt:=top 74
abbrev Ei:Stmt:=top 75
abbrev Dq:Stmt:=top 76
abbrev Ds:Stmt:=top 78
abbrev Ge:Stmt:=top 79
abbrev Cy:Stmt:=top 81
abbrev Cn:Stmt:=top 83
abbrev Ee:Stmt:=top 84
abbrev Cz:Stmt:=top 85
abbrev Du:Stmt:=top 86
abbrev E2:Stmt:=top 87
abbrev Dx:Stmt:=top 88
abbrev C0:Stmt:=top 89
abbrev C3:Stmt:=top 90
abbrev Dd:Stmt:=top 91
abbrev Eg:Stmt:=top 92
abbrev Db:Stmt:=top 93
abbrev Gh:Stmt:=top 95
abbrev Dt:Stmt:=top 96
abbrev Nj:Stmt:=top 97
abbrev Ek:Stmt:=D6 (top 19) 0
abbrev Gd:Stmt:=D6 (top 20) 0
abbrev Cv:Stmt:=D6 (top 20) 1
abbrev E7:Stmt:=D6 (top 37) 0
abbrev Ej:Stmt:=D6 (top 38) 0
abbrev C5:Stmt:=D6 (top 38) 1
abbrev E4:Stmt:=D6 (top 38) 2
abbrev Df:Stmt:=D6 (top 38) 3
abbrev Co:Stmt:=D6 (top 38) 4
abbrev E5:Stmt:=D6 (top 38) 5
abbrev Dg:Stmt:=D6 (top 38) 6
abbrev Eh:Stmt:=D6 (top 82) 0
abbrev C4:Stmt:=D6 (top 82) 1
structure BK (K:A3)(mg:Bv)(t1 t2 t3 t4:Tok):Prop where
 GP:mg "LEAST"=some (.int (-32768) t1)
 g_MOST:mg "MOST"=some (.int 32767 t2)
 EH:mg "NUMBER"=some (.int 0 t3)
 g_LIST:mg "LIST"=some (.int (-1) t4)
 AZ:mg "len"=none
 AI:mg "isinstance"=none
 n_int:mg "int"=none
 n_bool:mg "bool"=none
 HP:mg "str"=none
 BC:mg "tuple"=none
 n_list:mg "list"=none
 ID:mg "dict"=none
 CY:mg "all"=none
 n_any:mg "any"=none
 GN:mg "range"=none
 IL:mg "zip"=none
 AW:mg "enumerate"=none
structure MR where
 nm:Int
 op:Str
 told:V
 args:List Int
inductive ME where
 | br (n l1 l2:Int)|gv (n:Int)
structure MB where
 lb:Int
 rows:List MR
 fin:ME
structure MF where
 nm:Str
 p:Int
 bl:List MB
def GH (H:Hp)(v:V)(r:MR):Prop:=∃a b,v=.ref a/\H a=some (.tup [.int r.nm,.str r.op,r.told,.ref b])/\H b=some (.tup (r.args.map V.int))
def GH.mono (h:GH H v r)(s:CI H H'):GH H' v r:=let ⟨a,b,e,h1,h2⟩:=h;(Aw a b e (s _ _ h1) (s _ _ h2))
def IsE (H:Hp)(v:V):ME->Prop
 | .br n l1 l2=>∃a b c,v=.ref a/\H a=some (.tup [.str "branch",.int n,.int l1,.ref b,.int l2,.ref c])/\H b=some (.tup [])/\H c=some (.tup [])
 | .gv n=>∃a,v=.ref a/\H a=some (.tup [.str "give",.int n])
def IsE.mono (h:IsE H v r)(s:CI H H'):IsE H' v r:=by
 cases r with
 | br n l1 l2=>show Jq h λa b c e h1 h2 G=>?_;show Cr a b c e (s _ _ h1) (s _ _ h2) (s _ _ G)
 | gv n=>show Am h λa e h1=>?_;show Aq a e (s _ _ h1)
structure BA where
 pa:Addr
 ra:Addr
 rs:List V
 ev:V
def FQ (H:Hp)(v:V)(b:MB):Prop:=∃(a:Addr) (x:BA),v=.ref a/\H a=some (.tup [.int b.lb,.ref x.pa,.ref x.ra,x.ev])/\H x.pa=some (.tup [])/\H x.ra=some (.tup x.rs)/\Paired (GH H) x.rs b.rows/\IsE H x.ev b.fin
def FQ.mono (h:FQ H v b)(s:CI H H'):FQ H' v b:=by
 show Fs h λa x e h1 h2 G O U=>D5 a x e (s _ _ h1) (s _ _ h2) (s _ _ G) (L2.Paired.CT O λ_ _ q=>q.mono s) (U.mono s)
structure FA where
 pa:Addr
 pp:Addr
 ba:Addr
 bs:List V
def EW (H:Hp)(v:V)(f:MF):Prop:=∃(a:Addr) (x:FA),v=.ref a/\H a=some (.tup [.str f.nm,.ref x.pa,.int 0,.ref x.ba])/\H x.pa=some (.tup [.ref x.pp])/\H x.pp=some (.tup [.int f.p,.int 0])/\H x.ba=some (.tup x.bs)/\Paired (FQ H) x.bs f.bl
def EW.mono (h:EW H v f)(s:CI H H'):EW H' v f:=by
 show Fs h λa x e h1 h2 G O U=>D5 a x e (s _ _ h1) (s _ _ h2) (s _ _ G) (s _ _ O) (L2.Paired.CT U λ_ _ q=>q.mono s)
def IsP (H:Hp)(v:V)(p:List MF):Prop:=∃a fs,v=.ref a/\H a=some (.tup fs)/\Paired (EW H) fs p
def IsP.mono (h:IsP H v p)(s:CI H H'):IsP H' v p:=by
 show B7 h λa fs e h1 h2=>Aw a fs e (s _ _ h1) (L2.Paired.CT h2 λ_ _ q=>q.mono s)
inductive DX (ns:List Str):MR->Prop
 | num (n k:Int):0<=n->-32768<=k->k<=32767->DX ns ⟨n,"num",.int k,[]⟩
 | eq (n x y:Int):0<=n->0<=x->0<=y->DX ns ⟨n,"=",.AQ,[x,y]⟩
 | sub (n x y:Int):0<=n->0<=x->0<=y->DX ns ⟨n,"-",.AQ,[x,y]⟩
 | out (n x:Int):0<=n->0<=x->DX ns ⟨n,"out",.AQ,[x]⟩
 | call (n x:Int) (g:Str):0<=n->0<=x->g∈ns->DX ns ⟨n,"call",.str g,[x]⟩
noncomputable def Fj:ME->Int
 | .br n _ _=>n
 | .gv n=>n
noncomputable def Ja:ME->List Int
 | .br _ a b=>[a,b]
 | .gv _=>[]
noncomputable def Ew (f:MF):List Int:=f.bl.map (·.lb)
noncomputable def B6 (b:MB):List Int:=b.rows.map (·.nm)
structure BlkK (ns:List Str)(f:MF)(b:MB):Prop where
 rows:∀r∈b.rows,DX ns r
 len:b.rows.length<=10
 vis:∀(i:Nat) (r:MR),b.rows[i]?=some r->∀x∈r.args,x=f.p\/∃(j:Nat) (q:MR),j<i/\b.rows[j]?=some q/\q.nm=x
 use:0<=Fj b.fin/\(Fj b.fin=f.p\/∃q∈b.rows,q.nm=Fj b.fin)
 led:∀l∈Ja b.fin,l∈(Ew f).tail
structure CH (ns:List Str)(f:MF):Prop where
 IU:∀b∈f.bl,BlkK ns f b
 ne:f.bl≠[]
 le:f.bl.length<=10
 pos:∀l∈Ew f,0<=l
 nd:(Ew f).Nodup
 nms:(f.p::(f.bl.map B6).flatten).Nodup
 pp:0<=f.p
 wd:f.nm="main"\/f.nm="g"
 cnt:((f.bl.map B6).flatten).length<=100
 rnk:∃rk:Int->Nat,∀b∈f.bl,(∀r∈b.rows,r.op≠"call")->∀k∈Ja b.fin,rk b.lb<rk k
end P2
namespace P2
open PySem PySem.Spec PyProof.Rows L2
def L5:Sp:=λvs H Q _=>∃n:Int,vs=[.int n]/\Q (.bl true) H
def Xm:Sp:=λvs H Q _=>∃n:Int,vs=[.int n]/\-32768<=n/\n<=32767/\Q (.bl true) H
def Jf:Sp:=λvs H Q _=>∃n:Int,vs=[.int n]/\0<=n/\Q (.bl true) H
def Pk:Sp:=λvs H Q _=>vs=[.int 0]/\Q (.bl true) H
def Ir:Sp:=λvs H Q _=>∃a us n,vs=[.ref a,.int n]/\H a=some (.tup us)/\(us.length:Int)=n/\Q (.bl true) H
def G6:Sp:=λvs H Q _=>∃(y p:V),vs=[.bl true,y,p]/\Q .AQ H
def Ln:Sp:=λvs H Q _=>∃(a:Addr) (ns:List Int),vs=[.ref a]/\H a=some (.tup (ns.map V.int))/\ns.length<=10/\(∀n∈ns,0<=n)/\∀H',AA H H'->Q (.bl true) H'
def JC (H:Hp)(a:Addr)(ns:List Int):Prop:=∃us,H a=some (.tup us)/\Paired (λu (n:Int)=>∃p,u=.ref p/\H p=some (.tup [.int n,.int 0])) us ns
def JC.nil (h:H a=some (.tup [])):JC H a []:=(Aq [] h .nil)
def JC.one (h:H a=some (.tup [.ref p]))(h2:H p=some (.tup [.int n,.int 0])):JC H a [n]:=(Ac h (.cons (Aq p rfl h2) .nil))
def Jx:Sp:=λvs H Q _=>∃(a:Addr) (ns:List Int),vs=[.ref a]/\JC H a ns/\ns.length<=10/\(∀n∈ns,0<=n)/\∀H',AA H H'->Q (.bl true) H'
def Vp:Sp:=λvs H Q _=>∃(a:Addr) (ns:List Int),vs=[.ref a]/\JC H a ns/\ns.length<=10/\∀l H',H l=none->AA H H'->H' l=some (.lst (ns.map V.int))->Q (.ref l) H'
def Zq:Sp:=λvs H Q _=>∃(a:Addr) (us:List V) (rs:List MR),vs=[.ref a]/\H a=some (.tup us)/\Paired (GH H) us rs/\rs.length<=10/\∀l H',H l=none->AA H H'->H' l=some (.lst ((rs.map (·.nm)).map V.int))->Q (.ref l) H'
def Et:(List.replicate n true).all id=true:=by rw[NO];intro x G;show List.eq_of_mem_replicate G
def Fx (n:Nat):(List.replicate n true).map V.bl=List.replicate n (V.bl true):=NE
section
variable {P:Program}{w:World}{K:A3}{mg:Bv}{base:Heap}{t1 t2 t3 t4:Tok}
abbrev B2:List Str:=["thing"]
def EJ:AB B2 B2 (Af E3):=⟨rfl,rfl,rfl,by decide +kernel,rfl,by decide +kernel,by decide +kernel⟩
def P4 (F:AG K "is_number" "is_number" E3 f fd)(T:BK K mg t1 t2 t3 t4):AD P w K mg base AU 1 f fd B2 L5:=by
 show F.At EJ (λvs H Q E h=>?_) (λcdv A outer s H vs Q E G h=>?_)
 .show Am h λn z1 _=>?_;subst z1;rfl
 .show Am h λn z1 k=>?_;subst z1;have nd:=EJ.nd;show Ac (Ai (A0 (D8 (Az (Kg K) rfl T.AI Cu (Aa (qv 0) (Aa (Dn (v:=.ty "int") rfl T.n_int boot_int rfl) Ad))) (Dm (qe_not (Az (Kg K) rfl T.AI Cu (Aa (qv 0) (Aa (Dn (v:=.ty "bool") rfl T.n_bool boot_bool rfl) Ad)))))))) (Ac rfl (Jb rfl (.int _) rfl (Ac rfl (Cq (Ac rfl (Jb rfl (.int _) rfl (Ac rfl k)))))))
def BU:AB B2 B2 (Af C2):=⟨rfl,rfl,rfl,by decide +kernel,rfl,by decide +kernel,by decide +kernel⟩
def Kc (F:AG K "is_of_language" "is_of_language" C2 f fd)(T:BK K mg t1 t2 t3 t4)(O:AM P w K mg base 1 "is_number" B2 L5):AD P w K mg base AU 2 f fd B2 Xm:=by
 show F.At BU (λvs H Q E h=>?_) (λcdv A outer s H vs Q E G h=>?_)
 .show Am h λn z1 _=>?_;subst z1;rfl
 .show Ad8 h λn z1 h1 h2 k=>?_;subst z1;have nd:=BU.nd;show Ac (Ai (A0 (D8 (Ax O (rm G) rfl (Aa (qv 0) Ad)) (Dm (Ih Ii Ii (Fu rfl T.GP) (qv 0) (Fu rfl T.g_MOST)))))) (Ac rfl (Aq n rfl (Ac rfl (Cq (Ac rfl (Bu rfl rfl (Ac rfl ?_)))))));rw[KH h1];show Cq (Bu rfl rfl ?_)
  show Q (.bl (decide (n<=32767))) H
  rw[KH h2];show k
def FU:AB B2 B2 (Af Hl):=⟨rfl,rfl,rfl,by decide +kernel,rfl,by decide +kernel,by decide +kernel⟩
def Tj (F:AG K "is_name" "is_name" Hl f fd)(U:AM P w K mg base 1 "is_number" B2 L5):AD P w K mg base AU 2 f fd B2 Jf:=by
 show F.At FU (λvs H Q E h=>?_) (λcdv A outer s H vs Q E O h=>?_)
 .show Am h λn z1 _=>?_;subst z1;rfl
 .show Bp h λn z1 G k=>?_;subst z1;have nd:=FU.nd;show Ac (Ai (A0 (D8 (Ax U (rm O) rfl (Aa (qv 0) Ad)) (Dm (Cb Ag0 (qv 0) Ah (A1 _)))))) (Ac rfl (Aq n rfl (Ac rfl (Cq (Ac rfl (Bu rfl rfl ?_))))))
  show Q (.bl (decide (0<=n))) H
  rw[KH G];show k
def FW:AB B2 B2 (Af Hm):=⟨rfl,rfl,rfl,by decide +kernel,rfl,by decide +kernel,by decide +kernel⟩
def Tk (F:AG K "is_kind" "is_kind" Hm f fd)(O:AM P w K mg base 1 "is_number" B2 L5):AD P w K mg base AU 2 f fd B2 Pk:=by
 show F.At FW (λvs H Q E h=>?_) (λcdv A outer s H vs Q E G h=>?_)
 .obtain⟨rfl,_⟩:=h;rfl
 .obtain⟨rfl,k⟩:=h;have nd:=FW.nd;show Ac (Ai (A0 (D8 (Ax O (rm G) rfl (Aa (qv 0) Ad)) (Dm (Ih Ii Ii (Gw Es Ah) (qv 0) Ah))))) (Ac rfl (Ac rfl (Ac rfl (Cq (Ac rfl (Ac rfl (Bu rfl rfl (Ac rfl (Cq (Bu rfl rfl k))))))))))
abbrev Jc:List Str:=["thing","count"]
def DC:AB Jc Jc (Af Ef):=⟨rfl,rfl,rfl,by decide +kernel,rfl,by decide +kernel,by decide +kernel⟩
def Mp (F:AG K "is_tuple_of" "is_tuple_of" Ef f fd)(T:BK K mg t1 t2 t3 t4):AD P w K mg base AU 1 f fd Jc Ir:=by
 show F.At DC (λvs H Q E h=>?_) (λcdv A outer s H vs Q E G h=>?_)
 .show Da h λa us n z1 _=>?_;subst z1;rfl
 .show Jq h λa us n z1 ha hn k=>?_;subst z1;have nd:=DC.nd;show Ac (Ai (A0 (D8 (Az (Kg K) rfl T.AI Cu (Aa (qv 0) (Aa (Dn (v:=.ty "tuple") rfl T.BC NV rfl) Ad))) (Dm (Cb Bs (Az (Gq K) rfl T.AZ KQ (Aa (qv 0) Ad)) (qv 1) (A1 _)))))) (Ac rfl (Jb rfl (.tup ha) rfl (Ac rfl (Cq (Ac rfl (Aw a us rfl (.inr (AC.of ha)) (A8 rfl rfl ?_)))))));rw[hn,KH rfl];show k
abbrev J7:List Str:=["so","why","place"]
def IK:AB J7 J7 (Af L7):=⟨rfl,rfl,rfl,by decide +kernel,rfl,by decide +kernel,by decide +kernel⟩
def Ab8 (F:AG K "want" "want" L7 f fd):AD P w K mg base AU 1 f fd J7 G6:=by
 show F.At IK (λvs H Q E h=>?_) (λcdv A outer s H vs Q E G h=>?_)
 .show B5 h λy p z1 _=>?_;subst z1;rfl
 .show B5 h λy p z1 k=>?_;subst z1;have nd:=IK.nd;show Ac (Ai (Bh (Gk (Dy (qv 0))) (Ai Bd) A4)) (Ac rfl (Ac rfl k))
def EC:AB B2 B2 (Af E9):=⟨rfl,rfl,rfl,by decide +kernel,rfl,by decide +kernel,by decide +kernel⟩
def P6 (F:AG K "are_names" "are_names" E9 f fd)(T:BK K mg t1 t2 t3 t4)(a1:AM P w K mg base 2 "is_name" B2 Jf):AD P w K mg base AU 3 f fd B2 Ln:=by
 show F.At EC (λvs H Q E h=>?_) (λcdv A outer s H vs Q E hr h=>?_)
 .show B5 h λa ns z1 _=>?_;subst z1;rfl
 .show Jr h λa ns z1 ha hl Y k=>?_;subst z1;have nd:=EC.nd;show Ac (Ai (A0 (D8 (Az (Kg K) rfl T.AI Cu (Aa (qv 0) (Aa (Dn (v:=.ty "tuple") rfl T.BC NV rfl) Ad))) (Dm (Az (Ng K rfl) rfl T.CY OJ (Aa (Ck (N':=["name"]) (n:=1) (AS.nil rfl (by decide) (by decide) (by decide) rfl) rfl (Be K (qv 0)) (λ_ _ _=>(A6 (Al (i:=0) (show List.Nodup (["name"]:List Str)from by decide +kernel) rfl (Or.inl rfl)) Bm (Ax a1 (rm hr) rfl (Aa (qv 0) Ad))))) Ad)))))) (Ac rfl (Jb rfl (.tup ha) rfl (Ac rfl (Cq (Ac rfl (Bc a rfl ⟨_,AC.of ha⟩ λD U=>?_))))));show Kk (λσ=>∃o,σ=[o]) ((List.replicate ns.length (V.bl true)).map some) ha (by rw[JR];omega) (by simp) U ⟨_,rfl⟩ (λi x o σ H' R R' hx ho hσ sm k1 k2=>?_) λH' sm hd=>?_
  .obtain⟨_,rfl⟩:=hσ;obtain⟨n,G,rfl⟩:∃n,ns[i]?=some n/\V.int n=x:=by simpa using hx
   have O:o=some (V.bl true):=by
    rw[NE,LP]at ho;split at ho<;>cases ho;rfl
   show Ac rfl (Bc n rfl (Y n (JJ G)) (k1 _ _ _ O ⟨_,rfl⟩ (AA.refl _)))
  .rw [Cp]at hd;show Aw D (List.replicate ns.length true) rfl (AK.of (by rw[hd,Fx])) (by rw[Et];show k H' sm)
def DV:AB B2 B2 (Af El):=⟨rfl,rfl,rfl,by decide +kernel,rfl,by decide +kernel,by decide +kernel⟩
def Nt (F:AG K "are_params" "are_params" El f fd)(T:BK K mg t1 t2 t3 t4)(a5:AM P w K mg base 1 "is_tuple_of" Jc Ir)(a4:AM P w K mg base 2 "is_name" B2 Jf)(a2:AM P w K mg base 2 "is_kind" B2 Pk):AD P w K mg base AU 3 f fd B2 Jx:=by
 show F.At DV (λvs H Q E h=>?_) (λcdv A outer s H vs Q E G h=>?_)
 .show B5 h λa ns z1 _=>?_;subst z1;rfl
 .show Jr h λa ns z1 O hl hp k=>?_;subst z1;obtain⟨us,ha,Y⟩:=O;have nd:=DV.nd;have lu:=L2.Paired.len Y
  show Ac (Ae (Bh (Gk (Dy (Az (Kg K) rfl T.AI Cu (Aa (qv 0) (Aa (Dn (v:=.ty "tuple") rfl T.BC NV rfl) Ad))))) (Ai (A0 Hd)) A4)
   (Ai (A0 (Az (Ng K rfl) rfl T.CY OJ (Aa (Ck (N':=["param"]) (n:=1) (AS.nil rfl (by decide) (by decide) (by decide) rfl) rfl (Be K (qv 0)) (λ_ _ _=>(A6 (Al (i:=0) (show List.Nodup (["param"]:List Str)from by decide +kernel) rfl (Or.inl rfl)) Bm (D8 (Ax a5 (rm G) rfl (Aa (qv 0) (Aa Ah Ad))) (D8 (Ax a4 (rm G) rfl (Aa (Ap (AT K) (qv 0) Ah (λ_ _=>rfl)) Ad)) (Dm (Ax a2 (rm G) rfl (Aa (Ap (AT K) (qv 0) Ah (λ_ _=>rfl)) Ad)))))))) Ad))))) ?_
  show Ac rfl (Jb rfl (.tup ha) rfl (Ac rfl (Ac rfl (Bc a rfl ⟨_,AC.of ha⟩ λD hD=>Kk (λσ=>∃o,σ=[o]) ((List.replicate us.length (V.bl true)).map some) ha (by omega) (by simp) hD ⟨_,rfl⟩ (λi x o σ H' R R' hx ho hσ sm k1 k2=>?_) λH' sm hd=>?_))))
  .obtain⟨_,rfl⟩:=hσ;show Am (L2.Paired.at Y hx) λn en z1=>Am z1 λp O a1=>?_;subst O;have U:=sm _ _ a1;have eo:o=some (V.bl true):=by
    rw[NE,LP]at ho;split at ho<;>cases ho;rfl
   show Ac rfl (Cr p _ _ rfl U rfl (Ac rfl (Cq (Ac rfl (Bb p _ 0 _ rfl rfl (AC.of U) rfl (Bc n rfl (hp n (JJ en)) (Ac rfl (Cq (Ac rfl (B0 p _ 1 _ rfl rfl (AC.of U) rfl rfl (k1 _ _ _ eo ⟨_,rfl⟩ (AA.refl _))))))))))))
  .rw [Cp]at hd;show Aw D (List.replicate us.length true) rfl (AK.of (by rw[hd,Fx])) (by rw[Et];show k H' sm)
def CV:AB ["params"] ["params"] (Af Dp):=⟨rfl,rfl,rfl,by decide +kernel,rfl,by decide +kernel,by decide +kernel⟩
def Mj (F:AG K "param_names" "param_names" Dp f fd):AD P w K mg base AU 1 f fd ["params"] Vp:=by
 show F.At CV (λvs H Q E h=>?_) (λcdv A outer s H vs Q E hr h=>?_)
 .show B5 h λa ns z1 _=>?_;subst z1;rfl
 .show Fw h λa ns z1 G hl k=>?_;subst z1;obtain⟨us,ha,U⟩:=G;have nd:=CV.nd;have lu:=L2.Paired.len U;show Ac (Ai (A0 (Ck (N':=["name","kind"]) (n:=2) (AS.nil rfl (by decide) (by decide) (by decide) rfl) rfl (Be K (qv 0)) (λ_ _ _=>(A6 (Bk K (n:=2) rfl (Ao (Al (i:=0) (show List.Nodup (["name","kind"]:List Str)from by decide +kernel) rfl (Or.inl rfl)) (Ao (Al (i:=1) (show List.Nodup (["name","kind"]:List Str)from by decide +kernel) rfl (Or.inl rfl)) Bj))) Bm (qv 0)))))) (Ac rfl (Bc a rfl ⟨_,AC.of ha⟩ λD O=>Kk (λσ=>∃o1 o2,σ=[o1,o2]) ((ns.map V.int).map some) ha (by omega) (by simp[lu]) O (Cs rfl) (λi x o σ H' R R' hx ho hσ sm k1 k2=>?_) λH' sm hd=>?_))
  .show G9 hσ λ_ _ z1=>?_;subst z1;show Am (L2.Paired.at U hx) λn Y z1=>Am z1 λp G a1=>?_;subst G;rw[Wb Y]at ho;show Br p _ rfl (AC.of (sm _ _ a1)) rfl (Bg rfl (Bu rfl rfl (Ac rfl (k1 _ _ _ (KC ho).symm (Cs rfl) (AA.refl _)))))
  .rw [Cp]at hd;show k D H' O sm hd
def EG:AB ["rows"] ["rows"] (Af Ez):=⟨rfl,rfl,rfl,by decide +kernel,rfl,by decide +kernel,by decide +kernel⟩
def P3 (F:AG K "row_names" "row_names" Ez f fd):AD P w K mg base AU 1 f fd ["rows"] Zq:=by
 show F.At EG (λvs H Q E h=>?_) (λcdv A outer s H vs Q E hr h=>?_)
 .show Da h λa us rs z1 _=>?_;subst z1;rfl
 .show Qn h λa us rs z1 ha O hl k=>?_;subst z1;have nd:=EG.nd;have lu:=L2.Paired.len O;show Ac (Ai (A0 (Ck (N':=["row"]) (n:=1) (AS.nil rfl (by decide) (by decide) (by decide) rfl) rfl (Be K (qv 0)) (λ_ _ _=>(A6 (Al (i:=0) (show List.Nodup (["row"]:List Str)from by decide +kernel) rfl (Or.inl rfl)) Bm (Ap (AT K) (qv 0) Ah (λ_ _=>rfl))))))) (Ac rfl (Bc a rfl ⟨_,AC.of ha⟩ λD G=>Kk (λσ=>∃o1,σ=[o1]) (((rs.map (·.nm)).map V.int).map some) ha (by omega) (by simp[lu]) G ⟨_,rfl⟩ (λi x o σ H' R R' Y ho hσ sm k1 k2=>?_) λH' sm hd=>?_))
  .obtain⟨_,rfl⟩:=hσ;show Am (L2.Paired.at O Y) λr U z1=>B7 z1 λra rb z2 a1 _=>?_;subst z2;rw[Wb (x:=r.nm) (by rw[KP,U];rfl)]at ho;show Ac rfl (Bb ra _ 0 _ rfl rfl (AC.of (sm _ _ a1)) rfl (k1 _ _ _ (KC ho).symm ⟨_,rfl⟩ (AA.refl _)))
  .rw [Cp]at hd;show k D H' G sm hd
end
end P2
namespace P2
open PySem PySem.Spec PyProof.Rows L2
def So:Sp:=λvs H Q _=>∃x:Str,vs=[.str x]/\(x="main"\/x="g")/\∀H',AA H H'->Q (.bl true) H'
noncomputable def Ij (G:List Key):List (Key×V):=G.map λy=>(y,V.bl true)
def Ma (met:List Key)(x:Key)(h:x∉met):Ci (Ij met) x (V.bl true)=Ij (met++[x]):=by
 unfold Ci Ij;rw[JW]
 .simp
 .rw [List.any_eq_true];rintro⟨U,O,e⟩;show Am (LC.mp O) λy G z1=>?_;subst z1;show h (MX e▸G)
def valK (met:List Key)(x:Key):(Bt (Ij met) x).isSome=true↔x∈met:=by
 induction met with
 | nil=>show⟨λh=>(by cases h),λh=>(by cases h)⟩
 | cons y met G=>
  unfold Ij at G ⊢;rw[LK];by_cases e:y=x
  .rw [C7 e,e];simp
  .rw [Dj e,G,JS];show⟨.inr,λz=>z.resolve_left λq=>e q.symm⟩
def Ub (h:x∉met):(Bt (Ij met) x).isSome=false:=Bool.eq_false_iff.mpr λz=>h ((valK _ _).mp z)
def Ui:Sp:=λvs H Q _=>∃(a:Addr) (xs:List Key),vs=[.ref a]/\H a=some (.lst (xs.map kV))/\xs.length<=100/\xs.Nodup/\∀H',AA H H'->Q .AQ H'
def Sr:Sp:=λvs H Q _=>∃ns r,vs=[.str r.op,r.told]/\DX ns r/\∀H',AA H H'->Q (.bl true) H'
noncomputable def Qx:ME->Str
 | .br _ _ _=>"branch"
 | .gv _=>"give"
def Xi:Sp:=λvs H Q _=>∃v e,vs=[v]/\IsE H v e/\Q (.str (Qx e)) H
def IsW (H:Hp)(l:Addr)(ls:List Int):Prop:=∃us,H l=some (.lst us)/\Paired (λu (n:Int)=>∃p q,u=.ref p/\H p=some (.tup [.int n,.ref q])/\H q=some (.tup [])) us ls
def Ib:Sp:=λvs H Q _=>∃v e,vs=[v]/\IsE H v e/\∀l H',H l=none->AA H H'->IsW H' l (Ja e)->Q (.ref l) H'
def Pi:Sp:=λvs H Q _=>∃v e,vs=[v]/\IsE H v e/\∀p H',AA H H'->H' p=some (.tup [.int (Fj e)])->Q (.ref p) H'
section
variable {P:Program}{w:World}{K:A3}{mg:Bv}{base:Heap}{t1 t2 t3 t4:Tok}
def S3:AB B2 B2 (Af Hj):=⟨rfl,rfl,rfl,by decide +kernel,rfl,by decide +kernel,by decide +kernel⟩
def Tg (F:AG K "is_word" "is_word" Hj f fd)(T:BK K mg t1 t2 t3 t4):AD P w K mg base AU 1 f fd B2 So:=by
 show F.At S3 (λvs H Q E h=>?_) (λcdv A outer s H vs Q E hr h=>?_)
 .show Am h λx z1 _=>?_;subst z1;rfl
 .show Bp h λx z1 ha k=>?_;subst z1
  show Ac (Ae (Bh (QW.pt (Uo (Gk (Dy (Az (Kg K) rfl T.AI Cu (Aa (qv 0) (Aa (Dn (v:=.ty "str") rfl T.HP boot_str rfl) Ad))))) (Pr (Gk (Xv Ii Ii Ah (Az Qr rfl T.AZ KQ (Aa (qv 0) Ad)) Ah))))) (Ai (A0 Hd)) A4)
   (Ai (A0 (Az (Ng K rfl) rfl T.CY OJ (Aa (Ck (N':=["sign"]) (n:=1) (AS.nil rfl (by decide) (by decide) (by decide) rfl) rfl (qi_str (qv 0)) (λ_ _ _=>(A6 (Al (i:=0) (show List.Nodup (["sign"]:List Str)from by decide +kernel) rfl (Or.inl rfl)) Bm (Ih Ot Ot Av (qv 0) Av)))) Ad))))) ?_
  have G:1<=x.length/\x.length<=8/\x.cps.all (·<128)=true/\∀c∈x.cps.toList,(!decide ((⟨#[c]⟩:Str).cps.toList<("a":Str).cps.toList))=true/\(!decide (("z":Str).cps.toList<(⟨#[c]⟩:Str).cps.toList))=true:=by
   rcases ha with rfl|rfl<;>decide +kernel
  show N0 G λh1 O a2 hc=>?_;have hz:x.length<=sizeLine:=JU O (by decide);show Ac rfl (Jb rfl (.str _) rfl (Ac rfl (Ac rfl (Bc x rfl hz (Bu rfl rfl (Ac rfl ?_))))));rw[KH (show(1:Int)<=(x.length:Nat)by omega)];show Cq (Bu rfl rfl (Ac rfl ?_))
  show if(!decide ((x.length:Int)<=8))=true then _ else _
  rw[KH (show((x.length:Nat):Int)<=8 by omega)];show Ac rfl (Bc x rfl a2 λD U=>Zg (λi ys σ H'=>(∃o,σ=[o])/\H'=upd H D (.lst ys)/\ys=List.replicate i (V.bl true)) hz (A6 ⟨_,rfl⟩ rfl rfl) ?_ ?_ ?_)
  .rintro i ys σ H' hi ⟨_,rfl,rfl⟩;show⟨Ag,by simp⟩
  .rintro i c ys σ H' a1 ⟨⟨o,rfl⟩,rfl,rfl⟩;obtain⟨Y,q2⟩:=hc c (JJ (by simpa using a1));show Ac rfl (Bu rfl rfl (Ac rfl ?_));rw[Y];show Cq (Bu rfl rfl ?_)
   show upd H D _ D=_/\_
   rw[q2];show C9 Ag ⟨_,rfl⟩ Gs (by rw[List.replicate_succ'])
  .rintro ys σ H' ⟨_,rfl,rfl⟩;show Aw D (List.replicate x.cps.size true) rfl (AK.of (by rw[Ag,Fx])) (by rw[Et];show k _ ((AA.refl H).upd U))
def DE:AB ["things","met","index","thing"] ["things"] (Af Dw):=⟨rfl,rfl,rfl,by decide +kernel,rfl,by decide +kernel,by decide +kernel⟩
def Mr (F:AG K "first_again" "first_again" Dw f fd)(T:BK K mg t1 t2 t3 t4):AD P w K mg base AU 1 f fd ["things"] Ui:=by
 show F.At DE (λvs H Q E h=>?_) (λcdv A outer s H vs Q E O h=>?_)
 . show B5 h λa xs z1 _=>?_;subst z1;rfl
 . show Jr h λa xs z1 ha hl EY k=>?_;subst z1;have nd:=DE.nd
   show Ac (Ae (A9 (i:=1) nd rfl (Or.inl rfl) Ie)
     (Ae (Bw JT rfl (Gv (b:=true) rfl T.AW (Aa (qv 0) Ad)) (Bk K (n:=2) rfl (Ao (Al (i:=2) nd rfl (Or.inl rfl)) (Ao (Al (i:=3) nd rfl (Or.inl rfl)) Bj))) (Ae (Bh (qt_din (B4 O) (qv 3) (qv 1)) (Ai (A0 (qv 2))) A4)
     (Ai (Ft (B4 O) (qv 1) (qv 3) Hd rfl))))
     (Ai (A0 C6)))) ?_
   show λd hd=>(Ac rfl (Bc a rfl ⟨_,AK.of (((AA.refl H).upd hd) _ _ ha)⟩ (Kh (b:=true) (xs:=xs.map kV) (λi σ H'=>(∃U Y,σ=[some (.ref a),some (.ref d),U,Y])/\AA H H'/\H' d=some (.dK (Ij (xs.take i)))) (A6 (Cs rfl) (AA.upd (AA.refl H) hd) Ag) (λi σ H' hi ⟨_,sm,_⟩=>AK.of (sm _ _ ha)) ?_ (λσ H' ⟨_,sm,_⟩=>k H' sm))));rintro i v σ H' p hv ⟨⟨U,Y,rfl⟩,sm,a1⟩ G;obtain⟨x,hx,rfl⟩:∃x,xs[i]?=some x/\kV x=v:=by simpa using hv
   have a2:upd H' p (.tup [.int i,kV x]) d=some (.dK (Ij (xs.take i))):=by rw[Ak (Aj a1 G)];show a1
   have tk:xs.take (i+1)=xs.take i++[x]:=Bx hx;have hm:x∉xs.take i:=λz=>by
     have:=EY.sublist (List.take_sublist (i+1) xs);rw[tk,MY]at this;show this.2.2 x z x (by simp) rfl
   show Br p _ rfl (AC.of Ag) rfl (Bg rfl (Bu rfl rfl (Ac rfl (Ac rfl (Aw d _ rfl (AX.k (k:=x) a2) (Ac rfl ?_))))));rw[Ub hm];show Ac rfl (Ac rfl (Ct d _ rfl (FH.k (k:=x) a2 (by unfold Ij;rw[JR,NC];show Iv (by omega))) (Cs rfl) (Ko (sm.upd G) hd) ?_));rw[Ag,Ma _ _ hm,tk]
def FR:AB ["op","told"] ["op","told"] (Af Hk):=⟨rfl,rfl,rfl,by decide +kernel,rfl,by decide +kernel,by decide +kernel⟩
def Ti (F:AG K "is_told" "is_told" Hk f fd)(T:BK K mg t1 t2 t3 t4)(U:AM P w K mg base 1 "is_number" B2 L5)(a1:AM P w K mg base 2 "is_of_language" B2 Xm):AD P w K mg base AU 3 f fd ["op","told"] Sr:=by
 show F.At FR (λvs H Q E h=>?_) (λcdv A outer s H vs Q E O h=>?_)
 . show B5 h λns r z1 _=>?_;subst z1;rfl
 . show B7 h λns r z1 rk k=>?_;subst z1;have nd:=FR.nd
   show Ac (Ae (Bh (A2 Bs (qv 0) Av (A1 _)) (Ai (A0 (Ax a1 (rm O) rfl (Aa (qv 1) Ad)))) A4)
     (Ae (Bh (A2 Bs (qv 0) Av (A1 _)) (Ai (A0 (D8 (Ax U (rm O) rfl (Aa (qv 1) Ad)) (Dm (Ih Ii Ii Ah (qv 1) Ah))))) A4)
     (Ae (Bh (A2 (inK K) (qv 0) (Bq (Aa Av (Aa Av Ad))) (by with_unfolding_all rfl)) (Ai (A0 (D8 (Ax U (rm O) rfl (Aa (qv 1) Ad)) (Dm (Ih Ii Ii Ah (qv 1) Ah))))) A4)
     (Ae (Bh (A2 Bs (qv 0) Av (A1 _)) (Ai (A0 (Az (Kg K) rfl T.AI Cu (Aa (qv 1) (Aa (Dn (v:=.ty "str") rfl T.HP boot_str rfl) Ad))))) A4)
     (Ai (A0 (Cb Mi (qv 1) C6 (A1 _)))))))) ?_
   cases rk with
   | num n Y h0 h1 h2=>show A8 rfl rfl (Ac rfl (Cq (Ac rfl (Ep Y rfl h1 h2 (k _ (AA.refl H))))))
   | eq n x y _ _ _=>show A8 rfl rfl (Ac rfl (A8 rfl rfl (Ac rfl (A8 rfl (zl 2) λp G=>(Ct p _ rfl (.inr (AC.of Ag)) rfl rfl (Ac rfl (A8 rfl rfl (Ac rfl (A8 rfl rfl (k _ ((AA.refl H).upd G)))))))))))
   | sub n x y _ _ _=>show A8 rfl rfl (Ac rfl (A8 rfl rfl (Ac rfl (A8 rfl (zl 2) λp G=>(Ct p _ rfl (.inr (AC.of Ag)) rfl rfl (Ac rfl (A8 rfl rfl (Ac rfl (A8 rfl rfl (k _ ((AA.refl H).upd G)))))))))))
   | out n x _ _=>show A8 rfl rfl (Ac rfl (A8 rfl rfl (Ac rfl (A8 rfl (zl 2) λp G=>(Ct p _ rfl (.inr (AC.of Ag)) rfl rfl (Ac rfl (A8 rfl rfl (Ac rfl (A8 rfl rfl (k _ ((AA.refl H).upd G)))))))))))
   | call n x g _ _ _=>show A8 rfl rfl (Ac rfl (A8 rfl rfl (Ac rfl (A8 rfl (zl 2) λp G=>(Ct p _ rfl (.inr (AC.of Ag)) rfl rfl (Ac rfl (A8 rfl rfl (Ac rfl (Ac rfl (Jb rfl (.str _) rfl (k _ ((AA.refl H).upd G))))))))))))
abbrev D9:List Str:=["end"]
def FZ:AB D9 D9 (Af Hg):=⟨rfl,rfl,rfl,by decide +kernel,rfl,by decide +kernel,by decide +kernel⟩
def Tc (F:AG K "word_of" "word_of" Hg f fd)(T:BK K mg t1 t2 t3 t4):AD P w K mg base AU 1 f fd D9 Xi:=by
 show F.At FZ (λvs H Q E h=>?_) (λcdv A outer s H vs Q E O h=>?_)
 .show B5 h λv e z1 _=>?_;subst z1;rfl
 .show B7 h λv e z1 G k=>?_;subst z1;have nd:=FZ.nd;show Ac (Ai (A0 (Gm (QW.pt (Kq (Dy (Az (Kg K) rfl T.AI Cu (Aa (qv 0) (Aa (Dn (v:=.ty "tuple") rfl T.BC NV rfl) Ad)))) (Kq (A2 Uz (Az (Gq K) rfl T.AZ KQ (Aa (qv 0) Ad)) Ah (A1 _)) (Jz (Dy (Az (Kg K) rfl T.AI Cu (Aa (Ap (AT K) (qv 0) Ah (λ_ _=>rfl)) (Aa (Dn (v:=.ty "str") rfl T.HP boot_str rfl) Ad)))))))) (Ap (AT K) (qv 0) Ah (λ_ _=>rfl)) C6))) ?_
  cases e with
  | br n l1 l2=>
   show Gp G λa b c z1 ha _=>?_;subst z1;show Ac rfl (Jb rfl (.tup ha) rfl (Ac rfl (Ac rfl (Aw a _ rfl (.inr (AC.of ha)) (Bu rfl rfl (Ac rfl (Ac rfl (Ac7 rfl rfl (AC.of ha) rfl (Jb rfl (.str _) rfl (Ac rfl (Ac rfl (Ac7 rfl rfl (AC.of ha) rfl k))))))))))))
  | gv n=>
   show Am G λa z1 ha=>?_;subst z1;show Ac rfl (Jb rfl (.tup ha) rfl (Ac rfl (Ac rfl (Aw a _ rfl (.inr (AC.of ha)) (Bu rfl rfl (Ac rfl (Ac rfl (Ac7 rfl rfl (AC.of ha) rfl (Jb rfl (.str _) rfl (Ac rfl (Ac rfl (Ac7 rfl rfl (AC.of ha) rfl k))))))))))))
def FN:AB D9 D9 (Af Hh):=⟨rfl,rfl,rfl,by decide +kernel,rfl,by decide +kernel,by decide +kernel⟩
def Td (F:AG K "ways_of" "ways_of" Hh f fd):AD P w K mg base AU 1 f fd D9 Ib:=by
 show F.At FN (λvs H Q E h=>?_) (λcdv A outer s H vs Q E hr h=>?_)
 . show B5 h λv e z1 _=>?_;subst z1;rfl
 . show B7 h λv e z1 U k=>?_;subst z1;have nd:=FN.nd
   show Ac (Ae (Bh (A2 Bs (Ap (AT K) (qv 0) Ah (λ_ _=>rfl)) Av (A1 _)) (Ai (A0 (G7 (Aa (Bq (Aa (Ap (AT K) (qv 0) Ah (λ_ _=>rfl)) (Aa (Ap (AT K) (qv 0) Ah (λ_ _=>rfl)) Ad))) Ad)))) A4)
     (Ae (Bh (A2 Bs (Ap (AT K) (qv 0) Ah (λ_ _=>rfl)) Av (A1 _)) (Ai (A0 (G7 (Aa (Bq (Aa (Ap (AT K) (qv 0) Ah (λ_ _=>rfl)) (Aa (Ap (AT K) (qv 0) Ah (λ_ _=>rfl)) Ad))) (Aa (Bq (Aa (Ap (AT K) (qv 0) Ah (λ_ _=>rfl)) (Aa (Ap (AT K) (qv 0) Ah (λ_ _=>rfl)) Ad))) Ad))))) A4)
     (Ai (A0 (G7 Ad))))) ?_
   cases e with
   | br n l1 l2=>
     show Jq U λa b c z1 ha hb hc=>?_;subst z1;show Ac rfl (Yy rfl rfl (AC.of ha) rfl rfl (Ac rfl (Ac rfl (Yy rfl rfl (AC.of ha) rfl rfl (Ac rfl (Cq (Ac rfl (Bb _ _ 2 _ rfl rfl (AC.of ha) rfl (Ac rfl (B0 _ _ 3 _ rfl rfl (AC.of ha) rfl (zl 2) λp hp=>?_))))))))));have s1:=(AA.refl H).upd (o:=.tup [.int l1,.ref b]) hp;have Y:upd H p (.tup [.int l1,.ref b]) p=some (.tup [.int l1,.ref b]):=Ag;generalize upd H p (.tup [.int l1,.ref b])=H1 at *;show Ac rfl (Bb _ _ 4 _ rfl rfl (AC.of (s1 _ _ ha)) rfl (Ac rfl (B0 _ _ 5 _ rfl rfl (AC.of (s1 _ _ ha)) rfl (zl 2) λq hq=>?_)));have s2:=(AA.refl H1).upd (o:=.tup [.int l2,.ref c]) hq;have g2:upd H1 q (.tup [.int l2,.ref c]) q=some (.tup [.int l2,.ref c]):=Ag;generalize upd H1 q (.tup [.int l2,.ref c])=H2 at *;have O:=s1.trans s2;show⟨zl 2,λl hl=>?_⟩;have G:=(AA.refl H2).upd (o:=.lst [.ref p,.ref q]) hl;show k l _ (O.free hl) (O.trans G) (Ac Ag (.cons (Aw p b rfl (G _ _ (s2 _ _ Y)) (G _ _ (O _ _ hb))) (.cons (Aw q c rfl (G _ _ g2) (G _ _ (O _ _ hc))) .nil)))
   | gv n=>
     show Am U λa z1 ha=>?_;subst z1;show Ac rfl (Yy rfl rfl (AC.of ha) rfl rfl (Ac rfl (Ac rfl (Yy rfl rfl (AC.of ha) rfl rfl (Ac rfl (⟨zl 0,λl hl=>k l _ hl ((AA.refl H).upd hl) (Ac Ag .nil)⟩))))))
def FX:AB D9 D9 (Af Hi):=⟨rfl,rfl,rfl,by decide +kernel,rfl,by decide +kernel,by decide +kernel⟩
def Te (F:AG K "used_by" "used_by" Hi f fd):AD P w K mg base AU 1 f fd D9 Pi:=by
 show F.At FX (λvs H Q E h=>?_) (λcdv A outer s H vs Q E hr h=>?_)
 .show B5 h λv e z1 _=>?_;subst z1;rfl
 .show B7 h λv e z1 U k=>?_;subst z1;have nd:=FX.nd;show Ac (Ai (A0 (Gm (A2 (inK K) (Ap (AT K) (qv 0) Ah (λ_ _=>rfl)) (Bq (Aa Av (Aa Av Ad))) (by with_unfolding_all rfl)) (Bq (Aa (Ap (AT K) (qv 0) Ah (λ_ _=>rfl)) Ad)) (Bq Ad)))) ?_
  cases e with
  | br n l1 l2=>
   show Jq U λa b c z1 ha Y hc=>?_;subst z1;show Ac rfl (B0 _ _ 0 _ rfl rfl (AC.of ha) rfl (zl 2) λp G=>(Ct p _ rfl (.inr (AC.of Ag)) rfl rfl (Ac rfl (Cq ?_))));have s1:=(AA.refl H).upd (o:=.tup [.str "branch",.str "give"]) G;show Ac rfl (B0 _ _ 1 _ rfl rfl (AC.of (s1 _ _ ha)) rfl (zl 1) λq O=>k q _ (s1.upd O) Ag)
  | gv n=>
   show Am U λa z1 ha=>?_;subst z1;show Ac rfl (B0 _ _ 0 _ rfl rfl (AC.of ha) rfl (zl 2) λp G=>(Ct p _ rfl (.inr (AC.of Ag)) rfl rfl (Ac rfl (Cq ?_))));have s1:=(AA.refl H).upd (o:=.tup [.str "branch",.str "give"]) G;show Ac rfl (B0 _ _ 1 _ rfl rfl (AC.of (s1 _ _ ha)) rfl (zl 1) λq O=>k q _ (s1.upd O) Ag)
end
end P2
namespace P2
open PySem PySem.Spec PyProof.Rows L2
noncomputable def JF:List (Str×Nat):=[("num",0),("=",2),("-",2),("out",1)]
structure TxT (K:A3)(w:World)(mg:Bv)(aT aE:Addr)(kT:List (Str×V)):Prop where
 GV:mg "TAKES"=some (.ref aT)
 DL:mg "END_LENGTHS"=some (.ref aE)
 GZ:EO K w aT kT
 DP:EO K w aE [("jump",.int 3),("branch",.int 6),("give",.int 2),("fail",.int 2)]
 has:∀op n,(op,n)∈JF->∃a,(op,V.ref a)∈kT/\∀H,AC K H a (List.replicate n (.int 0))
def Sw:Sp:=λvs H Q _=>∃ns v r p,vs=[v,p]/\GH H v r/\DX ns r/\∀H',AA H H'->Q .AQ H'
def Pl:Sp:=λvs H Q _=>∃v e,vs=[v]/\IsE H v e/\0<=Fj e/\(∀l∈Ja e,0<=l)/\∀H',AA H H'->Q (.bl true) H'
def Sx:Sp:=λvs H Q _=>∃ns v b x,vs=[.str x,v]/\FQ H v b/\(∀r∈b.rows,DX ns r)/\b.rows.length<=10/\0<=Fj b.fin/\(∀l∈Ja b.fin,0<=l)/\∀H',AA H H'->Q .AQ H'
def spFw:Sp:=λvs H Q _=>∃v p,vs=[v]/\IsP H v p/\p.length<=10/\(p.map (·.nm)).Nodup/\("main":Str)∈p.map (·.nm)/\∀H',AA H H'->Q .AQ H'
def wb {b:Bool}{y p:V}{H:Hp}{Q:VK}(h:b=true)(k:Q .AQ H):∃O G,([.bl b,y,p]:List V)=[.bl true,O,G]/\Q .AQ H:=(Ce y p (by rw[h]) k)
def wq (h:b=true):([.bl b,y,p]++[]:List V)=[.bl true,y,p]:=by rw[h];rfl
def Ry {n i:Nat}{o:Option V}(ho:((List.replicate n (V.bl true)).map some)[i]?=some o):o=some (V.bl true):=by
 rw[NE,LP]at ho;split at ho<;>cases ho;rfl
theorem Rw (x:Str):∀xs:List Str,IT (V.str x) (xs.map V.str)=true↔x∈xs
 | []=>by simp[IT]
 | y::r=>by
  have G:=Rw x r
  show((y==x)||IT (V.str x) (r.map V.str))=true↔_
  rw[Bool.or_eq_true,G,ND,JS];show⟨λz=>z.imp Eq.symm id,λz=>z.imp Eq.symm id⟩
def We (xs:List Str):(xs.map V.str).all Jd=true:=by
 rw[NO];intro v G;show Am (LC.mp G) λx _ z1=>?_;subst z1;rfl
def Tw {xs:List Str}(h:xs.Nodup):(xs.map (λx=>(Sum.inr x:Key))).Nodup:=List.Pairwise.map _ (λa b n z=>n (Sum.inr.inj z)) h
def Rv {xs:List Int}(h:xs.Nodup):(xs.map (λx=>(Sum.inl x:Key))).Nodup:=List.Pairwise.map _ (λa b n z=>n (MI z)) h
section
variable {P:Program}{w:World}{K:A3}{mg:Bv}{base:Heap}{t1 t2 t3 t4:Tok}{aT aE:Addr}{kT:List (Str×V)}
def CZ:AB ["row","place","name","op","told","args"] ["row","place"] (Af Ed):=⟨rfl,rfl,rfl,by decide +kernel,rfl,by decide +kernel,by decide +kernel⟩
def Ml (F:AG K "look_at_row" "look_at_row" Ed f fd)(T:BK K mg t1 t2 t3 t4)(TT:TxT K w mg aT aE kT)(O:AM P w K mg base 1 "want" J7 G6)(a7:AM P w K mg base 1 "is_tuple_of" Jc Ir)(a4:AM P w K mg base 2 "is_name" B2 Jf)
   (a5:AM P w K mg base 3 "is_told" ["op","told"] Sr)(a6:AM P w K mg base 3 "are_names" B2 Ln):AD P w K mg base AU 4 f fd ["row","place"] Sw:=by
 show F.At CZ (λvs H Q E h=>?_) (λcdv A outer s H vs Q E G h=>?_)
 . show Jp h λns v r p z1 _=>?_;subst z1;rfl
 . show Qm h λns v r p z1 z2 rk k=>?_;subst z1;obtain⟨a,b,rfl,ha,U⟩:=z2;have nd:=CZ.nd
   show Ac (Ae (A7 (Ax O (rm G) rfl (Aa (Ax a7 (rm G) rfl (Aa (qv 0) (Aa Ah Ad))) (Aa Av (Aa (qv 1) Ad)))))
     (Ae (L8 (qv 0) (Bk K (n:=4) rfl (Ao (Al (i:=2) nd rfl (Or.inl rfl)) (Ao (Al (i:=3) nd rfl (Or.inl rfl)) (Ao (Al (i:=4) nd rfl (Or.inl rfl)) (Ao (Al (i:=5) nd rfl (Or.inl rfl)) Bj))))))
     (Ae (A7 (Ax O (rm G) rfl (Aa (Ax a4 (rm G) rfl (Aa (qv 2) Ad)) (Aa Av (Aa (qv 1) Ad)))))
     (Ae (A7 (Ax O (rm G) rfl (Aa (D8 (Az (Kg K) rfl T.AI Cu (Aa (qv 3) (Aa (Dn (v:=.ty "str") rfl T.HP boot_str rfl) Ad))) (Dm (Xy (Cb Bs (qv 3) Av (A1 _)) (Dm (Z0 TT.GZ rfl TT.GV (qv 3)))))) (Aa Av (Aa (qv 1) Ad)))))
     (Ae (A7 (Ax O (rm G) rfl (Aa (Ax a5 (rm G) rfl (Aa (qv 3) (Aa (qv 4) Ad))) (Aa Av (Aa (qv 1) Ad)))))
     (Ae (A7 (Ax O (rm G) rfl (Aa (Ax a6 (rm G) rfl (Aa (qv 5) Ad)) (Aa Av (Aa (qv 1) Ad)))))
     (Ai (A7 (Ax O (rm G) rfl (Aa (Xy (Cb Bs (qv 3) Av (A1 _)) (Dm (Cb Bs (Az (Gq K) rfl T.AZ KQ (Aa (qv 5) Ad)) (Az (Gq K) rfl T.AZ KQ (Aa (Lr TT.GZ rfl TT.GV (qv 3) (λ_ _=>rfl)) Ad)) (A1 _)))) (Aa Av (Aa (qv 1) Ad)))))))))))) ?_
   have h0:0<=r.nm:=by cases rk<;>assumption
   have hp:∀n∈r.args,0<=n:=by
     cases rk<;>intro n hn<;>simp only[JS,KI,MC]at hn
     . rcases hn with rfl|rfl<;>assumption
     . rcases hn with rfl|rfl<;>assumption
     . subst hn;assumption
     . subst hn;assumption
   have hl:r.args.length<=10:=by cases rk<;>simp
   show Ac rfl (Cr a _ _ rfl ha rfl (Ac rfl (Bg rfl (Ac rfl (Br a _ rfl (AC.of ha) rfl (Bg rfl (Bg rfl (Bg rfl (Bu rfl rfl (norm (σ':=[some (.ref a),some p,some (.int r.nm),some (.str r.op),some r.told,some (.ref b)]) rfl (Ac rfl (A8 rfl h0 (Ac rfl (Bg rfl (Ac rfl (Jb rfl (.str _) rfl (Ac rfl (Cq ?_))))))))))))))))));by_cases hc:r.op="call"
   . rw[hc];show A8 rfl rfl (Ac rfl (Cq (Ac rfl (Bg rfl ?_))));show Ac rfl (Ac rfl (Aw ns r (by rw[hc];rfl) rk λH1 s1=>(Ac rfl (Bg rfl (Ac rfl (Ct b r.args rfl (s1 _ _ U) hl hp λH2 s2=>(Ac rfl (Bg rfl (A8 rfl rfl (Ac rfl (Cq (Ac rfl (Bg rfl (k H2 (s1.trans s2)))))))))))))))
   . obtain⟨n,hm,hn⟩:∃n,(r.op,n)∈JF/\r.args.length=n:=by
       cases rk with
       | num=>show Aq 0 (by simp[JF]) rfl
       | eq=>show Aq 2 (by simp[JF]) rfl
       | sub=>show Aq 2 (by simp[JF]) rfl
       | out=>show Aq 1 (by simp[JF]) rfl
       | call=>show absurd rfl hc
     show Am (TT.has _ _ hm) λta a1 a2=>?_;have Y:decide (V.str r.op=V.str "call")=false:=by rw[T4];show KL hc
     show A8 rfl rfl (Ac rfl ?_);rw[Y];show Ac rfl (Aq r.op rfl (.inl (Ac a1 (Ac rfl (Bg rfl (Ac rfl (Ac rfl (Aw ns r rfl rk λH1 s1=>(Ac rfl (Bg rfl (Ac rfl (Ct b r.args rfl (s1 _ _ U) hl hp λH2 s2=>(Ac rfl (Bg rfl (A8 rfl rfl (Ac rfl ?_))))))))))))))));rw[Y];show Ac rfl (Aw b _ rfl (.inr (AC.of (s2 _ _ (s1 _ _ U)))) (Ac rfl (Aw r.op _ rfl a1 (Br ta _ rfl (.inr (a2 _)) rfl (Ac rfl (wb (by rw[JR,MN,hn,KH rfl]) (k H2 (s1.trans s2))))))))
def GD:AB ["end","word","ways"] D9 (Af Jg):=⟨rfl,rfl,rfl,by decide +kernel,rfl,by decide +kernel,by decide +kernel⟩
def Vz (F:AG K "is_end" "is_end" Jg f fd)(T:BK K mg t1 t2 t3 t4)(TT:TxT K w mg aT aE kT)(a5:AM P w K mg base 1 "word_of" D9 Xi)(a7:AM P w K mg base 1 "is_number" B2 L5)(a4:AM P w K mg base 1 "ways_of" D9 Ib)(a1:AM P w K mg base 2 "is_name" B2 Jf)
   (a6:AM P w K mg base 3 "are_names" B2 Ln):AD P w K mg base AU 4 f fd D9 Pl:=by
 show F.At GD (λvs H Q E h=>?_) (λcdv A outer s H vs Q E G h=>?_)
 . show B5 h λv e z1 _=>?_;subst z1;rfl
 . show Jr h λv e z1 O hu a2 k=>?_;subst z1;have nd:=GD.nd
   show Ac (Ae (A9 (i:=1) nd rfl (Or.inl rfl) (Ax a5 (rm G) rfl (Aa (qv 0) Ad)))
     (Ae (Bh (QW.pt (Uo (S7 TT.DP rfl TT.DL (qv 1)) (Pr (A2 Uy (Az (Gq K) rfl T.AZ KQ (Aa (qv 0) Ad)) (Lr TT.DP rfl TT.DL (qv 1) (λ_ _=>rfl)) (A1 _))))) (Ai (A0 Hd)) A4)
     (Ae (Bh (A2 Bs (qv 1) Av (A1 _)) (Ai (A0 (Ax a7 (rm G) rfl (Aa (Ap (AT K) (qv 0) Ah (λ_ _=>rfl)) Ad)))) A4)
     (Ae (A9 (i:=2) nd rfl (Or.inl rfl) (Ax a4 (rm G) rfl (Aa (qv 0) Ad)))
     (Ai (A0 (D8 (Ax a1 (rm G) rfl (Aa (Ap (AT K) (qv 0) Ah (λ_ _=>rfl)) Ad)) (Dm (Az (Ng K rfl) rfl T.CY OJ (Aa (Ck (N':=["label","args"]) (n:=2) (AS.nil rfl (by decide) (by decide) (by decide) rfl) rfl (Cc K (qv 2)) (λ_ _ _=>(A6 (Bk K (n:=2) rfl (Ao (Al (i:=0) (show List.Nodup (["label","args"]:List Str)from by decide +kernel) rfl (Or.inl rfl)) (Ao (Al (i:=1) (show List.Nodup (["label","args"]:List Str)from by decide +kernel) rfl (Or.inl rfl)) Bj))) Bm (D8 (Ax a1 (rm G) rfl (Aa (qv 0) Ad)) (Dm (Ax a6 (rm G) rfl (Aa (qv 1) Ad))))))) Ad)))))))))) ?_
   show Ac rfl (Aw v e rfl O ?_);obtain⟨a,us,rfl,ha,hm,h1,nf⟩:∃a us,v=.ref a/\H a=some (.tup us)/\(Qx e,V.int us.length)∈([("jump",.int 3),("branch",.int 6),("give",.int 2),("fail",.int 2)]:List (Str×V))/\us[1]?=some (.int (Fj e))/\¬Qx e="fail":=by
     cases e with
     | br n l1 l2=>show Gp O λa b c z1 ha _=>?_;subst z1;show Ct a _ rfl ha (by simp[Qx]) rfl (show ¬("branch":Str)="fail" by decide +kernel)
     | gv n=>show Am O λa z1 ha=>?_;subst z1;show Ct a _ rfl ha (by simp[Qx]) rfl (show ¬("give":Str)="fail" by decide +kernel)
   show Ac rfl (Ac rfl (.inl (Ac hm (Ac rfl (Ac rfl (Aw a us rfl (.inr (AC.of ha)) (Ac rfl (Ex rfl hm rfl (Ac rfl ?_)))))))));rw[KH rfl];show A8 rfl rfl (Ac rfl ?_);rw[T4,KL nf];show Ac rfl (Aw _ e rfl O λl H1 hl s1 ⟨U,Y,pr⟩=>Ac rfl (Bb a us 1 _ rfl rfl (AC.of (s1 _ _ ha)) (Gz (j:=1) h1) (A8 rfl hu (Ac rfl (Cq ?_)))));have lw:U.length<=1000:=by
     rw[L2.Paired.len pr];cases e<;>simp[Ja]
   show Ac rfl (Bc l rfl ⟨_,AK.of Y⟩ λD hD=>R9 (λσ=>∃o1 o2,σ=[o1,o2]) ((List.replicate U.length (V.bl true)).map some) Y lw (by simp) hD (Cs rfl) (λi x o σ H' R R' hx ho hσ sm k1 k2=>?_) λH' sm hd=>?_)
   . show G9 hσ λ_ _ z1=>?_;subst z1;show Am (L2.Paired.at pr hx) λn en z1=>B7 z1 λp q z2 hp hq=>?_;subst z2;show Br p _ rfl (AC.of (sm _ _ hp)) rfl (Bg rfl (Bu rfl rfl (Ac rfl (Bc n rfl (a2 n (JJ en)) (Ac rfl (Cq (Ac rfl (Ct q [] rfl (sm _ _ hq) (by simp) (by simp) λH3 s3=>k1 _ _ _ (Ry ho) (Cs rfl) s3))))))))
   . rw[Cp]at hd;show Aw D (List.replicate U.length true) rfl (AK.of (by rw[hd,Fx])) (by rw[Et];show k H' (s1.trans sm))
def CF:AB ["name","block","label","params","rows","end","index","row"] ["name","block"] (Af De):=⟨rfl,rfl,rfl,by decide +kernel,rfl,by decide +kernel,by decide +kernel⟩
def Kw (F:AG K "look_at_block" "look_at_block" De f fd)(T:BK K mg t1 t2 t3 t4)(a1:AM P w K mg base 1 "want" J7 G6)(a8:AM P w K mg base 3 "are_params" B2 Jx)
   (a9:AM P w K mg base 4 "look_at_row" ["row","place"] Sw)(a7:AM P w K mg base 4 "is_end" D9 Pl):AD P w K mg base AU 5 f fd ["name","block"] Sx:=by
 show F.At CF (λvs H Q E h=>?_) (λcdv A outer s H vs Q E G h=>?_)
 . show Jp h λns v b x z1 _=>?_;subst z1;rfl
 . show K3 h λns v b nm z1 z2 rk hl hu z3=>?_;subst z1;obtain⟨a,x,rfl,ha,a5,Y,pr,he⟩:=z2;obtain⟨a2,k⟩:=z3;have nd:=CF.nd
   show Ac (Ae (L8 (qv 1) (Bk K (n:=4) rfl (Ao (Al (i:=2) nd rfl (Or.inl rfl)) (Ao (Al (i:=3) nd rfl (Or.inl rfl)) (Ao (Al (i:=4) nd rfl (Or.inl rfl)) (Ao (Al (i:=5) nd rfl (Or.inl rfl)) Bj))))))
     (Ae (A7 (Ax a1 (rm G) rfl (Aa (Ax a8 (rm G) rfl (Aa (qv 3) Ad)) (Aa Av (Aa (Bq (Aa (qv 0) (Aa (qv 2) (Aa (Gw Es Ah) Ad)))) Ad)))))
     (Ae (A7 (Ax a1 (rm G) rfl (Aa (Az (Kg K) rfl T.AI Cu (Aa (qv 4) (Aa (Dn (v:=.ty "tuple") rfl T.BC NV rfl) Ad))) (Aa Av (Aa (Bq (Aa (qv 0) (Aa (qv 2) (Aa (Gw Es Ah) Ad)))) Ad)))))
     (Ae (Bw JT rfl (Gv (b:=false) rfl T.AW (Aa (qv 4) Ad)) (Bk K (n:=2) rfl (Ao (Al (i:=6) nd rfl (Or.inl rfl)) (Ao (Al (i:=7) nd rfl (Or.inl rfl)) Bj))) (Ai (A7 (Ax a9 (rm G) rfl (Aa (qv 7) (Aa (Bq (Aa (qv 0) (Aa (qv 2) (Aa (qv 6) Ad)))) Ad))))))
     (Ai (A7 (Ax a1 (rm G) rfl (Aa (Ax a7 (rm G) rfl (Aa (qv 5) Ad)) (Aa Av (Aa (Bq (Aa (qv 0) (Aa (qv 2) (Aa (Az (Gq K) rfl T.AZ KQ (Aa (qv 4) Ad)) Ad)))) Ad)))))))))) ?_
   show Ac rfl (Br a _ rfl (AC.of ha) rfl (Bg rfl (Bg rfl (Bg rfl (Bu rfl rfl (norm (σ':=[some (.str nm),some (.ref a),some (.int b.lb),some (.ref x.pa),some (.ref x.ra),some x.ev,none,none]) rfl (Ac rfl (Ct x.pa [] rfl (.nil a5) (by simp) (by simp) λH1 s1=>(Ac rfl (Ac rfl (A8 rfl (zl 3) λp hp=>(Bg rfl ?_))))))))))));have s1:=s1.upd (o:=.tup [.str nm,.int b.lb,.int (-1)]) hp;generalize upd H1 p _=H2 at *;show Ac rfl (Jb rfl (.tup (s1 _ _ Y)) rfl (Ac rfl (Ac rfl (A8 rfl (zl 3) λp2 a4=>(Bg rfl ?_)))));have s1:=s1.upd (o:=.tup [.str nm,.int b.lb,.int (-1)]) a4;generalize upd H2 p2 _=H3 at *;show Ac rfl (Bc x.ra rfl ⟨_,AC.of (s1 _ _ Y)⟩ (Y5 (λσ=>∃o1 o2,σ=[some (.str nm),some (.ref a),some (.int b.lb),some (.ref x.pa),some (.ref x.ra),some x.ev,o1,o2]) (s1 _ _ Y) (Cs rfl) ?_ ?_))
   . rintro i y σ H' q hy ⟨o1,o2,rfl⟩ sm hq N hN;show Am (L2.Paired.at pr hy) λr er ir=>Br q _ rfl (AC.of hq) rfl (Bg rfl (Bu rfl rfl (Ac rfl (Ac rfl (Ac rfl (A8 rfl (zl 3) λp3 U=>(V9 ns y r _ rfl (ir.mono ((s1.trans sm).upd U).AH) (rk r (JJ er)) λH5 O=>hN _ _ (Cs rfl) ((sm.upd U).trans O))))))))
   . rintro σ H' ⟨o1,o2,rfl⟩ sm;show Ac rfl (Ct _ b.fin rfl (he.mono (s1.trans sm).AH) hu a2 λH5 O=>?_);have a6:=O _ _ (sm _ _ (s1 _ _ Y));show Ac rfl (Ac rfl (Ac rfl (Br x.ra _ rfl (.inr (AC.of a6)) (zl 3) λp3 U=>(Bg rfl (k _ (((s1.trans sm).trans O).upd U))))))
def BJ:AB ["functions","nowhere","names","again"] ["functions"] (Af Cg):=⟨rfl,rfl,rfl,by decide +kernel,rfl,by decide +kernel,by decide +kernel⟩
abbrev AO:List Str:=["function"]
def Jk (F:AG K "functions_wrong" "functions_wrong" Cg f fd)(T:BK K mg t1 t2 t3 t4)(aF:AM P w K mg base 1 "is_tuple_of" Jc Ir)(aD:AM P w K mg base 1 "first_again" ["things"] Ui):AD P w K mg base AU 2 f fd ["functions"] spFw:=by
 show F.At BJ (λvs H Q E h=>?_) (λcdv A outer s H vs Q E hr h=>?_)
 . show B5 h λv fs z1 _=>?_;subst z1;rfl
 . show Fs h λv fs z1 U hl EY aA k=>?_;subst z1;obtain⟨a,vs,rfl,ha,pr⟩:=U;have nd:=BJ.nd;have lv:=L2.Paired.len pr
   show Ac (Ae (A9 (i:=1) nd rfl (Or.inl rfl) (Bq (Aa Av (Aa (Gw Es Ah) (Aa (Gw Es Ah) Ad)))))
     (Ae (Bh (QW.pt (Uo (Gk (Dy (Az (Kg K) rfl T.AI Cu (Aa (qv 0) (Aa (Dn (v:=.ty "tuple") rfl T.BC NV rfl) Ad))))) (Pr (Gk (Dy (Az (Ng K rfl) rfl T.CY OJ (Aa (Ck (N':=AO) (n:=1) (AS.nil rfl (by decide) (by decide) (by decide) rfl) rfl (Be K (qv 0)) (λ_ _ _=>(A6 (Al (i:=0) (show List.Nodup (AO:List Str)from by decide +kernel) rfl (Or.inl rfl)) Bm (Ax aF (rm hr) rfl (Aa (qv 0) (Aa Ah Ad)))))) Ad))))))) (Ai Bd) A4)
     (Ae (Ix (i0:=2) nd rfl rfl rfl (N':=AO) (n:=1) (AS.nil rfl (by decide) (by decide) (by decide) rfl) rfl (Be K (qv 0)) (λ_ _ _=>(A6 (Al (i:=0) (show List.Nodup (AO:List Str)from by decide +kernel) rfl (Or.inl rfl)) Bm (Ap (AT K) (qv 0) Ah (λ_ _=>rfl)))))
     (Ae (Bh (Gk (Dy (Az (Ng K rfl) rfl T.CY OJ (Aa (Ck (N':=["name"]) (n:=1) (AS.nil rfl (by decide) (by decide) (by decide) rfl) rfl (Cc K (qv 2)) (λ_ _ _=>(A6 (Al (i:=0) (show List.Nodup (["name"]:List Str)from by decide +kernel) rfl (Or.inl rfl)) Bm (Az (Kg K) rfl T.AI Cu (Aa (qv 0) (Aa (Dn (v:=.ty "str") rfl T.HP boot_str rfl) Ad)))))) Ad)))) (Ai (A0 (Bq (Aa Av (Aa (qv 1) Ad))))) A4)
     (Ae (A9 (i:=3) nd rfl (Or.inl rfl) (Ax aD (rm hr) rfl (Aa (qv 2) Ad)))
     (Ae (Bh (A2 Px (qv 3) C6 (A1 _)) (Ai Bd) A4)
     (Ai (A0 (Gm (A2 (inK K) Av (qv 2) (by with_unfolding_all rfl)) C6 (Bq (Aa Av (Aa (qv 1) Ad)))))))))))) ?_
   show Ac rfl (A8 rfl (zl 3) λnw aB=>?_);have s0:=(AA.refl H).upd (o:=.tup [.str "",.int (-1),.int (-1)]) aB;generalize upd H nw (.tup [.str "",.int (-1),.int (-1)])=H0 at *;have a1:=s0 _ _ ha;show Ac rfl (Jb rfl (.tup a1) rfl (Ac rfl (Ac rfl (Bc a rfl ⟨_,AC.of a1⟩ λD hD=>Kk (λσ=>∃o,σ=[o]) ((List.replicate vs.length (V.bl true)).map some) a1 (by omega) (by simp) hD ⟨_,rfl⟩ (λi x o σ H' R R' G ho O sm k1 k2=>?_) λH1 s1 hd=>?_))))
   . obtain⟨_,rfl⟩:=O;show Am (L2.Paired.at pr G) λfn _ z1=>B7 z1 λY y U a2 _=>?_;subst U;show Ac rfl (Cr Y _ 4 rfl (sm _ _ (s0 _ _ a2)) rfl (k1 _ _ _ (Ry ho) ⟨_,rfl⟩ (AA.refl _)))
   rw[Cp]at hd;show Aw D (List.replicate vs.length true) rfl (AK.of (by rw[hd,Fx])) (Ac rfl ?_);rw[Et];have a4:=s0.trans s1;have a5:=a4 _ _ ha;show Ac rfl (Bc a rfl ⟨_,AC.of a5⟩ λD hD=>Kk (λσ=>∃o,σ=[o]) (((fs.map (·.nm)).map V.str).map some) a5 (by omega) (by simp[lv]) hD ⟨_,rfl⟩ (λi x o σ H' R R' G ho O sm k1 k2=>?_) λH2 s2 hd=>?_)
   . obtain⟨_,rfl⟩:=O;show Am (L2.Paired.at pr G) λfn a8 z1=>B7 z1 λY y U a2 _=>?_;subst U;rw[Wb (x:=fn.nm) (by rw[KP,a8];rfl)]at ho;show Ac rfl (Bb Y _ 0 _ rfl rfl (AC.of (sm _ _ (a4 _ _ a2))) rfl (k1 _ _ _ (KC ho).symm ⟨_,rfl⟩ (AA.refl _)))
   rw[Cp]at hd;show Ac rfl (Bc D rfl ⟨_,AK.of hd⟩ λD2 a9=>?_);show R9 (λσ=>∃o,σ=[o]) ((List.replicate ((fs.map (·.nm)).map V.str).length (V.bl true)).map some) hd (by simp;omega) (by simp) a9 ⟨_,rfl⟩ (λi x o σ H' R R' G ho O sm k1 k2=>?_) λH3 s3 a7=>?_
   . obtain⟨_,rfl⟩:=O;show Am (LC.mp (JJ G)) λz _ z1=>?_;subst z1;show Ac rfl (Jb rfl (.str _) rfl (k1 _ _ _ (Ry ho) ⟨_,rfl⟩ (AA.refl _)))
   rw[Cp]at a7;show Aw D2 (List.replicate ((fs.map (·.nm)).map V.str).length true) rfl (AK.of (by rw[a7,Fx])) (Ac rfl ?_);rw[Et];have a6:=s3 _ _ hd;have aC:=(a4.trans s2).trans s3;have ek:(fs.map (·.nm)).map V.str=((fs.map (·.nm)).map (λx=>(Sum.inr x:Key))).map kV:=by simp only[List.map_map];rfl
   show Ac rfl (Ct D ((fs.map (·.nm)).map (λx=>(Sum.inr x:Key))) rfl (by rw[← ek];show a6) (by simp;omega) (Tw EY) λH4 s4=>A8 rfl rfl (Ac rfl (Fd (Ac rfl (Ct D _ rfl (.inl (AK.of (s4 _ _ a6))) rfl (We _) (Ac rfl ?_))))))
   show if IT (V.str "main") ((fs.map (·.nm)).map V.str)=true then _ else _
   rw[KE ((Rw _ _).mpr aA)];show k H4 (aC.trans s4)
end
end P2
namespace P2
open PySem PySem.Spec PyProof.Rows L2
def Kp (m:Addr)(H H':Hp):Prop:=∀b o,H b=some o->b≠m->H' b=some o
def Kp.refl:Kp m H H:=λ_ _ h _=>h
def Kp.trans (a:Kp m H H1)(b:Kp m H1 H2):Kp m H H2:=λc o h n=>b c o (a c o h n) n
def Kp.same (a:Kp m H H1)(b:AA H1 H2):Kp m H H2:=λc o h n=>b c o (a c o h n)
def Kp.wr (a:Kp m H H1):Kp m H (upd H1 m o):=λc u h n=>by rw[Ak n];show a c u h n
def Kp.of (a:Kp m H H1)(s:AA H0 H)(h:H0 m=none):AA H0 H1:=λc u e=>a c u (s c u e) (Aj e h)
def Kp.tup (a:Kp m H H1)(h:H m=some (.dK kvs)):CI H H1:=λb xs e=>a b _ e (Bl e h (by simp))
noncomputable def mI (G:List Int):HO:=.dK (Ij (G.map λx=>(Sum.inl x:Key)))
def Ts (h:x∉G):HO.dK (Ci (Ij (G.map λx=>(Sum.inl x:Key))) (Sum.inl x) (V.bl true))=mI (G++[x]):=by
 rw[Ma _ _ (λz=>by show Am (LC.mp z) λy O e=>?_;show h (MI e▸O))];unfold mI;rw[MA];rfl
def U2 {G:List Int}(h:x∉G):(Bt (Ij (G.map λx=>(Sum.inl x:Key))) (Sum.inl x)).isSome=false:=Ub λz=>by show Am (LC.mp z) λy O e=>?_;show h (MI e▸O)
def Tt {G:List Int}(h:G.length<=300):(Ij (G.map λx=>(Sum.inl x:Key))).length<sizeLine:=by unfold Ij;rw[JR,JR];show Iv (by omega)
def Sz:Sp:=λvs H Q _=>∃(m l U:Addr) (G ns:List Int) (O:List V),vs=[.ref m,.ref l,.ref U]/\H m=some (mI G)/\H l=some (.lst (ns.map V.int))/\H U=some (.tup O)/\O≠[]/\O.length<=10/\(G++ns).Nodup/\(G++ns).length<=200 /\
 ∀H',Kp m H H'->H' m=some (mI (G++ns))->Q .AQ H'
def Dk:Sp:=λvs H Q _=>∃ns v f,vs=[v]/\EW H v f/\CH ns f/\∀H',AA H H'->Q .AQ H'
def K0 {α:Type}{A B:List α}{x:α}(h:(A++x::B).Nodup):x∉A:=λz=>by
 rw[MY]at h;show h.2.2 x z x (by simp) rfl
def Lv {bl:List MB}{i:Nat}{b:MB}(h:bl[i]?=some b):(bl.map B6).flatten=((bl.take i).map B6).flatten++(B6 b++((bl.drop (i+1)).map B6).flatten):=by
 have e:bl=bl.take i++b::bl.drop (i+1):=by
  obtain⟨hi,G⟩:=List.getElem?_eq_some_iff.mp h;rw[← G,← NF hi,List.take_append_drop]
 conv=>lhs;rw[e]
 simp
def L0 {α:Type}{l:List α}{j:Nat}{x:α}(h:l[j]?=some x):l=l.take j++x::l.drop (j+1):=by
 obtain⟨hi,G⟩:=List.getElem?_eq_some_iff.mp h;rw[← G,← NF hi,List.take_append_drop]
section
variable {P:Program}{w:World}{K:A3}{mg:Bv}{base:Heap}{t1 t2 t3 t4:Tok}{aT aE:Addr}{kT:List (Str×V)}
abbrev Ol:List Str:=["met","names","where"]
def DO:AB ["met","names","where","name"] Ol (Af Ei):=⟨rfl,rfl,rfl,by decide +kernel,rfl,by decide +kernel,by decide +kernel⟩
def Nr (F:AG K "give_names" "give_names" Ei f fd)(a8:AM P w K mg base 1 "want" J7 G6):AD P w K mg base AU 2 f fd Ol Sz:=by
 show F.At DO (λvs H Q E h=>?_) (λcdv A outer s H vs Q E hr h=>?_)
 .show dd61 h λm l U O ns Y z1 _=>?_;subst z1;rfl
 .show dd65 h λm l U O ns Y z1 hm hl hw a6 z2=>N0 z2 λwl EY a7 k=>?_;subst z1;have nd:=DO.nd;rw[JV]at a7;have nl:l≠m:=Bl hl hm (by unfold mI;simp);have nw:U≠m:=Bl hw hm (by unfold mI;simp)
  show Ac (Ai (Bw JT rfl (Cc K (qv 1)) (Al (i:=3) nd rfl (Or.inl rfl)) (Ae (A7 (Ax a8 (rm hr) rfl (Aa (Oc (B4 hr) (qv 3) (qv 0)) (Aa Av (Aa (B1 Pz (qv 2) (Bq (Aa (Gw Es Ah) Ad))) Ad)))))
   (Ai (Ft (B4 hr) (qv 0) (qv 3) Hd rfl))))) ?_
  show Ac rfl (Bc l rfl ⟨_,AK.of hl⟩ (Io (xs:=ns.map V.int) (λi σ H'=>(∃o,σ=[some (.ref m),some (.ref l),some (.ref U),o])/\Kp m H H'/\H' m=some (mI (O++ns.take i))) (A6 ⟨_,rfl⟩ Kp.refl (by simpa using hm)) (λi σ H' hi ⟨_,kp,_⟩=>AK.of (kp _ _ hl nl)) ?_ ?_))
  .rintro i v σ H' hv ⟨⟨o,rfl⟩,kp,G⟩;obtain⟨x,hx,rfl⟩:∃x,ns[i]?=some x/\V.int x=v:=by simpa using hv
   have a2:x∉O++ns.take i:=by
    show K0 (B:=ns.drop (i+1)) ?_;rw[No,← L0 hx];show EY
   show Ac rfl (Ac rfl (Aw m _ rfl (AX.k (k:=Sum.inl x) G) (Ac rfl (A8 rfl (zl 1) λp hp=>?_))));have a1:upd H' p (.tup [.int (-1)]) m=some (mI (O++ns.take i)):=by rw[Ak (Aj G hp)];show G
   have a4:Kp m H (upd H' p (.tup [.int (-1)])):=kp.same ((AA.refl H').upd hp);have g2:upd H' p (.tup [.int (-1)]) p=some (.tup [.int (-1)]):=Ag;generalize upd H' p (.tup [.int (-1)])=H2 at *;show B0 U p Y _ rfl rfl (AC.of (a4 _ _ hw nw)) (AC.of g2) a6 (A6 ?_ (λz=>by cases z) λ_ q hq=>?_)
   .show JU (show Y.length+1<=11 by omega) (by decide)
   show Bg (wq ?_) ?_
   .rw [U2 a2];rfl
   have a5:upd H2 q (.tup (Y++[.int (-1)])) m=some (mI (O++ns.take i)):=by rw[Ak (Aj a1 hq)];show a1
   show Ac rfl (Ac rfl (Ct m _ rfl (FH.k (k:=Sum.inl x) a5 (Tt (by rw[JV,NC];omega))) ⟨_,rfl⟩ ?_ ?_))
   .show (a4.same ((AA.refl H2).upd hq)).wr
   .rw [Ag,Ts a2,Bx hx,No]
  .rintro σ H' ⟨_,kp,G⟩;rw[JR,LG]at G;show k H' kp G
def CB:AB ["function","met","label","params","rows","end","index","name"] AO (Af Dc):=⟨rfl,rfl,rfl,by decide +kernel,rfl,by decide +kernel,by decide +kernel⟩
def Ku (F:AG K "look_at_names" "look_at_names" Dc f fd)(T:BK K mg t1 t2 t3 t4)(aK:AM P w K mg base 1 "want" J7 G6)(aA:AM P w K mg base 2 "give_names" Ol Sz)(aB:AM P w K mg base 1 "param_names" ["params"] Vp)(aL:AM P w K mg base 1 "row_names" ["rows"] Zq):AD P w K mg base AU 3 f fd AO Dk:=by
 show F.At CB (λvs H Q E h=>?_) (λcdv A outer s H vs Q E G h=>?_)
 . show Da h λns v fn z1 _=>?_;subst z1;rfl
 . show Jq h λns v fn z1 z2 fk k=>?_;subst z1;obtain⟨a,x,rfl,ha,aF,aG,a2,pr⟩:=z2;have nd:=CB.nd
   show Ac (Ae (A9 (i:=1) nd rfl (Or.inl rfl) Ie)
     (Ae (A7 (Ax aA (rm G) rfl (Aa (qv 1) (Aa (Ax aB (rm G) rfl (Aa (Ap (AT K) (qv 0) Ah (λ_ _=>rfl)) Ad)) (Aa (Bq (Aa (Ap (AT K) (qv 0) Ah (λ_ _=>rfl)) (Aa (Gw Es Ah) Ad))) Ad)))))
     (Ae (Bw JT rfl (Be K (Ap (AT K) (qv 0) Ah (λ_ _=>rfl))) (Bk K (n:=4) rfl (Ao (Al (i:=2) nd rfl (Or.inl rfl)) (Ao (Al (i:=3) nd rfl (Or.inl rfl)) (Ao (Al (i:=4) nd rfl (Or.inl rfl)) (Ao (Al (i:=5) nd rfl (Or.inl rfl)) Bj))))) (Ai (A7 (Ax aA (rm G) rfl (Aa (qv 1) (Aa (Ax aB (rm G) rfl (Aa (qv 3) Ad)) (Aa (Bq (Aa (Ap (AT K) (qv 0) Ah (λ_ _=>rfl)) (Aa (qv 2) Ad))) Ad)))))))
     (Ai (Bw JT rfl (Be K (Ap (AT K) (qv 0) Ah (λ_ _=>rfl))) (Bk K (n:=4) rfl (Ao (Al (i:=2) nd rfl (Or.inl rfl)) (Ao (Al (i:=3) nd rfl (Or.inl rfl)) (Ao (Al (i:=4) nd rfl (Or.inl rfl)) (Ao (Al (i:=5) nd rfl (Or.inl rfl)) Bj))))) (Ai (Bw JT rfl (Gv (b:=true) rfl T.AW (Aa (Ax aL (rm G) rfl (Aa (qv 4) Ad)) Ad)) (Bk K (n:=2) rfl (Ao (Al (i:=6) nd rfl (Or.inl rfl)) (Ao (Al (i:=7) nd rfl (Or.inl rfl)) Bj))) (Ae (A7 (Ax aK (rm G) rfl (Aa (Oc (B4 G) (qv 7) (qv 1)) (Aa Av (Aa (Bq (Aa (Ap (AT K) (qv 0) Ah (λ_ _=>rfl)) (Aa (qv 2) (Aa (qv 6) Ad)))) Ad)))))
     (Ai (Ft (B4 G) (qv 1) (qv 7) Hd rfl)))))))))) ?_
   show λd hd=>?_;have s0:=(AA.refl H).upd (o:=.dK []) hd;have g0:upd H d (.dK []) d=some (mI []):=Ag;generalize upd H d (.dK [])=H0 at *;show Ac rfl (Ac rfl (Bb a _ 1 _ rfl rfl (AC.of (s0 _ _ ha)) rfl (Br x.pa [fn.p] rfl (.one (s0 _ _ aF) (s0 _ _ aG)) (by simp) λl H1 hl s1 O=>?_)));have s1:=s0.trans s1;show Ac rfl (Bb a _ 0 _ rfl rfl (AC.of (s1 _ _ ha)) rfl (A8 rfl (zl 2) λq hq=>?_));have s2:=(AA.refl H1).upd (o:=.tup [.str fn.nm,.int (-1)]) hq;show Yz d l q [] [fn.p] _ rfl (s2 _ _ (‹AA H0 H1› _ _ g0)) (s2 _ _ O) Ag (by simp) (C9 (by simp) (by simp) (by simp) λH2 kp aC=>?_);have sm:AA H H2:=kp.of (s1.trans s2) hd;show Ac rfl (Bb a _ 3 _ rfl rfl (AC.of (sm _ _ ha)) rfl (Bc x.ba rfl ⟨_,AC.of (sm _ _ a2)⟩ (Hu (xs:=x.bs) (λi σ H'=>(∃o1 o2 o3 o4,σ=[some (.ref a),some (.ref d),o1,o2,o3,o4,none,none])/\AA H H'/\H' d=some (mI [fn.p])) (A6 (Ac8 rfl) sm aC) (λi σ H' hi ⟨_,sm,_⟩=>AC.of (sm _ _ a2)) ?_ ?_)))
   . rintro i u σ H' hu ⟨⟨o1,o2,o3,o4,rfl⟩,sm,a1⟩;show Am (L2.Paired.at pr hu) λb eb z1=>Fw z1 λba y z2 hb a5 _=>?_;subst z2;show Br ba _ rfl (AC.of (sm _ _ hb)) rfl (Bg rfl (Bg rfl (Bg rfl (Bu rfl rfl (norm (σ':=[some (.ref a),some (.ref d),some (.int b.lb),some (.ref y.pa),some (.ref y.ra),some y.ev,none,none]) rfl (Ac rfl (Ac rfl (Br y.pa [] rfl (.nil (sm _ _ a5)) (by simp) λl H3 hl s3 O=>Ac rfl (Bb a _ 0 _ rfl rfl (AC.of (s3 _ _ (sm _ _ ha))) rfl (A8 rfl (zl 2) λq hq=>?_))))))))));have s4:=(AA.refl H3).upd (o:=.tup [.str fn.nm,.int b.lb]) hq;show Yz d l q [fn.p] [] _ rfl (s4 _ _ (s3 _ _ a1)) (s4 _ _ O) Ag (by simp) (C9 (by simp) (by simp) (by simp) λH4 kp aD=>A6 (Ac8 rfl) (kp.of ((sm.trans s3).trans s4) hd) aD)
   . rintro σ H' ⟨⟨o1,o2,o3,o4,rfl⟩,sm,a1⟩;show Ac rfl (Bb a _ 3 _ rfl rfl (AC.of (sm _ _ ha)) rfl (Bc x.ba rfl ⟨_,AC.of (sm _ _ a2)⟩ (Hu (xs:=x.bs) (λi σ H'=>(∃o1 o2 o3 o4 U Y,σ=[some (.ref a),some (.ref d),o1,o2,o3,o4,U,Y])/\AA H H'/\H' d=some (mI (fn.p::((fn.bl.take i).map B6).flatten))) (A6 (En rfl) sm a1) (λi σ H' hi ⟨_,sm,_⟩=>AC.of (sm _ _ a2)) ?_ (λσ H' ⟨_,sm,_⟩=>k H' sm))));rintro i u σ H' hu ⟨⟨o1,o2,o3,o4,U,Y,rfl⟩,sm,a1⟩;show Am (L2.Paired.at pr hu) λb eb z1=>Fs z1 λba y z2 hb a5 aH aI _=>?_;subst z2;have bk:=fk.IU b (JJ eb);show Br ba _ rfl (AC.of (sm _ _ hb)) rfl (Bg rfl (Bg rfl (Bg rfl (Bu rfl rfl (norm (σ':=[some (.ref a),some (.ref d),some (.int b.lb),some (.ref y.pa),some (.ref y.ra),some y.ev,U,Y]) rfl (Ac rfl (Ny y.ra y.rs b.rows rfl (sm _ _ aH) (L2.Paired.CT aI (λ_ _ q=>q.mono sm.AH)) bk.len λl H3 hl s3 O=>?_)))))));have a9:=sm.trans s3;have a6:=s3 _ _ a1;have nl:l≠d:=Bl O a6 (by unfold mI;simp);have whole:=fk.nms;rw[Lv eb]at whole;show Bc l rfl ⟨_,AK.of O⟩ (Kh (b:=true) (xs:=(B6 b).map V.int) (λj σ H'=>(∃U Y,σ=[some (.ref a),some (.ref d),some (.int b.lb),some (.ref y.pa),some (.ref y.ra),some y.ev,U,Y])/\Kp d H3 H'/\H' d=some (mI (fn.p::((fn.bl.take i).map B6).flatten++(B6 b).take j))) (A6 (Cs rfl) Kp.refl (by simpa using a6)) (λj σ H' hi ⟨_,kp,_⟩=>AK.of (kp _ _ O nl)) ?_ ?_)
     . rintro j v σ H5 p hv ⟨⟨U,Y,rfl⟩,kp,a4⟩ hp;obtain⟨z,hz,rfl⟩:∃z,(B6 b)[j]?=some z/\V.int z=v:=by simpa using hv
       have zn:z∉fn.p::((fn.bl.take i).map B6).flatten++(B6 b).take j:=by
         show K0 (B:=(B6 b).drop (j+1)++((fn.bl.drop (i+1)).map B6).flatten) ?_;rw[show(fn.p::((fn.bl.take i).map B6).flatten++(B6 b).take j++z::((B6 b).drop (j+1)++((fn.bl.drop (i+1)).map B6).flatten))=fn.p::(((fn.bl.take i).map B6).flatten++((B6 b).take j++z::(B6 b).drop (j+1)++((fn.bl.drop (i+1)).map B6).flatten))by simp,← L0 hz];show whole
       have aJ:(fn.p::((fn.bl.take i).map B6).flatten++(B6 b).take j).length<=300:=by
         have c:=fk.cnt;rw[Lv eb,JV,JV]at c;rw[JV,KN,NC];omega
       have s6:=(AA.refl H5).upd (o:=.tup [.int j,.int z]) hp;have g6:upd H5 p (.tup [.int j,.int z]) p=some (.tup [.int j,.int z]):=Ag;generalize upd H5 p (.tup [.int j,.int z])=H6 at *;have a7:=s6 _ _ a4;have a8:=kp.same s6;have na:a≠d:=Aj ha hd;show Br p _ rfl (AC.of g6) rfl (Bg rfl (Bu rfl rfl (norm (σ':=[some (.ref a),some (.ref d),some (.int b.lb),some (.ref y.pa),some (.ref y.ra),some y.ev,some (.int j),some (.int z)]) rfl (Ac rfl (Ac rfl (Aw d _ rfl (AX.k (k:=Sum.inl z) a7) (Ac rfl (Bb a _ 0 _ rfl rfl (AC.of (a8 _ _ (a9 _ _ ha) na)) rfl (Ac rfl (A8 rfl (zl 3) λq hq=>Bg (wq ?_) ?_))))))))))
       . rw[U2 zn];rfl
       have s7:=(AA.refl H6).upd (o:=.tup [.str fn.nm,.int b.lb,.int j]) hq;show Ac rfl (Ac rfl (Ct d _ rfl (FH.k (k:=Sum.inl z) (s7 _ _ a7) (Tt aJ)) (Cs rfl) ((a8.same s7).wr) ?_));rw[Ag,Ts zn,Bx hz,← No]
     . rintro σ H5 ⟨⟨U,Y,rfl⟩,kp,a4⟩;show A6 (En rfl) (kp.of a9 hd) ?_;rw[JR,LG]at a4;rw[a4,Bx eb]
       congr 1
       simp
end
end P2
namespace P2
open PySem PySem.Spec PyProof.Rows L2
def Sq:Sp:=λvs H Q _=>∃ns v f cd G,vs=[v,.ref cd]/\EW H v f/\CH ns f/\H cd=some (.dK G)/\(∀g∈ns,Bt G (Sum.inr g)=some (.int 1))/\∀H',AA H H'->Q .AQ H'
def Iu:Sp:=λvs H Q _=>∃v p,vs=[v]/\IsP H v p/\p.length<=10/\(p.map (·.nm)).Nodup/\("main":Str)∈p.map (·.nm)/\(∀f∈p,CH (p.map (·.nm)) f)/\∀H',AA H H'->Q .AQ H'
def DX.of_call (rk:DX ns r)(hc:r.op="call"):∃g,g∈ns/\r.told=.str g/\r.args.length=1:=by
 cases rk with
 | call n z g _ _ G=>show Bc g G rfl rfl
 | num=>show absurd hc (by show ¬("num":Str)="call";decide +kernel)
 | eq=>show absurd hc (by show ¬("=":Str)="call";decide +kernel)
 | sub=>show absurd hc (by show ¬("-":Str)="call";decide +kernel)
 | out=>show absurd hc (by show ¬("out":Str)="call";decide +kernel)
def W8 (nd:(Ew f).Nodup)(G:f.bl[i]?=some b)(hc:c∈f.bl.take i):¬c.lb=b.lb:=λz=>by
 have e:(f.bl.take (i+1))=f.bl.take i++[b]:=Bx G;have n2:((f.bl.take (i+1)).map (·.lb)).Nodup:=List.Nodup.sublist (List.Sublist.map _ (List.take_sublist _ _)) nd;rw[e,MA,MY]at n2;show n2.2.2 c.lb (LO hc) b.lb (by simp) z
section
variable {P:Program}{w:World}{K:A3}{mg:Bv}{base:Heap}{t1 t2 t3 t4:Tok}{aT aE:Addr}{kT:List (Str×V)}
abbrev Og:List Str:=["function","counts"]
def CM:AB ["function","counts","first","taken","label","params","rows","end","index","name","op","told","args","place","led"] Og (Af Dq):=⟨rfl,rfl,rfl,by decide +kernel,rfl,by decide +kernel,by decide +kernel⟩
abbrev BE:List Str:=["block"]
def Lc (F:AG K "look_at_uses" "look_at_uses" Dq f fd)(T:BK K mg t1 t2 t3 t4)(aB:AM P w K mg base 1 "want" J7 G6)(aY:AM P w K mg base 1 "ways_of" D9 Ib):AD P w K mg base AU 2 f fd Og Sq:=by
 show F.At CM (λvs H Q E h=>?_) (λcdv A outer s H vs Q E hr h=>?_)
 . show M9 h λns v fn cd aK z1 _=>?_;subst z1;rfl
 . show Nz h λns v fn cd aK z1 z2 fk aH aN k=>?_;subst z1;obtain⟨a,x,rfl,ha,aa,ac,a7,pr⟩:=z2;have nd:=CM.nd;have lb:=L2.Paired.len pr;have aZ:=fk.le
   show Ac (Ae (A9 (i:=2) nd rfl (Or.inl rfl) (Ap (AT K) (Ap (AT K) (Ap (AT K) (qv 0) Ah (λ_ _=>rfl)) Ah (λ_ _=>rfl)) Ah (λ_ _=>rfl)))
     (Ae (J0 (i0:=3) nd rfl rfl rfl (N':=BE) (n:=1) (AS.nil rfl (by decide) (by decide) (by decide) rfl) rfl (Be K (Ap (AT K) (qv 0) Ah (λ_ _=>rfl))) (λ_ _ _=>(C9 (Al (i:=0) (show List.Nodup (BE:List Str)from by decide +kernel) rfl (Or.inl rfl)) Bm (Ap (AT K) (qv 0) Ah (λ_ _=>rfl)) (Az (Gq K) rfl T.AZ KQ (Aa (Ap (AT K) (qv 0) Ah (λ_ _=>rfl)) Ad)))))
     (Ai (Bw JT rfl (Be K (Ap (AT K) (qv 0) Ah (λ_ _=>rfl))) (Bk K (n:=4) rfl (Ao (Al (i:=4) nd rfl (Or.inl rfl)) (Ao (Al (i:=5) nd rfl (Or.inl rfl)) (Ao (Al (i:=6) nd rfl (Or.inl rfl)) (Ao (Al (i:=7) nd rfl (Or.inl rfl)) Bj))))) (Ae (Bw JT rfl (Gv (b:=false) rfl T.AW (Aa (qv 6) Ad)) (Bk K (n:=2) rfl (Ao (Al (i:=8) nd rfl (Or.inl rfl)) (Ao (Bk K (n:=4) rfl (Ao (Al (i:=9) nd rfl (Or.inl rfl)) (Ao (Al (i:=10) nd rfl (Or.inl rfl)) (Ao (Al (i:=11) nd rfl (Or.inl rfl)) (Ao (Al (i:=12) nd rfl (Or.inl rfl)) Bj))))) Bj))) (Ai (Bh (A2 Bs (qv 10) Av (A1 _)) (Ae (A9 (i:=13) nd rfl (Or.inl rfl) (Bq (Aa (Ap (AT K) (qv 0) Ah (λ_ _=>rfl)) (Aa (qv 4) (Aa (qv 8) Ad)))))
     (Ae (A7 (Ax aB (rm hr) rfl (Aa (Pt (B4 hr) (qv 11) (qv 1)) (Aa Av (Aa (qv 13) Ad)))))
     (Ai (A7 (Ax aB (rm hr) rfl (Aa (Cb Bs (Cj (B4 hr) (qv 1) (qv 11) (λ_ _=>rfl)) (Az (Gq K) rfl T.AZ KQ (Aa (qv 12) Ad)) (A1 _)) (Aa Av (Aa (qv 13) Ad)))))))) A4)))
     (Ae (A9 (i:=13) nd rfl (Or.inl rfl) (Bq (Aa (Ap (AT K) (qv 0) Ah (λ_ _=>rfl)) (Aa (qv 4) (Aa (Az (Gq K) rfl T.AZ KQ (Aa (qv 6) Ad)) Ad)))))
     (Ai (Bw JT rfl (Cc K (Ax aY (rm hr) rfl (Aa (qv 7) Ad))) (Bk K (n:=2) rfl (Ao (Al (i:=14) nd rfl (Or.inl rfl)) (Ao (Al (i:=12) nd rfl (Or.inl rfl)) Bj))) (Ae (A7 (Ax aB (rm hr) rfl (Aa (D8 (Pt (B4 hr) (qv 14) (qv 3)) (Dm (Cb Uy (qv 14) (qv 2) (A1 _)))) (Aa Av (Aa (qv 13) Ad)))))
     (Ai (A7 (Ax aB (rm hr) rfl (Aa (Cb Bs (Cj (B4 hr) (qv 3) (qv 14) (λ_ _=>rfl)) (Az (Gq K) rfl T.AZ KQ (Aa (qv 12) Ad)) (A1 _)) (Aa Av (Aa (qv 13) Ad))))))))))))))) ?_
   obtain⟨b0,bt,a6⟩:∃b0 bt,fn.bl=b0::bt:=by cases h:fn.bl with
     | nil=>show absurd h fk.ne
     | cons b0 bt=>show Jm b0 bt rfl
   obtain⟨u0,ut,aD⟩:∃u0 ut,x.bs=u0::ut:=by cases h:x.bs with
     | nil=>rw[h,a6]at lb;simp at lb
     | cons u0 ut=>show Jm u0 ut rfl
   have p0:FQ H u0 b0:=by
     have:=pr;rw[aD,a6]at this;cases this;assumption
   show B7 p0 λaJ y0 z1 aM _=>?_;subst z1;have aI:=a7;rw[aD]at aI;show Ac rfl (Bb a _ 3 _ rfl rfl (AC.of ha) rfl (Bb x.ba _ 0 _ rfl rfl (AC.of aI) (Gz (j:=0) rfl) (Bb aJ _ 0 _ rfl rfl (AC.of aM) rfl (Ac rfl (Bb a _ 3 _ rfl rfl (AC.of ha) rfl (Bc x.ba rfl ⟨_,AC.of a7⟩ λD hD=>?_))))));show Ga (xs:=x.bs) (λi ys σ H'=>(∃o1,σ=[o1])/\AA H H'/\H' D=some (.dK ys)/\ys.length<=i/\∀c∈fn.bl.take i,Bt ys (Sum.inl c.lb)=some (.int 0)) (JU (show x.bs.length<=10 by omega) (by decide)) (Fq ⟨_,rfl⟩ ((AA.refl H).upd hD) Ag (JN _) (by simp))
     (λi ys σ H' hi ⟨_,sm,hd,e,_⟩=>(A6 (AC.of (sm _ _ a7)) hd e)) ?_ ?_
   . rintro i u ys σ H' hu ⟨⟨o1,rfl⟩,sm,hd,le,hm⟩;show Am (L2.Paired.at pr hu) λb eb z1=>Fw z1 λba y z2 hb aG _=>?_;subst z2;show Ac rfl (Bb ba _ 0 _ rfl rfl (AC.of (sm _ _ hb)) rfl (Ac rfl (Bb ba _ 1 _ rfl rfl (AC.of (sm _ _ hb)) rfl (Aw y.pa [] rfl (.inr (AC.of (sm _ _ aG))) (Jn (Sum.inl b.lb) rfl hd ⟨_,rfl⟩ (Ko sm hD) Ag ⟨?_,λc hc=>?_⟩)))))
     . have:=Bo ys (Sum.inl b.lb) (V.int ([]:List V).length);omega
     . rw[Cd];by_cases e:c.lb=b.lb
       . rw[KE (LR _ e)];rfl
       . rw[JW λz=>e (MI z)];rw[Bx eb,KU]at hc;show hm c (hc.resolve_right λz=>e (by rw[JY.mp z]))
   rintro aX σ H1 ⟨_,s1,aL,_,tm⟩;rw[lb,LG]at tm;show norm (σ':=[some (.ref a),some (.ref cd),some (.int b0.lb),some (.ref D),none,none,none,none,none,none,none,none,none,none,none]) rfl (Ac rfl (Bb a _ 3 _ rfl rfl (AC.of (s1 _ _ ha)) rfl (Bc x.ba rfl ⟨_,AC.of (s1 _ _ a7)⟩ (Lj (λσ=>∃o4 o5 o6 o7 G O U Y a1 a2 a4,σ=[some (.ref a),some (.ref cd),some (.int b0.lb),some (.ref D),o4,o5,o6,o7,G,O,U,Y,a1,a2,a4]) (s1 _ _ a7) (En (jj50 rfl)) ?_ (λσ H' _ sm=>k H' (s1.trans sm))))));rintro i u σ H2 hu ⟨o4,o5,o6,o7,G,O,U,Y,a1,a2,a4,rfl⟩ s2 N hN;have a8:=s1.trans s2;show Am (L2.Paired.at pr hu) λb eb z1=>Fs z1 λba y z2 hb aG aC aS he=>?_;subst z2;have bk:=fk.IU b (JJ eb);show Br ba _ rfl (AC.of (a8 _ _ hb)) rfl (Bg rfl (Bg rfl (Bg rfl (Bu rfl rfl (norm (σ':=[some (.ref a),some (.ref cd),some (.int b0.lb),some (.ref D),some (.int b.lb),some (.ref y.pa),some (.ref y.ra),some y.ev,G,O,U,Y,a1,a2,a4]) rfl (Ac rfl (Bc y.ra rfl ⟨_,AC.of (a8 _ _ aC)⟩ (Y5 (λσ=>∃G O U Y a1 a2,σ=[some (.ref a),some (.ref cd),some (.int b0.lb),some (.ref D),some (.int b.lb),some (.ref y.pa),some (.ref y.ra),some y.ev,G,O,U,Y,a1,a2,a4]) (a8 _ _ aC) (En rfl) ?_ ?_))))))))
   . rintro j u σ H3 q aQ ⟨G,O,U,Y,a1,a2,rfl⟩ s3 hq N' a9;have a5:=a8.trans s3;show Am (L2.Paired.at aS aQ) λr er z1=>B7 z1 λra rb z2 aO aP=>?_;subst z2;have rk:=bk.rows r (JJ er);show Br q _ rfl (AC.of hq) rfl (Bg rfl (Bg rfl (Br ra _ rfl (AC.of (a5 _ _ aO)) rfl (Bg rfl (Bg rfl (Bg rfl (Ex rfl rfl rfl (norm (σ':=[some (.ref a),some (.ref cd),some (.int b0.lb),some (.ref D),some (.int b.lb),some (.ref y.pa),some (.ref y.ra),some y.ev,some (.int j),some (.int r.nm),some (.str r.op),some r.told,some (.ref rb),a2,a4]) rfl (A8 rfl rfl (Ac rfl ?_))))))))));rw[T4];by_cases hc:r.op="call"
     . show Bp (show ∃g,g∈ns/\r.told=.str g/\r.args.length=1 from rk.of_call hc) λg hg et el=>?_;rw[KH hc,et];have cv:=aN g hg;show Cq (Ac rfl (Bb a _ 0 _ rfl rfl (AC.of (a5 _ _ ha)) rfl (Ac rfl (A8 rfl (zl 3) λq2 aA=>?_))));have s4:=a5.upd (o:=.tup [.str fn.nm,.int b.lb,.int j]) aA;have sN:=s3.upd (o:=.tup [.str fn.nm,.int b.lb,.int j]) aA;generalize upd H3 q2 (.tup [.str fn.nm,.int b.lb,.int j])=H4 at *;show Ac rfl (Ac rfl (Aw cd _ rfl (AX.k (k:=Sum.inr g) (s4 _ _ aH)) (Ac rfl (Bg (wq (by rw[cv];rfl)) ?_))));show Ac rfl (Ac rfl (Aw cd _ rfl (by rw[← cv];show AX.k (k:=Sum.inr g) (s4 _ _ aH)) (Ac rfl (Br rb _ rfl (.inr (AC.of (s4 _ _ aP))) rfl (Ac rfl (Bg (wq ?_) ?_))))))
       . rw[JR,el];rfl
       . show a9 _ _ (En rfl) sN
     . rw[KL hc];show a9 _ _ (En rfl) s3
   . rintro σ H3 ⟨G,O,U,Y,a1,a2,rfl⟩ s3;have a5:=a8.trans s3;show Ac rfl (Bb a _ 0 _ rfl rfl (AC.of (a5 _ _ ha)) rfl (Ac rfl (Ac rfl (Br y.ra _ rfl (.inr (AC.of (a5 _ _ aC))) (zl 3) λq2 aA=>?_))));have s4:=(AA.refl H3).upd (o:=.tup [.str fn.nm,.int b.lb,.int y.rs.length]) aA;generalize upd H3 q2 (.tup [.str fn.nm,.int b.lb,.int y.rs.length])=H4 at *;have aW:=a5.trans s4;show Ac rfl (Aw _ b.fin rfl (he.mono aW.AH) λl H5 hl s5 ⟨ws,hw,aU⟩=>Bc l rfl ⟨_,AK.of hw⟩ ?_);show forL (λσ=>∃G O U Y a1 a4,σ=[some (.ref a),some (.ref cd),some (.int b0.lb),some (.ref D),some (.int b.lb),some (.ref y.pa),some (.ref y.ra),some y.ev,G,O,U,Y,a1,some (.ref q2),a4]) hw (En rfl) ?_ (λσ H' ⟨_,_,_,_,_,_,e⟩ sm=>by subst e;show hN _ _ (En (jj50 rfl)) ((((s2.trans s3).trans s4).trans s5).trans sm));rintro j u σ H6 aR ⟨G,O,U,Y,a1,a4,rfl⟩ s6 N' a9;show Am (L2.Paired.at aU aR) λn en z1=>B7 z1 λp q z2 hp hq=>?_;subst z2;have ln:=bk.led n (JJ en);have lf:n∈bt.map (·.lb):=by
       have:Ew fn=b0.lb::bt.map (·.lb):=by unfold Ew;rw[a6];rfl
       rw[this]at ln;show ln
     have nf:n≠b0.lb:=λz=>by
       have h:=fk.nd;unfold Ew at h;rw[a6,LK,NH]at h;show h.1 (z▸lf)
     have tv:Bt aX (Sum.inl n)=some (.int 0):=by
       show Am (LC.mp lf) λc hc z1=>?_;subst z1;show tm c (by rw[a6];show KO _ hc)
     have aF:=s6 _ _ (s5 _ _ (s4 _ _ (s3 _ _ (s2 _ _ aL))));show Br p _ rfl (AC.of (s6 _ _ hp)) rfl (Bg rfl (Bu rfl rfl (norm (σ':=[some (.ref a),some (.ref cd),some (.int b0.lb),some (.ref D),some (.int b.lb),some (.ref y.pa),some (.ref y.ra),some y.ev,G,O,U,Y,some (.ref q),some (.ref q2),some (.int n)]) rfl (Ac rfl (Ac rfl (Aw D _ rfl (AX.k (k:=Sum.inl n) aF) (Ac rfl ?_)))))));rw[tv];show Cq (Ac rfl (A8 rfl rfl (Ac rfl (Bg (wq ?_) ?_))))
     . rw[KL (λz=>nf (V.int.inj z))];rfl
     show Ac rfl (Ac rfl (Aw D _ rfl (by rw[← tv];show AX.k (k:=Sum.inl n) aF) (Ac rfl (Br q [] rfl (.inr (AC.of (s6 _ _ hq))) rfl (Ac rfl (Bg (wq rfl) (a9 _ _ (En rfl) s6)))))))
end
end P2
namespace P2
open PySem PySem.Spec PyProof.Rows L2
section
variable {P:Program}{w:World}{K:A3}{mg:Bv}{base:Heap}{t1 t2 t3 t4:Tok}{aT aE:Addr}{kT:List (Str×V)}
def BG:AB ["function","name","params","kind","blocks","here","block","again"] AO (Af Cf):=⟨rfl,rfl,rfl,by decide +kernel,rfl,by decide +kernel,by decide +kernel⟩
def I0 (F:AG K "look_at_function" "look_at_function" Cf f fd)(T:BK K mg t1 t2 t3 t4)(a1:AM P w K mg base 1 "want" J7 G6)(aL:AM P w K mg base 1 "is_word" B2 So)(aM:AM P w K mg base 3 "are_params" B2 Jx)(aJ:AM P w K mg base 2 "is_kind" B2 Pk)(aO:AM P w K mg base 1 "is_tuple_of" Jc Ir)(aK:AM P w K mg base 2 "is_name" B2 Jf)
   (aP:AM P w K mg base 5 "look_at_block" ["name","block"] Sx)(aN:AM P w K mg base 1 "first_again" ["things"] Ui)(aQ:AM P w K mg base 3 "look_at_names" AO Dk):AD P w K mg base AU 6 f fd AO Dk:=by
 show F.At BG (λvs H Q E h=>?_) (λcdv A outer s H vs Q E G h=>?_)
 . show Da h λns v fn z1 _=>?_;subst z1;rfl
 . show Jq h λns v fn z1 z2 O k=>?_;subst z1;obtain⟨a,x,rfl,ha,a4,a6,a2,pr⟩:=z2;have aG:EW H (.ref a) fn:=(D5 a x rfl ha a4 a6 a2 pr);have nd:=BG.nd;have lb:=L2.Paired.len pr;have aR:=O.le
   show Ac (Ae (L8 (qv 0) (Bk K (n:=4) rfl (Ao (Al (i:=1) nd rfl (Or.inl rfl)) (Ao (Al (i:=2) nd rfl (Or.inl rfl)) (Ao (Al (i:=3) nd rfl (Or.inl rfl)) (Ao (Al (i:=4) nd rfl (Or.inl rfl)) Bj))))))
     (Ae (A9 (i:=5) nd rfl (Or.inl rfl) (Bq (Aa (qv 1) (Aa (Gw Es Ah) (Aa (Gw Es Ah) Ad)))))
     (Ae (A7 (Ax a1 (rm G) rfl (Aa (Ax aL (rm G) rfl (Aa (qv 1) Ad)) (Aa Av (Aa (qv 5) Ad)))))
     (Ae (A7 (Ax a1 (rm G) rfl (Aa (Ax aM (rm G) rfl (Aa (qv 2) Ad)) (Aa Av (Aa (qv 5) Ad)))))
     (Ae (A7 (Ax a1 (rm G) rfl (Aa (Ax aJ (rm G) rfl (Aa (qv 3) Ad)) (Aa Av (Aa (qv 5) Ad)))))
     (Ae (A7 (Ax a1 (rm G) rfl (Aa (D8 (Az (Kg K) rfl T.AI Cu (Aa (qv 4) (Aa (Dn (v:=.ty "tuple") rfl T.BC NV rfl) Ad))) (Dm (Cb Uz (Az (Gq K) rfl T.AZ KQ (Aa (qv 4) Ad)) Ah (A1 _)))) (Aa Av (Aa (qv 5) Ad)))))
     (Ae (Bh (A2 Bs (qv 1) Av (A1 _)) (Ae (A7 (Ax a1 (rm G) rfl (Aa (Cb Bs (qv 3) (Fu rfl T.EH) (A1 _)) (Aa Av (Aa (qv 5) Ad)))))
     (Ai (A7 (Ax a1 (rm G) rfl (Aa (Az (Ng K rfl) rfl T.CY OJ (Aa (Ck (N':=["param"]) (n:=1) (AS.nil rfl (by decide) (by decide) (by decide) rfl) rfl (Be K (qv 2)) (λ_ _ _=>(A6 (Al (i:=0) (show List.Nodup (["param"]:List Str)from by decide +kernel) rfl (Or.inl rfl)) Bm (Cb Bs (Ap (AT K) (qv 0) Ah (λ_ _=>rfl)) (Fu rfl T.EH) (A1 _))))) Ad)) (Aa Av (Aa (qv 5) Ad))))))) A4)
     (Ae (Bw JT rfl (Be K (qv 4)) (Al (i:=6) nd rfl (Or.inl rfl)) (Ae (A7 (Ax a1 (rm G) rfl (Aa (D8 (Ax aO (rm G) rfl (Aa (qv 6) (Aa Ah Ad))) (Dm (Ax aK (rm G) rfl (Aa (Ap (AT K) (qv 6) Ah (λ_ _=>rfl)) Ad)))) (Aa Av (Aa (qv 5) Ad)))))
     (Ai (A7 (Ax aP (rm G) rfl (Aa (qv 1) (Aa (qv 6) Ad)))))))
     (Ae (A9 (i:=7) nd rfl (Or.inl rfl) (Ax aN (rm G) rfl (Aa (Ck (N':=BE) (n:=1) (AS.nil rfl (by decide) (by decide) (by decide) rfl) rfl (Be K (qv 4)) (λ_ _ _=>(A6 (Al (i:=0) (show List.Nodup (BE:List Str)from by decide +kernel) rfl (Or.inl rfl)) Bm (Ap (AT K) (qv 0) Ah (λ_ _=>rfl))))) Ad)))
     (Ae (A7 (Ax a1 (rm G) rfl (Aa (Cb Mi (qv 7) C6 (A1 _)) (Aa Av (Aa (Gm (A2 Mi (qv 7) C6 (A1 _)) (qv 5) (Bq (Aa (qv 1) (Aa (Ap (AT K) (Ap (AT K) (qv 4) (qv 7) (λ_ _=>rfl)) Ah (λ_ _=>rfl)) (Aa (Gw Es Ah) Ad))))) Ad)))))
     (Ae (A7 (Ax a1 (rm G) rfl (Aa (Cb Bs (Az (Gq K) rfl T.AZ KQ (Aa (Ap (AT K) (Ap (AT K) (qv 4) Ah (λ_ _=>rfl)) Ah (λ_ _=>rfl)) Ad)) Ah (A1 _)) (Aa Av (Aa (Bq (Aa (qv 1) (Aa (Ap (AT K) (Ap (AT K) (qv 4) Ah (λ_ _=>rfl)) Ah (λ_ _=>rfl)) (Aa (Gw Es Ah) Ad)))) Ad)))))
     (Ai (A7 (Ax aQ (rm G) rfl (Aa (qv 0) Ad))))))))))))))) ?_
   obtain⟨b0,bt,aB⟩:∃b0 bt,fn.bl=b0::bt:=by cases h:fn.bl with
     | nil=>show absurd h O.ne
     | cons b0 bt=>show Jm b0 bt rfl
   obtain⟨u0,ut,a5⟩:∃u0 ut,x.bs=u0::ut:=by cases h:x.bs with
     | nil=>rw[h,aB]at lb;simp at lb
     | cons u0 ut=>show Jm u0 ut rfl
   have p0:FQ H u0 b0:=by
     have:=pr;rw[a5,aB]at this;cases this;assumption
   show Fw p0 λaA y0 z1 aC aH _=>?_;subst z1;have a9:=a2;rw[a5]at a9;show Ac rfl (Br a _ rfl (AC.of ha) rfl (Bg rfl (Bg rfl (Bg rfl (Bu rfl rfl (norm (σ':=[some (.ref a),some (.str fn.nm),some (.ref x.pa),some (.int 0),some (.ref x.ba),none,none,none]) rfl (Ac rfl (Ac rfl (A8 rfl (zl 3) λa7 aF=>?_)))))))));have s1:=(AA.refl H).upd (o:=.tup [.str fn.nm,.int (-1),.int (-1)]) aF;generalize upd H a7 (.tup [.str fn.nm,.int (-1),.int (-1)])=H1 at *;show Ac rfl (A8 rfl O.wd λH2 s2=>(Ac rfl (Bg rfl ?_)));have s2:=s1.trans s2;show Ac rfl (Ct x.pa [fn.p] rfl (.one (s2 _ _ a4) (s2 _ _ a6)) (by simp) (by intro n hn;rw[JY.mp hn];show O.pp) λH3 U=>(Ac rfl (Bg rfl ?_)));have U:=s2.trans U;show A8 rfl rfl (Ac rfl (Bg rfl (Ac rfl (Jb rfl (.tup (U _ _ a2)) rfl (Ac rfl (Cq (Ac rfl (Aw x.ba _ rfl (.inr (AC.of (U _ _ a2))) (Bu rfl rfl (Ac rfl (Bg (wq ?_) ?_)))))))))))
   . show KH (by rw[a5];simp)
   dsimp only;show join (λσ' H'=>σ'=[some (.ref a),some (.str fn.nm),some (.ref x.pa),some (.int 0),some (.ref x.ba),some (.ref a7),none,none]/\AA H H') ?_ λgo=>?_
   rotate_left
   . show A8 rfl rfl (Ac rfl (Nx (λ_=>(A8 rfl rfl (Ac rfl (Bg rfl (Ac rfl (Bc x.pa rfl ⟨_,AC.of (U _ _ a4)⟩ λD hD=>(Kk (λσ=>∃o,σ=[o]) ((List.replicate 1 (V.bl true)).map some) (U _ _ a4) (by simp) (by simp) hD ⟨_,rfl⟩ (λi z o σ H' R R' hx ho hσ sm k1 k2=>?_) λH' sm hd=>?_))))))) (λ_=>go _ _ ⟨rfl,U⟩)))
     . obtain⟨_,rfl⟩:=hσ;have ez:z=.ref x.pp:=by
         have hm:=JJ hx;simpa using hm
       subst ez;show Ac rfl (B0 x.pp _ 1 _ rfl rfl (AC.of (sm _ _ (U _ _ a6))) rfl rfl (k1 _ _ _ (Ry ho) ⟨_,rfl⟩ (AA.refl _)))
     . rw[Cp]at hd;show Aw D [true] rfl (AK.of hd) (Ac rfl (Bg rfl (go _ _ ⟨rfl,U.trans sm⟩)))
   rintro _ H4 ⟨rfl,s4⟩;show Ac rfl (Bc x.ba rfl ⟨_,AC.of (s4 _ _ a2)⟩ (Lj (λσ=>∃o,σ=[some (.ref a),some (.str fn.nm),some (.ref x.pa),some (.int 0),some (.ref x.ba),some (.ref a7),o,none]) (s4 _ _ a2) ⟨_,rfl⟩ ?_ ?_))
   . rintro i u σ H5 hu ⟨o,rfl⟩ Y N hN;have a8:=s4.trans Y;show Am (L2.Paired.at pr hu) λb eb aD=>?_;have aI:=id aD;show B7 aD λba y z1 hb _=>?_;subst z1;have hm:=JJ eb;have bk:=O.IU b hm;have lp:∀l∈Ja b.fin,0<=l:=λl hl=>O.pos l (List.mem_of_mem_tail (bk.led l hl));show Ac rfl (Cr ba _ _ rfl (a8 _ _ hb) rfl (Ac rfl (Cq (Ac rfl (Bb ba _ 0 _ rfl rfl (AC.of (a8 _ _ hb)) rfl (A8 rfl (O.pos _ (LO hm)) (Ac rfl (Bg rfl (Ac rfl (Ac rfl (B0 ns _ b _ rfl (aI.mono a8.AH) bk.rows bk.len bk.use.1 ⟨lp,λH6 s6=>hN _ _ ⟨_,rfl⟩ (Y.trans s6)⟩)))))))))))
   . rintro σ H5 ⟨o,rfl⟩ Y;have Y:=s4.trans Y;show Ac rfl (Bc x.ba rfl ⟨_,AC.of (Y _ _ a2)⟩ λD hD=>Kk (λσ=>∃o,σ=[o]) (((Ew fn).map V.int).map some) (Y _ _ a2) (by omega) (by simp[Ew,lb]) hD ⟨_,rfl⟩ (λi z o σ H' R R' hx ho hσ sm k1 k2=>?_) λH6 s6 hd=>?_)
     . obtain⟨_,rfl⟩:=hσ;show Am (L2.Paired.at pr hx) λb eb z1=>B7 z1 λba y z2 hb _=>?_;subst z2;rw[Wb (x:=b.lb) (by unfold Ew;rw[KP,eb];rfl)]at ho;show Ac rfl (Bb ba _ 0 _ rfl rfl (AC.of (sm _ _ (Y _ _ hb))) rfl (k1 _ _ _ (KC ho).symm ⟨_,rfl⟩ (AA.refl _)))
     rw[Cp]at hd;have s6:=Y.trans s6;show Ct D ((Ew fn).map (λz=>(Sum.inl z:Key))) rfl (by rw[hd,List.map_map];rfl) (by simp[Ew];omega) (Rv O.nd) λH7 s7=>?_;have s7:=s6.trans s7;show A8 rfl rfl (A8 rfl rfl (Ac rfl (Ac rfl (Bg rfl (Ac rfl (Bb x.ba _ 0 _ rfl rfl (AC.of (s7 _ _ a9)) (Gz (j:=0) rfl) (Bb aA _ 1 _ rfl rfl (AC.of (s7 _ _ aC)) rfl (Br y0.pa [] rfl (.inr (AC.of (s7 _ _ aH))) rfl (Ac rfl (Ac rfl (Bb x.ba _ 0 _ rfl rfl (AC.of (s7 _ _ a9)) (Gz (j:=0) rfl) (Bb aA _ 0 _ rfl rfl (AC.of (s7 _ _ aC)) rfl (A8 rfl (zl 3) λp hp=>(Bg (wq rfl) ?_))))))))))))));have s8:=s7.upd (o:=.tup [.str fn.nm,.int b0.lb,.int (-1)]) hp;show Ac rfl (Cr ns _ fn rfl (aG.mono s8.AH) O λH9 s9=>k H9 (s8.trans s9))
abbrev Hy:List Str:=["program"]
def CN:AB ["program","wrong","function","counts"] Hy (Af Dr):=⟨rfl,rfl,rfl,by decide +kernel,rfl,by decide +kernel,by decide +kernel⟩
def Ld (F:AG K "look_at_form" "look_at_form" Dr f fd)(T:BK K mg t1 t2 t3 t4)(a9:AM P w K mg base 2 "functions_wrong" ["functions"] spFw)(aA:AM P w K mg base 6 "look_at_function" AO Dk)(a8:AM P w K mg base 2 "look_at_uses" Og Sq):AD P w K mg base AU 7 f fd Hy Iu:=by
 show F.At CN (λvs H Q E h=>?_) (λcdv A outer s H vs Q E hr h=>?_)
 . show B5 h λv p z1 _=>?_;subst z1;rfl
 . show Fs h λv p z1 z2 hl EY a7 z3=>?_;subst z1;obtain⟨a,fs,rfl,ha,U⟩:=z2;obtain⟨fk,k⟩:=z3;have nd:=CN.nd;have lv:=L2.Paired.len U
   show Ac (Ae (A9 (i:=1) nd rfl (Or.inl rfl) (Ax a9 (rm hr) rfl (Aa (qv 0) Ad)))
     (Ae (Bh (A2 Px (qv 1) C6 (A1 _)) (Ai Bd) A4)
     (Ae (Bw JT rfl (Be K (qv 0)) (Al (i:=2) nd rfl (Or.inl rfl)) (Ai (A7 (Ax aA (rm hr) rfl (Aa (qv 2) Ad)))))
     (Ae (J0 (i0:=3) nd rfl rfl rfl (N':=AO) (n:=1) (AS.nil rfl (by decide) (by decide) (by decide) rfl) rfl (Be K (qv 0)) (λ_ _ _=>(C9 (Al (i:=0) (show List.Nodup (AO:List Str)from by decide +kernel) rfl (Or.inl rfl)) Bm (Ap (AT K) (qv 0) Ah (λ_ _=>rfl)) (Az (Gq K) rfl T.AZ KQ (Aa (Ap (AT K) (qv 0) Ah (λ_ _=>rfl)) Ad)))))
     (Ai (Bw JT rfl (Be K (qv 0)) (Al (i:=2) nd rfl (Or.inl rfl)) (Ai (A7 (Ax a8 (rm hr) rfl (Aa (qv 2) (Aa (qv 3) Ad))))))))))) ?_
   show Ac rfl (D5 _ p rfl (Aw a fs rfl ha U) hl EY a7 λH1 s1=>A8 rfl rfl (Ac rfl (Fd (Ac rfl (Bc a rfl ⟨_,AC.of (s1 _ _ ha)⟩ (Lj (λσ=>∃o,σ=[some (.ref a),some .AQ,o,none]) (s1 _ _ ha) ⟨_,rfl⟩ ?_ ?_))))))
   . rintro i u σ H2 O ⟨o,rfl⟩ s2 N hN;show Am (L2.Paired.at U O) λfn G a1=>Ac rfl (Cr _ u fn rfl (a1.mono (s1.trans s2).AH) (fk fn (JJ G)) λH3 s3=>hN _ _ ⟨_,rfl⟩ (s2.trans s3))
   rintro σ H2 ⟨o,rfl⟩ s2;have s2:=s1.trans s2;show Ac rfl (Bc a rfl ⟨_,AC.of (s2 _ _ ha)⟩ λD hD=>?_);show Ga (xs:=fs) (λi ys σ H'=>(∃o1,σ=[o1])/\AA H2 H'/\H' D=some (.dK ys)/\ys.length<=i/\∀c∈p.take i,Bt ys (Sum.inr c.nm)=some (.int 1)) (JU (show fs.length<=10 by omega) (by decide)) (Fq ⟨_,rfl⟩ ((AA.refl H2).upd hD) Ag (JN _) (by simp))
     (λi ys σ H' hi ⟨_,sm,hd,e,_⟩=>(A6 (AC.of (sm _ _ (s2 _ _ ha))) hd e)) ?_ ?_
   . rintro i u ys σ H' O ⟨⟨o1,rfl⟩,sm,hd,le,hm⟩;show Am (L2.Paired.at U O) λfn G z1=>Fw z1 λfa y z2 hf a6 _=>?_;subst z2;have a2:=s2.trans sm;show Ac rfl (Bb fa _ 0 _ rfl rfl (AC.of (a2 _ _ hf)) rfl (Ac rfl (Bb fa _ 1 _ rfl rfl (AC.of (a2 _ _ hf)) rfl (Aw y.pa _ rfl (.inr (AC.of (a2 _ _ a6))) (Jn (Sum.inr fn.nm) rfl hd ⟨_,rfl⟩ (Ko sm hD) Ag ⟨?_,λc hc=>?_⟩)))))
     . have:=Bo ys (Sum.inr fn.nm) (V.int ([V.ref y.pp]:List V).length);omega
     . rw[Cd];by_cases e:c.nm=fn.nm
       . rw[KE (LR _ e)];rfl
       . rw[JW λz=>e (Sum.inr.inj z)];rw[Bx G,KU]at hc;show hm c (hc.resolve_right λz=>e (by rw[JY.mp z]))
   rintro a4 σ H3 ⟨_,s3,a5,_,cm⟩;rw[lv,LG]at cm;have Y:=s2.trans s3;show Ac rfl (Bc a rfl ⟨_,AC.of (Y _ _ ha)⟩ (Lj (λσ=>∃o,σ=[some (.ref a),some .AQ,o,some (.ref D)]) (Y _ _ ha) ⟨_,rfl⟩ ?_ (λσ H' _ sm=>k H' (Y.trans sm))));rintro i u σ H4 O ⟨o,rfl⟩ s4 N hN;show Am (L2.Paired.at U O) λfn G a1=>Ac rfl (Ac rfl (B8 (p.map (·.nm)) u fn D a4 rfl (a1.mono (Y.trans s4).AH) (fk fn (JJ G)) (s4 _ _ a5) (λg hg=>?_) λH5 s5=>hN _ _ ⟨_,rfl⟩ (s4.trans s5)));show Am (LC.mp hg) λc hc z1=>?_;subst z1;show cm c hc
end
end P2
namespace P2
open PySem PySem.Spec PyProof.Rows L2
def GrD (H:Hp)(d:Addr)(O:List Int)(G:Int->List Int):Prop:=∃kvs,H d=some (.dK kvs)/\∀l∈O,∃p,Bt kvs (Sum.inl l)=some (.ref p)/\H p=some (.lst ((G l).map V.int))
def GrD.same (h:GrD H d O G)(s:AA H H'):GrD H' d O G:=by
 show Am h λkvs h1 h2=>?_;show Aq kvs (s _ _ h1) λl hl=>let ⟨p,e,q⟩:=h2 l hl;(Aq p e (s _ _ q))
def Rch (O:List Int)(G:Int->List Int)(start:Int)(R:List Int):Prop:=∀S:Int->Prop,S start->(∀l∈O,S l->∀k∈G l,S k)->∀l∈R,S l
def Uj:Sp:=λvs H Q _=>∃d G O start U,vs=[.ref d,.int start,U]/\(U=.AQ\/∃n,U=.int n)/\GrD H d G O/\start∈G/\(∀l∈G,∀k∈O l,k∈G)/\(∀l∈G,(O l).length<=3)/\G.length<=100 /\
 ∀R m H',H m=none->AA H H'->H' m=some (mI R)->Rch G O start R->R.length<=G.length->Q (.ref m) H'
noncomputable def out (G R:List Int):Nat:=(G.filter λl=>decide (l∉R)).length
def Ux (G:List Int):out G []=G.length:=by unfold out;simp
theorem Rb (R:List Int)(x:Int):∀O:List Int,out O (R++[x])<=out O R
 | []=>JN _
 | y::r=>by
  have G:=Rb R x r;unfold out at G ⊢;rw[NQ,NQ];by_cases h:y∈R
  .rw [JW (by simp[h]),JW (by simp[h])];show G
  .rw [KE (show decide (y∉R)=true by simp[h])];split
   .simp only[KN];omega
   .simp only[KN];omega
theorem Ym (R:List Int)(x:Int)(O:x∉R):∀G:List Int,x∈G->out G (R++[x])<out G R
 | [],h=>by cases h
 | y::r,h=>by
  have Y:=Rb R x r;unfold out at Y ⊢;rw[NQ,NQ];by_cases e:y=x
  .subst e;rw[JW (by simp),KE (by simp[O])];simp only[KN];omega
  .have U:=Ym R x O r ((JS.mp h).resolve_left λz=>e z.symm);unfold out at U;by_cases h':y∈R
   .rw [JW (by simp[h']),JW (by simp[h'])];show U
   .rw [KE (show decide (y∉R++[x])=true by simp[h',e]),KE (show decide (y∉R)=true by simp[h'])];simp only[KN];omega
def mI_has {R:List Int}:(Bt (Ij (R.map λx=>(Sum.inl x:Key))) (Sum.inl l)).isSome=true↔l∈R:=by
 rw[valK,LC];show⟨λ⟨x,h,e⟩=>MI e▸h,λh=>(Aq l h rfl)⟩
def Tu {W:List Int}(h:0<W.length):∃U x,W=U++[x]:=by
 cases e:W.reverse with
 | nil=>rw[List.reverse_eq_nil_iff.mp e]at h;simp at h
 | cons x U=>show Jm U.reverse x (by rw[← List.reverse_reverse W,e];simp)
def Yb (zs:List Int)(d:Int):((zs++[d]).map V.int)[((zs++[d]).map V.int).length-1]?=some (.int d):=by simp
def Ya (zs:List Int)(d:Int):((zs++[d]).map V.int).dropLast=zs.map V.int:=by simp
def RchI (H:Hp)(d m O:Addr)(Y:V)(G:List Int)(a1:Int->List Int)(start:Int)(n:Nat)(σ:L2.St)(H':Hp):Prop:=∃(R W:List Int) (U:Option V),n=4*out G R+W.length/\σ=[some (.ref d),some (.int start),some Y,some (.ref m),some (.ref O),U]/\AA H H'/\H' m=some (mI R)/\H' O=some (.lst (W.map V.int)) /\
    (∀l∈W,l∈G)/\(∀S:Int->Prop,S start->(∀l∈G,S l->∀k∈a1 l,S k)->(∀l∈R,S l)/\∀l∈W,S l)/\n<=401/\R.length+out G R<=G.length
section
variable {P:Program}{w:World}{K:A3}{mg:Bv}{base:Heap}{t1 t2 t3 t4:Tok}{aT aE:Addr}{kT:List (Str×V)}
abbrev Mh:List Str:=["leads","start","without"]
def FT:AB ["leads","start","without","met","waiting","label"] Mh (Af Gf):=⟨rfl,rfl,rfl,by decide +kernel,rfl,by decide +kernel,by decide +kernel⟩
def Tf (F:AG K "reached" "reached" Gf f fd)(T:BK K mg t1 t2 t3 t4):AD P w K mg base AU 1 f fd Mh Uj:=by
 show F.At FT (λvs H Q E h=>?_) (λcdv A outer s H vs Q E hr h=>?_)
 . show M9 h λd a1 Y start wo z1 _=>?_;subst z1;rfl
 . show Nz h λd a1 Y start wo z1 aK gr aJ aI z2=>B9 z2 λh3 aL k=>?_;subst z1;have nd:=FT.nd
   show Ac (Ae (A9 (i:=3) nd rfl (Or.inl rfl) Ie)
     (Ae (A9 (i:=4) nd rfl (Or.inl rfl) (G7 (Aa (qv 1) Ad)))
     (Ae (Q6 JT (A2 Uz (Az (Gq K) rfl T.AZ KQ (Aa (qv 4) Ad)) Ah (A1 _)) (Ae (A9 (i:=5) nd rfl (Or.inl rfl) (X2 MK PySem.F.slot_list_pop PySem.F.type_list_pop Yt (qv 4)))
     (Ai (Bh (QW.pt (Kq (A2 Uy (qv 5) (qv 2) (A1 _)) (Jz (Iw (B4 hr) (qv 5) (qv 3))))) (Ae (Ft (B4 hr) (qv 3) (qv 5) Hd rfl)
     (Ai (A7 (Q7 MK PySem.F.slot_list_extend PySem.F.type_list_extend V2 (qv 4) (Aa (Cj (B4 hr) (qv 0) (qv 5) (λ_ _=>rfl)) Ad))))) A4))))
     (Ai (A0 (qv 3)))))) ?_
   show λm hm=>(A8 rfl (zl 1) λG hw=>?_);have a4:m≠G:=λz=>by rw[← z,Ag]at hw;cases hw
   have a8:H G=none:=by rw[Ak a4.symm]at hw;show hw
   have aM:(5000:Nat)<=sizeLine:=by rw[NJ];omega
   dsimp only[Xb];show Aq (RchI H d m G wo a1 Y start) ?_ ?_
   . show B0 _ [] [start] none rfl rfl (((AA.refl H).upd hm).upd hw) (by rw[Ak a4,Ag];rfl) Ag (C9 ?_ ?_ ?_ ?_)
     . intro l hl;rw[JY.mp hl];show aJ
     . intro S O _;show⟨λl hl=>(by cases hl),λl hl=>by rw[JY.mp hl];show O⟩
     . rw[Ux];simp;omega
     . rw[Ux];simp
   . rintro n σ H' ⟨R,W,o5,en,rfl,sm,gm,gw,w1,w4,w5,w6⟩;show Ac rfl (Aw G _ rfl (.inl (AK.of gw)) (Bu rfl rfl (Ac rfl ?_)));rw[JR];show Nx (λh=>?_) (λh=>?_)
     . have h0:=MX h;show G9 (Tu (W:=W) (by omega)) λU x z1=>?_;subst z1;show Aq (λσ' aG=>∃n',n'<n/\RchI H d m G wo a1 Y start n' σ' aG) (λ_ _ z=>z) (A8 rfl (.inl ⟨rfl,_,AK.of gw⟩) (Ny G _ _ rfl rfl gw (Yb _ _) ?_));rw[Ya];have a5:upd H' G (.lst (U.map V.int)) m=some (mI R):=by rw[Ak a4];show gm
       have a6:=Ag (H:=H') (a:=G) (o:=.lst (U.map V.int));have aC:AA H (upd H' G (.lst (U.map V.int))):=Ko sm a8;generalize upd H' G (.lst (U.map V.int))=H1 at *;have a2:x∈a1:=w1 x (by simp);have aF:∃n',n'<n/\RchI H d m G wo a1 Y start n' [some (.ref d),some (.int start),some wo,some (.ref m),some (.ref G),some (.int x)] H1:=by
         show Aq (4*out a1 R+U.length) (by rw[en];simp) (Qh R U _ rfl rfl aC a5 a6 (C9 (λl hl=>w1 l (by simp[hl])) (λS O s1=>⟨(w4 S O s1).1,λl hl=>(w4 S O s1).2 l (by simp[hl])⟩) ?_ w6));rw[en]at w5;simp at w5;omega
       show Ac rfl (A8 rfl (by rcases aK with rfl|⟨n,rfl⟩<;>rfl) (Ac rfl ?_));by_cases a9:V.int x=wo
       . rw[KH a9];show aF
       rw[KL a9];show Ac rfl (Ac rfl (Aw m _ rfl (AX.k (k:=Sum.inl x) a5) (Ac rfl ?_)));by_cases hx:x∈R
       . rw[mI_has.mpr hx];show aF
       . rw[U2 hx];have lR:R.length<=300:=by omega
         show Ac rfl (Ac rfl (Aw m _ rfl (FH.k (k:=Sum.inl x) a5 (Tt lR)) ?_));rw[Ts hx];have a7:upd H1 m (mI (R++[x])) G=some (.lst (U.map V.int)):=by rw[Ak a4.symm];show a6
         have aH:=Ag (H:=H1) (a:=m) (o:=mI (R++[x]));have aD:AA H (upd H1 m (mI (R++[x]))):=Ko aC hm;generalize upd H1 m (mI (R++[x]))=H2 at *;show Am (gr.same aD) λkvs gd ga=>Am (ga x a2) λp ep gp=>?_;have l3:=h3 x a2;show A8 rfl (.inl ⟨rfl,_,AK.of a7⟩) (Ac rfl (Ac rfl (Aw d _ rfl (by rw[← ep];show AX.k (k:=Sum.inl x) gd) (B0 G p _ _ rfl rfl a7 gp ?_ ?_))))
         . rw[JR,JR];rw[en]at w5;simp at w5;omega
         . have lt:=Ym R x hx a1 a2;have aB:(U++[x]).length=U.length+1:=by simp
           have aA:(U++Y x).length=U.length+(Y x).length:=by simp
           show Aq (4*out a1 (R++[x])+(U++Y x).length) (by rw[en,aB,aA];omega) (Qh (R++[x]) (U++Y x) _ rfl rfl (Ko aD a8) ?_ ?_ (C9 ?_ ?_ ?_ ?_))
           . rw[Ak a4,aH]
           . rw[Ag,MA]
           . intro l hl
             rcases KU.mp hl with z|z
             . show w1 l (by simp[z])
             . show aI x a2 l z
           . intro S O s1;obtain⟨q1,q2⟩:=w4 S O s1;have sx:S x:=q2 x (by simp);show⟨λl hl=>?_,λl hl=>?_⟩
             . rcases KU.mp hl with z|z
               . show q1 l z
               . rw[JY.mp z];show sx
             . rcases KU.mp hl with z|z
               . show q2 l (by simp[z])
               . show s1 x a2 sx l z
           . rw[en,aB]at w5;rw[aA];omega
           . simp only[JV,KN,List.length_nil];omega
     . have h0:W.length=0:=by
         have:¬(0:Int)<(W.length:Nat):=λz=>h (KH z);omega
       have hW:W=[]:=List.length_eq_zero_iff.mp h0;subst hW;show Ac rfl (k R m H' hm sm gm (λS O s1=>(w4 S O s1).1) (by omega))
end
end P2
namespace P2
open PySem PySem.Spec PyProof.Rows L2
noncomputable def Se (f:MF)(l:Int):List Int:=match f.bl.find? (λb=>decide (b.lb=l))with
 | some b=>Ja b.fin
 | none=>[]
theorem Hf:∀{bs:List MB} {b:MB},(bs.map (·.lb)).Nodup->b∈bs->bs.find? (λc=>decide (c.lb=b.lb))=some b
 | [],_,_,h=>by cases h
 | c::r,b,nd,h=>by
  rw[LK,NH]at nd
  rcases JS.mp h with e|h
  .subst e;rw[NA,KH rfl]
  .have ne:¬c.lb=b.lb:=λz=>nd.1 (z▸LO h);rw[NA,KL ne];show Hf nd.2 h
def Qt (nd:(Ew f).Nodup)(h:b∈f.bl):Se f b.lb=Ja b.fin:=by
 unfold Se;rw[Hf nd h]
def led3 (e:ME):(Ja e).length<=3:=by cases e<;>simp[Ja]
def Lo:Sp:=λvs H Q _=>∃ns v f,vs=[v]/\EW H v f/\CH ns f/\∀D H',H D=none->AA H H'->GrD H' D (Ew f) (Se f)->Q (.ref D) H'
def spFl:Sp:=λvs H Q _=>∃ns v f b bt,vs=[v]/\EW H v f/\CH ns f/\f.bl=b::bt/\Q (.int b.lb) H
def Pn:Sp:=λvs H Q _=>∃ns v f,vs=[v]/\EW H v f/\CH ns f/\∀D kvs H',H D=none->AA H H'->H' D=some (.dK kvs)->Q (.ref D) H'
def CH.cl (G:CH ns f):∀l∈Ew f,(∀k∈Se f l,k∈Ew f)/\(Se f l).length<=3:=λl hl=>by
 show Am (LC.mp hl) λb O z1=>?_;subst z1;rw[Qt G.nd O];show⟨λk U=>List.mem_of_mem_tail ((G.IU b O).led k U),led3 _⟩
def Ac3 (R:List Int):((Ij (R.map λx=>(Sum.inl x:Key))).map λp=>kV p.1)=R.map V.int:=by
 unfold Ij;simp only[List.map_map];rfl
structure Abv (H2:Hp)(D:Addr)(ls:List Int)(c:Nat)(H':Hp):Prop where
 sm:AA H2 H'
 ex:∃kvs,H' D=some (.dK kvs)/\∀l∈ls,∃p ms,Bt kvs (Sum.inl l)=some (.ref p)/\H2 p=none/\p≠D/\H' p=some (.dK ms)/\ms.length<=c
def Abv.same (h:Abv H2 D ls c H')(s:AA H' G):Abv H2 D ls c G:=by
 obtain⟨sm,kvs,e,q⟩:=h;show⟨sm.trans s,kvs,s _ _ e,λl hl=>let ⟨p,ms,O,U,a3,Y,a5⟩:=q l hl;(Ct p ms O U a3 (s _ _ Y) a5)⟩
def Abv.up (h:Abv H2 D ls c H')(le:c<=c'):Abv H2 D ls c' H':=by
 obtain⟨sm,kvs,e,q⟩:=h;show⟨sm,kvs,e,λl hl=>let ⟨p,ms,G,O,a3,U,Y⟩:=q l hl;(Ct p ms G O a3 U (by omega))⟩
section
variable {P:Program}{w:World}{K:A3}{mg:Bv}{base:Heap}{t1 t2 t3 t4:Tok}{aT aE:Addr}{kT:List (Str×V)}
def ET:AB AO AO (Af Gg):=⟨rfl,rfl,rfl,by decide +kernel,rfl,by decide +kernel,by decide +kernel⟩
def Rg (F:AG K "leads_of" "leads_of" Gg f fd)(a9:AM P w K mg base 1 "ways_of" D9 Ib):AD P w K mg base AU 2 f fd AO Lo:=by
 show F.At ET (λvs H Q E h=>?_) (λcdv A outer s H vs Q E hr h=>?_)
 .show Da h λns v fn z1 _=>?_;subst z1;rfl
 .show Jq h λns v fn z1 O fk k=>?_;subst z1;obtain⟨a,x,rfl,ha,aC,aD,a4,pr⟩:=O;have nd:=ET.nd;have lb:=L2.Paired.len pr;have aB:=fk.le;show Ac (Ai (A0 (Ig (N':=BE) (n:=1) (AS.nil rfl (by decide) (by decide) (by decide) rfl) rfl (Be K (Ap (AT K) (qv 0) Ah (λ_ _=>rfl))) (λ_ _ _=>(C9 (Al (i:=0) (show List.Nodup (BE:List Str)from by decide +kernel) rfl (Or.inl rfl)) Bm (Ap (AT K) (qv 0) Ah (λ_ _=>rfl)) (Ck (N':=["label","args"]) (n:=2) (AS.nil rfl (by decide) (by decide) (by decide) rfl) rfl (Cc K (Ax a9 (rm hr) rfl (Aa (Ap (AT K) (qv 0) Ah (λ_ _=>rfl)) Ad))) (λ_ _ _=>(A6 (Bk K (n:=2) rfl (Ao (Al (i:=0) (show List.Nodup (["label","args"]:List Str)from by decide +kernel) rfl (Or.inl rfl)) (Ao (Al (i:=1) (show List.Nodup (["label","args"]:List Str)from by decide +kernel) rfl (Or.inl rfl)) Bj))) Bm (qv 0))))))))) (Ac rfl (Bb a _ 3 _ rfl rfl (AC.of ha) rfl (Bc x.ba rfl ⟨_,AC.of a4⟩ λD hD=>?_)));show Ga (xs:=x.bs) (λi ys σ H'=>(∃U,σ=[U])/\AA H H'/\H' D=some (.dK ys)/\ys.length<=i/\∀c∈fn.bl.take i,∃p,Bt ys (Sum.inl c.lb)=some (.ref p)/\H' p=some (.lst ((Ja c.fin).map V.int))) (JU (show x.bs.length<=10 by omega) (by decide)) (Fq ⟨_,rfl⟩ ((AA.refl H).upd hD) Ag (JN _) (by simp))
   (λi ys σ H' hi ⟨_,sm,hd,e,_⟩=>(A6 (AC.of (sm _ _ a4)) hd e)) ?_ ?_
  .rintro i u ys σ H' hu ⟨⟨U,rfl⟩,sm,hd,le,hm⟩;show Am (L2.Paired.at pr hu) λb eb z1=>Fs z1 λba y O G aA aF aG he=>?_;subst O;show Ac rfl (Bb ba _ 0 _ rfl rfl (AC.of (sm _ _ G)) rfl (Ac rfl (Bb ba _ 3 _ rfl rfl (AC.of (sm _ _ G)) rfl (Aw _ b.fin rfl (he.mono sm.AH) λl H1 hl s1 ⟨ws,hw,a5⟩=>(Bc l rfl ⟨_,AK.of hw⟩ λD2 a6=>?_)))));have lw:=L2.Paired.len a5;have l3:=led3 b.fin;show R9 (λσ=>∃U o2,σ=[U,o2]) (((Ja b.fin).map V.int).map some) hw (by omega) (by simp[lw]) a6 (Cs rfl) (λj z o σ H2 R R' hx ho hσ a8 k1 k2=>?_) λH3 s3 Y=>?_
   .show G9 hσ λ_ _ z1=>?_;subst z1;show Am (L2.Paired.at a5 hx) λn en z1=>B7 z1 λp q O hp hq=>?_;subst O;rw[Wb en]at ho;show Br p _ rfl (AC.of (a8 _ _ hp)) rfl (Bg rfl (Bu rfl rfl (Ac rfl (k1 _ _ _ (KC ho).symm (Cs rfl) (AA.refl _)))))
   .rw [Cp]at Y;have a2:=s1.trans s3;have a1:=a2 _ _ hd;have a7:D2≠D:=λz=>by rw[z,a1]at Y;cases Y
    show Jn (Sum.inl b.lb) rfl a1 ⟨_,rfl⟩ (Ko (sm.trans a2) hD) Ag ⟨?_,λc hc=>?_⟩
    .have:=Bo ys (Sum.inl b.lb) (V.ref D2);omega
    .rw [Cd];rw[Bx eb,KU]at hc
     rcases hc with hc|hc
     .show Am (hm c hc) λp e1 g1=>?_;have g2:=a2 _ _ g1;show Aq p (by rw[JW λz=>W8 fk.nd eb hc (MI z)];show e1) (by rw[Ak (Bl g2 a1 (by simp))];show g2)
     .rw [JY.mp hc];show Aq D2 (by rw[KE rfl]) (by rw[Ak a7];show Y)
  .rintro ys σ H1 ⟨_,s1,hd,_,lm⟩;rw[lb,LG]at lm;show k D H1 hD s1 (Aq ys hd λl hl=>?_);show Am (LC.mp hl) λb G z1=>?_;subst z1;show Am (lm b G) λp e1 g1=>?_;show Aq p e1 (by rw[Qt fk.nd G];show g1)
def DD:AB AO AO (Af Dv):=⟨rfl,rfl,rfl,by decide +kernel,rfl,by decide +kernel,by decide +kernel⟩
def Mq (F:AG K "first_label" "first_label" Dv f fd):AD P w K mg base AU 1 f fd AO spFl:=by
 show F.At DD (λvs H Q E h=>?_) (λcdv A outer s H vs Q E hr h=>?_)
 .show M9 h λns v fn b bt z1 _=>?_;subst z1;rfl
 .show dd54 h λns v fn b bt z1 z2 fk a2 k=>?_;subst z1;obtain⟨a,x,rfl,ha,a5,a6,O,G⟩:=z2;have nd:=DD.nd;rw[a2]at G
  cases U:x.bs with
  | nil=>rw[U]at G;cases G
  | cons u0 ut=>
   rw[U]at G O
   cases G with
   | cons Y _=>
   show B7 Y λa1 y0 z1 a4 _=>?_;subst z1;show Ac (Ai (A0 (Ap (AT K) (Ap (AT K) (Ap (AT K) (qv 0) Ah (λ_ _=>rfl)) Ah (λ_ _=>rfl)) Ah (λ_ _=>rfl)))) (Ac rfl (Bb a _ 3 _ rfl rfl (AC.of ha) rfl (Bb x.ba _ 0 _ rfl rfl (AC.of O) (Gz (j:=0) rfl) (Bb a1 _ 0 _ rfl rfl (AC.of a4) rfl k))))
def EV:AB ["function","leads","first","labels","above","lying","met","label"] AO (Af Gj):=⟨rfl,rfl,rfl,by decide +kernel,rfl,by decide +kernel,by decide +kernel⟩
def Rk (F:AG K "above_of" "above_of" Gj f fd)(T:BK K mg t1 t2 t3 t4)(aQ:AM P w K mg base 2 "leads_of" AO Lo)(aR:AM P w K mg base 1 "first_label" AO spFl)(aH:AM P w K mg base 1 "reached" Mh Uj):AD P w K mg base AU 3 f fd AO Pn:=by
 show F.At EV (λvs H Q E h=>?_) (λcdv A outer s H vs Q E U h=>?_)
 . show Da h λns v fn z1 _=>?_;subst z1;rfl
 . show Jq h λns v fn z1 aF G k=>?_;subst z1;have nd:=EV.nd;have aL:=G.le
   obtain⟨b0,bt,aC⟩:∃b0 bt,fn.bl=b0::bt:=by cases h:fn.bl with
     | nil=>show absurd h G.ne
     | cons b0 bt=>show Jm b0 bt rfl
   have h0:b0.lb∈Ew fn:=by unfold Ew;rw[aC];simp
   have aU:(Ew fn).length<=10:=by unfold Ew;rw[JR];show aL
   show Ac (Ae (A9 (i:=1) nd rfl (Or.inl rfl) (Ax aQ (rm U) rfl (Aa (qv 0) Ad)))
     (Ae (A9 (i:=2) nd rfl (Or.inl rfl) (Ax aR (rm U) rfl (Aa (qv 0) Ad)))
     (Ae (A9 (i:=3) nd rfl (Or.inl rfl) (Fy (T6 rfl) rfl T.n_list boot_list (Aa (Ax aH (rm U) rfl (Aa (qv 1) (Aa (qv 2) (Aa C6 Ad)))) Ad)))
     (Ae (J0 (i0:=4) nd rfl rfl rfl (N':=["label"]) (n:=1) (AS.nil rfl (by decide) (by decide) (by decide) rfl) rfl (Cc K (qv 3)) (λ_ _ _=>(C9 (Al (i:=0) (show List.Nodup (["label"]:List Str)from by decide +kernel) rfl (Or.inl rfl)) Bm (qv 0) Ie)))
     (Ae (Bw JT rfl (Cc K (qv 3)) (Al (i:=5) nd rfl (Or.inl rfl)) (Ae (A9 (i:=6) nd rfl (Or.inl rfl) (Ax aH (rm U) rfl (Aa (qv 1) (Aa (qv 2) (Aa (qv 5) Ad)))))
     (Ai (Bw JT rfl (Cc K (qv 3)) (Al (i:=7) nd rfl (Or.inl rfl)) (Ai (Bh (QW.pt (Kq (Iw (B4 U) (qv 7) (qv 6)) (Jz (A2 Uy (qv 7) (qv 5) (A1 _))))) (Ai (Ft (B4 U) (Cj (B4 U) (qv 4) (qv 7) (λ_ _=>rfl)) (qv 5) Hd rfl)) A4))))))
     (Ai (A0 (qv 4)))))))) ?_
   show Ac rfl (Cr ns v fn rfl aF G λd H1 hd s1 gr=>Ac rfl (Ad3 ns v fn b0 bt rfl (aF.mono s1.AH) G aC (Ac rfl (Ac rfl (B8 d (Ew fn) (Se fn) b0.lb .AQ rfl (.inl rfl) gr h0 (λl hl=>(G.cl l hl).1) (A6 (λl hl=>(G.cl l hl).2) (by omega) λR m H2 hm s2 gm _ lR=>(Aw m _ rfl (.inl gm) λl hl=>?_)))))));have lR:R.length<=10:=by omega
   rw[Ac3];have s3:=(AA.refl H2).upd (o:=.lst (R.map V.int)) hl;have gl:upd H2 l (.lst (R.map V.int)) l=some (.lst (R.map V.int)):=Ag;generalize upd H2 l (.lst (R.map V.int))=O at *;have aG:=s1.trans (s2.trans s3);have aJ:=gr.same (s2.trans s3);show Ac rfl (Bc l rfl ⟨_,AK.of gl⟩ λD hD=>?_);show Jt (xs:=R.map V.int) (λi ys σ H'=>(∃o,σ=[o])/\AA O H'/\H' D=some (.dK ys)/\ys.length<=i/\∀z∈R.take i,∃p ms,Bt ys (Sum.inl z)=some (.ref p)/\O p=none/\p≠D/\H' p=some (.dK ms)/\ms.length<=0) (by rw[JR];show JU lR (by decide)) (Fq ⟨_,rfl⟩ ((AA.refl O).upd hD) Ag (JN _) (by simp))
     (λi ys σ H' hi ⟨_,sm,hd,e,_⟩=>(A6 (AK.of (sm _ _ gl)) hd e)) ?_ ?_
   . rintro i y ys σ H' hy ⟨⟨o,rfl⟩,sm,aD,le,aM⟩;obtain⟨z,ez,rfl⟩:∃z,R[i]?=some z/\V.int z=y:=by simpa using hy
     show Ac rfl λp hp=>?_;have aA:p≠D:=(Aj aD hp).symm;have aP:upd H' p (.dK []) D=some (.dK ys):=by rw[Ak aA.symm];show aD
     show Jn (Sum.inl z) rfl aP ⟨_,rfl⟩ (Ko (sm.upd hp) hD) Ag ⟨?_,λc hc=>?_⟩
     . have:=Bo ys (Sum.inl z) (V.ref p);omega
     . rw[Cd];by_cases e:c=z
       . subst e;show Ct p [] (by rw[KE rfl]) (sm.free hp) aA (by rw[Ak aA,Ag]) (JN _)
       . rw[JW λq=>e (MI q)];rw[Bx ez,KU]at hc;show Jr (aM c (hc.resolve_right λq=>e (JY.mp q))) λp' ms a1 a2 a3 a4 a5=>?_;show Ct p' ms a1 a2 a3 (by rw[Ak a3,Ak (Aj a4 hp)];show a4) a5
   rintro akv σ H4 ⟨_,s4,aK,_,am⟩;rw[JR,LG]at am;have ab:Abv O D R 0 H4:=⟨s4,akv,aK,am⟩;show Ac rfl (Bc l rfl ⟨_,AK.of (ab.sm _ _ gl)⟩ (Io (xs:=R.map V.int) (λi σ H'=>(∃o1 o2 Y,σ=[some v,some (.ref d),some (.int b0.lb),some (.ref l),some (.ref D),o1,o2,Y])/\Abv O D R (i*10) H') ⟨(Ad0 rfl),by simpa using ab⟩ (λi σ H' hi ⟨_,ab⟩=>AK.of (ab.sm _ _ gl)) ?_ ?_))
   . rintro i y σ H5 hy ⟨⟨o1,o2,Y,rfl⟩,ab⟩;obtain⟨z,ez,rfl⟩:∃z,R[i]?=some z/\V.int z=y:=by simpa using hy
     have hi:i<R.length:=(List.getElem?_eq_some_iff.mp ez).1;show Ac rfl (Ac rfl (Ac rfl (B8 d (Ew fn) (Se fn) b0.lb (.int z) rfl (.inr ⟨_,rfl⟩) (aJ.same ab.sm) h0 (λl hl=>(G.cl l hl).1) (A6 (λl hl=>(G.cl l hl).2) (by omega) λR2 m2 H6 aN s6 aI _ _=>?_))));have aB:=ab.same s6;show Ac rfl (Bc l rfl ⟨_,AK.of (aB.sm _ _ gl)⟩ (Io (xs:=R.map V.int) (λj σ H'=>(∃Y,σ=[some v,some (.ref d),some (.int b0.lb),some (.ref l),some (.ref D),some (.int z),some (.ref m2),Y])/\Abv O D R (i*10+j) H'/\(∃ms,H' m2=some (.dK ms))/\O m2=none) (C9 ⟨_,rfl⟩ (by simpa using aB) ⟨_,aI⟩ (ab.sm.free aN)) (λj σ H' hi ⟨_,ab,_⟩=>AK.of (ab.sm _ _ gl)) ?_ ?_))
     . rintro j y σ H7 hy ⟨⟨Y,rfl⟩,a6,⟨aS,a7⟩,a9⟩;obtain⟨q,eq,rfl⟩:∃q,R[j]?=some q/\V.int q=y:=by simpa using hy
       have hj:j<R.length:=(List.getElem?_eq_some_iff.mp eq).1;have CC:=a6.up (show i*10+j<=i*10+(j+1)by omega);show Ac rfl (Ac rfl (Aw m2 _ rfl (AX.k (k:=Sum.inl q) a7) (Ac rfl (Nx (λ_=>(Ac rfl (A8 rfl rfl (Ac rfl (Nx (λ_=>(Am a6.ex λkvs a8 hk=>(Jr (hk q (JJ eq)) λp ms a1 a2 a3 a4 a5=>?_))) (λ_=>(C9 ⟨_,rfl⟩ CC ⟨_,a7⟩ a9))))))) (λ_=>(C9 ⟨_,rfl⟩ CC ⟨_,a7⟩ a9))))));show Ac rfl (Ac rfl (Aw D _ rfl (by rw[← a1];show AX.k (k:=Sum.inl q) a8) (Ac rfl (D5 p _ rfl (FH.k (k:=Sum.inl z) a4 (Iv (by omega))) ⟨_,rfl⟩ ⟨Ko a6.sm a2,kvs,?_,λc hc=>?_⟩ ?_ a9))))
       . rw[Ak a3.symm];show a8
       . show Jr (hk c hc) λp' aO c1 c2 c3 c4 c5=>?_;by_cases e:p'=p
         . subst e;show Ct p' _ c1 c2 c3 Ag ?_;have:=Bo ms (Sum.inl z) (V.bl true);omega
         . show Ct p' aO c1 c2 c3 (by rw[Ak e];show c4) (by omega)
       . by_cases e:m2=p
         . subst e;show⟨_,Ag⟩
         . show⟨_,by rw[Ak e];show a7⟩
     . rintro σ H7 ⟨⟨Y,rfl⟩,a6,_⟩;show⟨(Ad0 rfl),a6.up ?_⟩;rw[JR];omega
   . rintro σ H5 ⟨⟨o1,o2,Y,rfl⟩,ab⟩;show Am ab.ex λkvs a8 _=>Ac rfl (k D kvs H5 (aG.free hD) (aG.trans ab.sm) a8)
end
end P2
namespace P2
open PySem PySem.Spec PyProof.Rows L2
noncomputable def inn (ls:List Int)(G:Int->List Int)(l:Int):List Int:=(G l).filter λk=>decide (k∈ls)
def GQ:k∈inn ls G l↔k∈G l/\k∈ls:=by
 unfold inn;rw[OK,MW]
theorem Rx (x:Int):∀xs:List Int,IT (V.int x) (xs.map V.int)=decide (x∈xs)
 | []=>rfl
 | y::r=>by
  have G:=Rx x r
  show((y==x)||IT (V.int x) (r.map V.int))=_
  rw[G,MZ,Bool.or_eq_true,ND,MW,MW,JS];show⟨λz=>z.imp Eq.symm id,λz=>z.imp Eq.symm id⟩
def Wg (xs:List Int):(xs.map V.int).all Jd=true:=by
 rw[NO];intro v G;show Am (LC.mp G) λx _ z1=>?_;subst z1;rfl
def Rkd (ls:List Int)(G:Int->List Int):Prop:=∃rk:Int->Nat,∀l∈ls,∀k∈G l,rk l<rk k
def spLr:Sp:=λvs H Q _=>∃(d:Addr) (O:List Int) (G:Int->List Int) (lb:Addr) (ls:List Int),vs=[.ref d,.ref lb]/\GrD H d O G/\H lb=some (.lst (ls.map V.int))/\(∀l∈ls,l∈O)/\(∀l∈O,(G l).length<=3)/\ls.length<=100/\Rkd ls G /\
 ∀(r:Addr) (H':Hp),H r=none->AA H H'->H' r=some (.lst [])->Q (.ref r) H'
def spRe:Sp:=λvs H Q _=>∃(d:Addr) (O:List Int) (G:Int->List Int) (lb:Addr) (ls:List Int),vs=[.ref d,.ref lb]/\GrD H d O G/\H lb=some (.lst (ls.map V.int))/\(∀l∈ls,l∈O)/\(∀l∈O,(G l).length<=3)/\ls.length<=100/\Rkd ls G/\∀H',AA H H'->Q .AQ H'
noncomputable def quiet (b:MB):Bool:=b.rows.all λr=>!decide (r.op="call")
def Xu (h:quiet b=true):∀r∈b.rows,r.op≠"call":=λr G z=>by
 have:=NO.mp h r G;rw[KH z]at this;cases this
def Xp:Sp:=λvs H Q _=>∃ns v b,vs=[v]/\FQ H v b/\(∀r∈b.rows,DX ns r)/\b.rows.length<=10/\∀H',AA H H'->Q (.bl (!quiet b)) H'
def Ac1 (n:Nat):fm (List.replicate n (none:Option V))=[]:=by
 induction n with
 | zero=>rfl
 | succ n G=>show G
def getN {n i:Nat}{o:Option V}(ho:(List.replicate n (none:Option V))[i]?=some o):o=none:=by
 rw[LP]at ho;split at ho<;>cases ho;rfl
def getF {n i:Nat}{o:Option V}(ho:((List.replicate n (V.bl false)).map some)[i]?=some o):o=some (V.bl false):=by
 rw[NE,LP]at ho;split at ho<;>cases ho;rfl
def Wt:(List.replicate n false).any id=false:=by rw[List.any_eq_false];intro x G;rw[List.eq_of_mem_replicate G];simp
section
variable {P:Program}{w:World}{K:A3}{mg:Bv}{base:Heap}{t1 t2 t3 t4:Tok}{aT aE:Addr}{kT:List (Str×V)}
abbrev Ks:List Str:=["leads","labels"]
def DA:AB ["leads","labels","inner"] Ks (Af Ds):=⟨rfl,rfl,rfl,by decide +kernel,rfl,by decide +kernel,by decide +kernel⟩
def Mm (F:AG K "leads_round" "leads_round" Ds f fd)(T:BK K mg t1 t2 t3 t4)(aM:AM P w K mg base 1 "reached" Mh Uj):AD P w K mg base AU 2 f fd Ks spLr:=by
 show F.At DA (λvs H Q E h=>?_) (λcdv A outer s H vs Q E hr h=>?_)
 .show M9 h λd a7 G lb ls z1 _=>?_;subst z1;rfl
 .show Nz h λd a7 G lb ls z1 gr a2 sub h3 z2=>B9 z2 λhl z3 k=>?_;subst z1;obtain⟨rk,aC⟩:=z3;have nd:=DA.nd;have hz:(ls.map V.int).length<=sizeLine:=by rw[JR];show JU hl (by decide)
  show Ac (Ae (A9 (i:=2) nd rfl (Or.inr rfl) (Ig (N':=["label","leads","labels"]) (n:=1) (js:=[0,1]) (AS.of rfl rfl (by decide) (by decide) rfl (List.forall_mem_cons.mpr ⟨rfl,(List.forall_mem_cons.mpr ⟨rfl,(KD _)⟩)⟩) Ks rfl (by decide +kernel) (List.forall_mem_cons.mpr ⟨(A6 rfl rfl (Or.inl rfl)),(List.forall_mem_cons.mpr ⟨(A6 rfl rfl (Or.inl rfl)),(KD _)⟩)⟩)) rfl (Cc K (qv 1)) (λ_ _ _=>(C9 (Al (i:=0) (show List.Nodup (["label","leads","labels"]:List Str)from by decide +kernel) rfl (Or.inl rfl)) Bm (qv 0) (Ck (N':=["led","labels"]) (n:=1) (js:=[2]) (AS.of rfl rfl (by decide) (by decide) rfl (List.forall_mem_cons.mpr ⟨rfl,(KD _)⟩) ["labels"] rfl (by decide +kernel) (List.forall_mem_cons.mpr ⟨(A6 rfl rfl (Or.inl rfl)),(KD _)⟩)) rfl (Cc K (Cj (by show B4 hr) (qv 1) (qv 0) (λ_ _=>rfl))) (λ_ _ _=>(A6 (Al (i:=0) (show List.Nodup (["led","labels"]:List Str)from by decide +kernel) rfl (Or.inl rfl)) (Lq (A2 (inK K) (qv 0) (qv 1) (by with_unfolding_all rfl))) (qv 0))))))))
   (Ai (A0 (X0 (N':=["label","inner"]) (n:=1) (js:=[2]) (FY.of "label" rfl rfl (by decide +kernel) (λ_ _=>rfl) (λ_=>rfl) (by decide +kernel) rfl (List.forall_mem_cons.mpr ⟨rfl,(KD _)⟩) ["inner"] rfl (by decide +kernel) (List.forall_mem_cons.mpr ⟨(C9 rfl rfl (Or.inl rfl) (by decide)),(KD _)⟩)) rfl (Cc K (qv 1)) (λ_ _ _=>(A6 (Al (i:=0) (show List.Nodup (["label","inner"]:List Str)from by decide +kernel) rfl (Or.inr rfl)) (Lq (Dy (Az (anyK K rfl) rfl T.n_any boot_any (Aa (Ck (N':=["led","label","inner"]) (n:=1) (js:=[0,1]) (AS.of rfl rfl (by decide) (by decide) rfl (List.forall_mem_cons.mpr ⟨rfl,(List.forall_mem_cons.mpr ⟨rfl,(KD _)⟩)⟩) ["label","inner"] rfl (by decide +kernel) (List.forall_mem_cons.mpr ⟨(A6 rfl rfl (Or.inl rfl)),(List.forall_mem_cons.mpr ⟨(A6 rfl rfl (Or.inl rfl)),(KD _)⟩)⟩)) rfl (Cc K (Cj (by show B4 hr) (qv 1) (qv 0) (λ_ _=>rfl))) (λ_ _ _=>(A6 (Al (i:=0) (show List.Nodup (["led","label","inner"]:List Str)from by decide +kernel) rfl (Or.inl rfl)) Bm (Pt (by show B4 hr) (qv 1) (Ax aM (rm hr) rfl (Aa (qv 2) (Aa (qv 0) (Aa C6 Ad)))))))) Ad)))) (qv 0))))))) ?_
  show Ac rfl (Bc lb rfl ⟨_,AK.of a2⟩ λD hD=>?_);show Jt (xs:=ls.map V.int) (λi ys σ H'=>(∃o,σ=[o,some (.ref d),some (.ref lb)])/\AA H H'/\H' D=some (.dK ys)/\ys.length<=i/\∀l∈ls.take i,∃p,Bt ys (Sum.inl l)=some (.ref p)/\H' p=some (.lst ((inn ls G l).map V.int))) hz (Fq ⟨_,rfl⟩ ((AA.refl H).upd hD) Ag (JN _) (by simp))
   (λi ys σ H' hi ⟨_,sm,hd,e,_⟩=>(A6 (AK.of (sm _ _ a2)) hd e)) ?_ ?_
  .rintro i y ys σ H' hy ⟨⟨o,rfl⟩,sm,hd,le,hm⟩;obtain⟨l,el,rfl⟩:∃l,ls[i]?=some l/\V.int l=y:=by simpa using hy
   have aA:l∈a7:=sub l (JJ el);show Am (gr.same sm) λkvs gd ga=>Am (ga l aA) λp ep gp=>?_;show Ac rfl (Ac rfl (Ac rfl (Aw d _ rfl (by rw[← ep];show AX.k (k:=Sum.inl l) gd) (Bc p rfl ⟨_,AK.of gp⟩ λD2 a4=>?_))));show R9 (λσ=>∃o,σ=[o,some (.ref lb)]) ((G l).map λq=>if q∈ls then some (V.int q)else none) gp (by rw[JR];show JU (h3 l aA) (by decide)) (by simp) a4 ⟨_,rfl⟩ (λj z o σ H2 R R' U ho hσ a6 k1 k2=>?_) λH3 Y a1=>?_
   .obtain⟨_,rfl⟩:=hσ;obtain⟨q,eq,rfl⟩:∃q,(G l)[j]?=some q/\V.int q=z:=by simpa using U
    rw[KP,eq]at ho;have ho:(if q∈ls then some (V.int q)else none)=o:=KC ho;show Ac rfl (Ac rfl (Ct lb _ rfl (.inl (AK.of (a6 _ _ (sm _ _ a2)))) rfl (Wg _) (Ac rfl ?_)));rw[show(if false=true then !IT (V.int q) (ls.map V.int)else IT (V.int q) (ls.map V.int))=decide (q∈ls)from Rx q ls];by_cases O:q∈ls
    .rw [KE O]at ho;rw[KH O];show Cq (Ac rfl (k1 _ _ _ ho.symm ⟨_,rfl⟩ (AA.refl _)))
    .rw [JW O]at ho;rw[KL O];show k2 _ _ ho.symm ⟨_,rfl⟩ (AA.refl _)
   .have e3:fm ((G l).map λq=>if q∈ls then some (V.int q)else none)=(inn ls G l).map V.int:=by
     unfold fm inn;rw[List.filterMap_map];generalize G l=al
     induction al with
     | nil=>rfl
     | cons q r ih=>
      rw[NL,NQ];by_cases O:q∈ls
      .simp only[Function.comp,id,KE O,KH O,if_true,LK];rw[← ih]
       try rfl
      .simp only[Function.comp,id,JW O,KL O];rw[JW (by simp)];show ih
    rw[e3]at a1;have aG:D2≠D:=λz=>by rw[z,hd]at a4;cases a4
    show Jn (Sum.inl l) rfl (Y _ _ hd) ⟨_,rfl⟩ (Ko (sm.trans Y) hD) Ag ⟨?_,λm aB=>?_⟩
    .have:=Bo ys (Sum.inl l) (V.ref D2);omega
    .rw [Cd];by_cases e:m=l
     .subst e;show Aq D2 (by rw[KE rfl]) (by rw[Ak aG];show a1)
     .rw [JW λz=>e (MI z)];rw[Bx el,KU]at aB;show Am (hm m (aB.resolve_right λz=>e (JY.mp z))) λp' e' g'=>Aq p' e' ?_;have g2:=Y _ _ g';rw[Ak (Bl g2 (Y _ _ hd) (by simp))];show g2
  .rintro ys σ H1 ⟨_,s1,hd,_,hm⟩;rw[JR,LG]at hm;have gi:GrD H1 D ls (inn ls G):=(Aq ys hd hm);have aD:=s1 _ _ a2;show Ac rfl (Bc lb rfl ⟨_,AK.of aD⟩ λD3 a8=>?_);show R9 (λσ=>∃o,σ=[o,some (.ref D)]) (List.replicate (ls.map V.int).length none) aD (by simp;omega) (by simp) a8 ⟨_,rfl⟩ (λi y o σ H' R R' U ho hσ sm k1 k2=>?_) λH' sm a1=>?_
   .obtain⟨_,rfl⟩:=hσ;obtain⟨l,el,rfl⟩:∃l,ls[i]?=some l/\V.int l=y:=by simpa using U
    have a5:l∈ls:=JJ el;show Am (gi.same sm) λkvs gd ga=>Am (ga l a5) λp ep gp=>?_;have aO:(inn ls G l).length<=3:=JU (List.length_filter_le _ _) (h3 l (sub l a5));show Ac rfl (Ac rfl (Aw D _ rfl (by rw[← ep];show AX.k (k:=Sum.inl l) gd) (Bc p rfl ⟨_,AK.of gp⟩ λD4 aF=>?_)));show R9 (λσ=>∃o,σ=[o,some (.int l),some (.ref D)]) ((List.replicate ((inn ls G l).map V.int).length (V.bl false)).map some) gp (by rw[JR];omega) (by simp) aF ⟨_,rfl⟩ (λj y o2 σ H2 R2 aN aJ aH aK a6 k3 k4=>?_) λH3 Y a9=>?_
    .obtain⟨_,rfl⟩:=aK;obtain⟨q,eq,rfl⟩:∃q,(inn ls G l)[j]?=some q/\V.int q=y:=by simpa using aJ
     obtain⟨aI,O⟩:=GQ.mp (JJ eq);show Ac rfl (Ac rfl (Ac rfl (B8 D ls (inn ls G) q _ rfl (.inl rfl) ((gi.same sm).same a6) O (λx _ y hy=>(GQ.mp hy).2) (A6 (λx U=>JU (List.length_filter_le _ _) (h3 x (sub x U))) hl λR m H5 hm s5 gm aL _=>Aw m _ rfl (AX.k (k:=Sum.inl l) gm) ?_))));have nl:l∉R:=λz=>by
      have:=aL (λx=>rk q<=rk x) (JN _) (λx U hs y hy=>JU hs (Nat.le_of_lt (aC x U y (GQ.mp hy).1))) l z;have h2:=aC l a5 q aI;omega
     rw[U2 nl];show k3 _ _ _ (getF aH) ⟨_,rfl⟩ s5
    .rw [Cp]at a9;show Aw D4 (List.replicate ((inn ls G l).map V.int).length false) rfl (AK.of (by rw[a9,NE])) (Ac rfl ?_);rw[Wt];show k2 _ _ (getN ho) ⟨_,rfl⟩ Y
   .rw [Ac1]at a1;show k D3 H' (s1.free a8) (s1.trans sm) a1
def FF:AB ["leads","labels","ringed","alone"] Ks (Af Ge):=⟨rfl,rfl,rfl,by decide +kernel,rfl,by decide +kernel,by decide +kernel⟩
def Re (F:AG K "ring_end" "ring_end" Ge f fd)(T:BK K mg t1 t2 t3 t4)(a4:AM P w K mg base 2 "leads_round" Ks spLr):AD P w K mg base AU 3 f fd Ks spRe:=by
 show F.At FF (λvs H Q E h=>?_) (λcdv A outer s H vs Q E hr h=>?_)
 . show M9 h λd O G lb ls z1 _=>?_;subst z1;rfl
 . show Nz h λd O G lb ls z1 Y a1 sub h3 z2=>B9 z2 λhl a2 k=>?_;subst z1;have nd:=FF.nd
   show Ac (Ae (A9 (i:=2) nd rfl (Or.inr rfl) (Ax a4 (rm hr) rfl (Aa (qv 0) (Aa (qv 1) Ad))))
     (Ae (Bh (A2 Bs (Az (Gq K) rfl T.AZ KQ (Aa (qv 2) Ad)) Ah (A1 _)) (Ai (A0 C6)) A4)
     (Ae Bd
     (Ai Bd)))) ?_
   show Ac rfl (Ac rfl (B8 d O G lb ls rfl Y a1 sub h3 (A6 hl a2 λr H1 a5 s1 U=>Ac rfl (Br r _ rfl (.inl (AK.of U)) rfl (Ac rfl (Cq (k H1 s1)))))))
def DT:AB BE BE (Af Eg):=⟨rfl,rfl,rfl,by decide +kernel,rfl,by decide +kernel,by decide +kernel⟩
def Nq (F:AG K "is_counted" "is_counted" Eg f fd)(T:BK K mg t1 t2 t3 t4):AD P w K mg base AU 1 f fd BE Xp:=by
 show F.At DT (λvs H Q E h=>?_) (λcdv A outer s H vs Q E hr h=>?_)
 .show Da h λns v b z1 _=>?_;subst z1;rfl
 .show Qn h λns v b z1 G rk hl k=>?_;subst z1;obtain⟨a,x,rfl,ha,a2,Y,U,he⟩:=G;have nd:=DT.nd;have lr:=L2.Paired.len U;show Ac (Ai (A0 (Az (anyK K rfl) rfl T.n_any boot_any (Aa (Ck (N':=["row"]) (n:=1) (AS.nil rfl (by decide) (by decide) (by decide) rfl) rfl (Be K (Ap (AT K) (qv 0) Ah (λ_ _=>rfl))) (λ_ _ _=>(A6 (Al (i:=0) (show List.Nodup (["row"]:List Str)from by decide +kernel) rfl (Or.inl rfl)) Bm (Cb (inK K) (Ap (AT K) (qv 0) Ah (λ_ _=>rfl)) (Bq (Aa Av (Aa Av Ad))) (by with_unfolding_all rfl))))) Ad)))) (Ac rfl (Bb a _ 2 _ rfl rfl (AC.of ha) rfl (Bc x.ra rfl ⟨_,AC.of Y⟩ λD hD=>Kk (λσ=>∃o,σ=[o]) ((b.rows.map λr=>V.bl (decide (r.op=("call":Str)))).map some) Y (by omega) (by simp[lr]) hD ⟨_,rfl⟩ (λi y o σ H' R R' hx ho hσ sm k1 k2=>?_) λH' sm hd=>?_)))
  .obtain⟨_,rfl⟩:=hσ;show Am (L2.Paired.at U hx) λr O z1=>B7 z1 λra rb G h1 _=>?_;subst G;rw[Wb O]at ho;have rk:=rk r (JJ O);show Ac rfl (B0 ra _ 1 _ rfl rfl (AC.of (sm _ _ h1)) rfl (zl 2) λq hq=>(Ct q _ rfl (.inr (AC.of Ag)) rfl rfl ?_));have a1:(if false=true then !IT (V.str r.op) [V.str "tick",V.str "call"] else IT (V.str r.op) [V.str "tick",V.str "call"])=decide (r.op="call"):=by
    cases rk<;>rfl
   rw[a1];show k1 _ _ _ (KC ho).symm ⟨_,rfl⟩ ((AA.refl _).upd hq)
  .rw [Cp]at hd;show Aw D (b.rows.map λr=>decide (r.op=("call":Str))) rfl (AK.of (by rw[hd,List.map_map];rfl)) ?_;have ea:(b.rows.map λr=>decide (r.op=("call":Str))).any id=!quiet b:=by
    unfold quiet;rw[List.any_map,List.not_all_eq_any_not]
    congr 1
    funext r;simp
   rw[ea];show k H' sm
def CA:AB ["function","labels","label","place"] AO (Af Db):=⟨rfl,rfl,rfl,by decide +kernel,rfl,by decide +kernel,by decide +kernel⟩
def Kt (F:AG K "look_at_rings" "look_at_rings" Db f fd)(aD:AM P w K mg base 1 "is_counted" BE Xp)(aB:AM P w K mg base 2 "leads_of" AO Lo)(aC:AM P w K mg base 3 "ring_end" Ks spRe):AD P w K mg base AU 4 f fd AO Dk:=by
 show F.At CA (λvs H Q E h=>?_) (λcdv A outer s H vs Q E Y h=>?_)
 . show Da h λns v fn z1 _=>?_;subst z1;rfl
 . show Jq h λns v fn z1 z2 O k=>?_;subst z1;obtain⟨a,x,rfl,ha,a7,a8,a1,pr⟩:=z2;have aA:EW H (.ref a) fn:=(D5 a x rfl ha a7 a8 a1 pr);have nd:=CA.nd;have lb:=L2.Paired.len pr;have aF:=O.le
   show Ac (Ae (Ix (i0:=1) nd rfl rfl rfl (N':=BE) (n:=1) (AS.nil rfl (by decide) (by decide) (by decide) rfl) rfl (Be K (Ap (AT K) (qv 0) Ah (λ_ _=>rfl))) (λ_ _ _=>(A6 (Al (i:=0) (show List.Nodup (BE:List Str)from by decide +kernel) rfl (Or.inl rfl)) (Lq (Gk (Dy (Ax aD (rm Y) rfl (Aa (qv 0) Ad))))) (Ap (AT K) (qv 0) Ah (λ_ _=>rfl)))))
     (Ae (A9 (i:=2) nd rfl (Or.inl rfl) (Ax aC (rm Y) rfl (Aa (Ax aB (rm Y) rfl (Aa (qv 0) Ad)) (Aa (qv 1) Ad))))
     (Ai (Bh (A2 Px (qv 2) C6 (A1 _)) (Ae Bd
     (Ai Bd)) A4)))) ?_
   show Ac rfl (Bb a _ 3 _ rfl rfl (AC.of ha) rfl (Bc x.ba rfl ⟨_,AC.of a1⟩ λD hD=>Kk (λσ=>∃o,σ=[o]) (fn.bl.map λb=>if quiet b=true then some (V.int b.lb)else none) a1 (by omega) (by simp[lb]) hD ⟨_,rfl⟩ (λi y o σ H' R R' hx ho hσ sm k1 k2=>?_) λH1 s1 hd=>?_))
   . obtain⟨_,rfl⟩:=hσ;show Am (L2.Paired.at pr hx) λb eb a4=>?_;have bk:=O.IU b (JJ eb);rw[KP,eb]at ho;have ho:(if quiet b=true then some (V.int b.lb)else none)=o:=KC ho;show Ac rfl (Ny ns y b rfl (a4.mono sm.AH) bk.rows bk.len λH2 s2=>(Ac rfl ?_))
     show if(!!quiet b)=true then _ else _
     rw[Bool.not_not];show B7 a4 λba z z1 U _=>?_;subst z1;by_cases G:quiet b=true
     . rw[KE G]at ho ⊢;show Ac rfl (Bb ba _ 0 _ rfl rfl (AC.of (s2 _ _ (sm _ _ U))) rfl (k1 _ _ _ ho.symm ⟨_,rfl⟩ s2))
     . rw[JW G]at ho ⊢;show k2 _ _ ho.symm ⟨_,rfl⟩ s2
   have e3:fm (fn.bl.map λb=>if quiet b=true then some (V.int b.lb)else none)=(((fn.bl.filter quiet).map (·.lb)).map V.int):=by
     unfold fm;rw[List.filterMap_map];generalize fn.bl=al
     induction al with
     | nil=>rfl
     | cons q r ih=>
       rw[NL,NQ];by_cases G:quiet q=true
       . simp only[Function.comp,id,KE G,LK];rw[← ih]
         try rfl
       . simp only[Function.comp,id,JW G];show ih
   rw[e3]at hd;show Ac rfl (Cr ns _ fn rfl (aA.mono s1.AH) O λa5 H2 hG s2 gr=>?_);obtain⟨rk,a9⟩:=O.rnk;show Ac rfl (B8 a5 (Ew fn) (Se fn) D ((fn.bl.filter quiet).map (·.lb)) rfl gr (s2 _ _ hd) (λl hl=>?_) (λl hl=>(O.cl l hl).2) (A6 ?_ ⟨rk,λl hl q G=>?_⟩ λH3 s3=>?_))
   . show Am (LC.mp hl) λb U z1=>?_;subst z1;show LO (OK.mp U).1
   . rw[JR];show JU (List.length_filter_le _ _) (by omega)
   . show Am (LC.mp hl) λb U z1=>?_;subst z1;obtain⟨a2,a6⟩:=OK.mp U;rw[Qt O.nd a2]at G;show a9 b a2 (Xu a6) q G
   . show A8 rfl rfl (Ac rfl (Fd (k H3 ((s1.trans s2).trans s3))))
end
end P2
namespace P2
open PySem PySem.Spec PyProof.Rows L2
noncomputable def gF (A pd:Addr):List (Str×V):=[("above",.ref A),("places",.ref pd)]
abbrev Ra:List Str:=["self","name","label","index"]
structure TxG (K:A3)(cG fA:Addr)(dA:FuncData):Prop where
 cl:HG K cG
 n1:AR K cG "above"
 n2:AR K cG "places"
 FM:EQ K cG "is_ahead" fA
 FS:Binds K dA Ra []
abbrev Mb:List Str:=["self","function"]
structure TxGm (K:A3)(mg:Bv)(cG:Addr)(dG:FuncData):Prop where
 g_Given:mg "Given"=some (.ref cG)
 b_Given:Binds K dG Mb []
def Zl (H:Hp)(kvs:List (Key×V))(b:MB)(n:Nat):Prop:=∀(j:Nat) (r:MR),j<n->b.rows[j]?=some r->∃t,Bt kvs (Sum.inl r.nm)=some (.ref t)/\H t=some (.tup [.int b.lb,.int ((j:Int)+1)])
structure Giv (cG:Addr)(f:MF)(x:Addr)(H:Hp):Prop where
 ex:∃dx A pd kvs akv,H x=some (.ins cG dx (gF A pd))/\H A=some (.dK akv)/\H pd=some (.dK kvs)/\Bt kvs (Sum.inl f.p)=some .AQ/\∀b∈f.bl,Zl H kvs b 100
def Giv.same (h:Giv cG f x H)(s:AA H H'):Giv cG f x H':=by
 obtain⟨dx,A,pd,kvs,akv,h1,h2,U,Y,h5⟩:=h;show⟨dx,A,pd,kvs,akv,s _ _ h1,s _ _ h2,s _ _ U,Y,λb hb j r hj e=>let ⟨t,G,O⟩:=h5 b hb j r hj e;(Aq t G (s _ _ O))⟩
def Af6 (cG:Addr):Sp:=λvs H Q _=>∃ns v f x dx,vs=[.ref x,v]/\H x=some (.ins cG dx [])/\EW H v f/\CH ns f/\∀H',Kp x H H'->Giv cG f x H'->Q .AQ H'
def spAh (cG:Addr):Sp:=λvs H Q _=>∃(f:MF) (x:Addr) (n l i:Int),vs=[.ref x,.int n,.int l,.int i]/\Giv cG f x H/\(n=f.p\/∃b∈f.bl,b.lb=l/\∃(j:Nat) (r:MR),b.rows[j]?=some r/\r.nm=n/\(j:Int)+1<=i/\j<100)/\Q (.bl true) H
def Kp.own (k:Kp x H H')(h:H x=some (.ins C dx fs)):CI H H':=λb xs e=>k b _ e (Bl e h (by simp))
def Rq {bl:List MB}{b:MB}{r:MR}{j:Nat}(G:b∈bl)(O:b.rows[j]?=some r):r.nm∈(bl.map B6).flatten:=by
 rw[List.mem_flatten];show Aq (B6 b) (LO G) (LO (JJ O))
section
variable {P:Program}{w:World}{K:A3}{mg:Bv}{base:Heap}{t1 t2 t3 t4:Tok}{aT aE cG fA fG:Addr}{dA dG:FuncData}{kT:List (Str×V)}
def DW:AB ["self","function","label","params","rows","end","name","index"] Mb (Af Eh):=⟨rfl,rfl,rfl,by decide +kernel,rfl,by decide +kernel,by decide +kernel⟩
def Nu (F:AG K "__init__" "Given.__init__" Eh f fd)(T:BK K mg t1 t2 t3 t4)(a2:TxG K cG fA dA)(ax:AM P w K mg base 3 "above_of" AO Pn)(aa:AM P w K mg base 1 "param_names" ["params"] Vp)(ay:AM P w K mg base 1 "row_names" ["rows"] Zq):AD P w K mg base AU 4 f fd Mb (Af6 cG):=by
 show F.At DW (λvs H Q E h=>?_) (λcdv A outer s H vs Q E hr h=>?_)
 . show M9 h λns v fn x dx z1 _=>?_;subst z1;rfl
 . show dd54 h λns v fn x dx z1 hx aU fk k=>?_;subst z1;have av:=aU;show Fs aU λa y z1 ha al am aR pr=>?_;subst z1;have nd:=DW.nd
   show Ac (Ae (Em (qv 0) (Ax ax (rm hr) rfl (Aa (qv 1) Ad)) rfl)
     (Ae (Em (qv 0) (Ig (N':=["name"]) (n:=1) (AS.nil rfl (by decide) (by decide) (by decide) rfl) rfl (Cc K (Ax aa (rm hr) rfl (Aa (Ap (AT K) (qv 1) Ah (λ_ _=>rfl)) Ad))) (λ_ _ _=>(C9 (Al (i:=0) (show List.Nodup (["name"]:List Str)from by decide +kernel) rfl (Or.inl rfl)) Bm (qv 0) C6))) rfl)
     (Ai (Bw JT rfl (Be K (Ap (AT K) (qv 1) Ah (λ_ _=>rfl))) (Bk K (n:=4) rfl (Ao (Al (i:=2) nd rfl (Or.inl rfl)) (Ao (Al (i:=3) nd rfl (Or.inl rfl)) (Ao (Al (i:=4) nd rfl (Or.inl rfl)) (Ao (Al (i:=5) nd rfl (Or.inl rfl)) Bj))))) (Ae (Bw JT rfl (Cc K (Ax aa (rm hr) rfl (Aa (qv 3) Ad))) (Al (i:=6) nd rfl (Or.inl rfl)) (Ai (Ft (B4 hr) (Ca K (qv 0) rfl) (qv 6) (Bq (Aa (qv 2) (Aa Ah Ad))) rfl)))
     (Ai (Bw JT rfl (Gv (b:=true) rfl T.AW (Aa (Ax ay (rm hr) rfl (Aa (qv 4) Ad)) Ad)) (Bk K (n:=2) rfl (Ao (Al (i:=7) nd rfl (Or.inl rfl)) (Ao (Al (i:=6) nd rfl (Or.inl rfl)) Bj))) (Ai (Ft (B4 hr) (Ca K (qv 0) rfl) (qv 6) (Bq (Aa (qv 2) (Aa (B1 Fb (qv 7) Ah) Ad))) rfl))))))))) ?_
   show Ac rfl (Cr ns _ fn rfl av fk λG akv H1 aj s1 gA=>Ac rfl (B0 x cG dx [] rfl (s1 _ _ hx) a2.cl a2.n1 (by decide) ?_));have aY:G≠x:=(Aj hx aj).symm;have k2:Kp x H (upd H1 x (.ins cG dx (C8 "above" (.ref G) []))):=λb o e n=>by rw[Ak n];show s1 b o e
   have ag:upd H1 x (.ins cG dx (C8 "above" (.ref G) [])) x=some (.ins cG dx (C8 "above" (.ref G) [])):=Ag;have aM:upd H1 x (.ins cG dx (C8 "above" (.ref G) [])) G=some (.dK akv):=by rw[Ak aY];show gA
   generalize upd H1 x (.ins cG dx (C8 "above" (.ref G) []))=H2 at *;have aK:=k2.own hx;show Ac rfl (Bb a _ 1 _ rfl rfl (AC.of (aK _ _ ha)) rfl (Br y.pa [fn.p] rfl (.one (aK _ _ al) (aK _ _ am)) (by simp) λl H3 hl s3 O=>(Bc l rfl ⟨_,AK.of O⟩ λpd a6=>Jt (xs:=[V.int fn.p]) (λi ys σ H'=>(∃o,σ=[o])/\AA H3 H'/\H' pd=some (.dK ys)/\ys.length<=i/\(i=1->Bt ys (Sum.inl fn.p)=some .AQ)) (zl 1) (Fq ⟨_,rfl⟩ ((AA.refl H3).upd a6) Ag (JN _) (by simp)) (λi ys σ H' hi ⟨_,sm,hd,e,_⟩=>(A6 (AK.of (sm _ _ O)) hd e)) ?_ ?_)))
   . rintro i z ys σ H' hz ⟨⟨o,rfl⟩,sm,hd,le,_⟩;have e0:z=.int fn.p:=by simpa using JJ hz
     subst e0;show Ac rfl (Jn (Sum.inl fn.p) rfl hd ⟨_,rfl⟩ (Ko sm a6) Ag ⟨?_,λ_=>by rw[Cd,KE rfl]⟩);have:=Bo ys (Sum.inl fn.p) V.AQ;omega
   rintro aX σ H4 ⟨_,s4,aN,aq,aH⟩;have aH:=aH rfl;have aP:=s4 _ _ (s3 _ _ ag);have ae:=s4 _ _ (s3 _ _ aM);have a4:pd≠x:=Bl aN aP (by simp);show Ac rfl (B0 x cG dx _ rfl aP a2.cl a2.n2 (by show 1<1000;decide) ?_);rw[show C8 "places" (.ref pd) (C8 "above" (.ref G) [])=gF G pd from rfl];have k5:Kp x H (upd H4 x (.ins cG dx (gF G pd))):=(k2.same (s3.trans s4)).wr;have aQ:upd H4 x (.ins cG dx (gF G pd)) x=some (.ins cG dx (gF G pd)):=Ag;have af:upd H4 x (.ins cG dx (gF G pd)) G=some (.dK akv):=by rw[Ak aY];show ae
   have aC:upd H4 x (.ins cG dx (gF G pd)) pd=some (.dK aX):=by rw[Ak a4];show aN
   have ac:H pd=none:=by
     have h3:H2 pd=none:=s3.free a6
     cases e:H pd with
     | none=>rfl
     | some u=>rw[k2 _ _ e a4]at h3;cases h3
   have ar:G≠pd:=(Aj (s3 _ _ aM) a6);generalize upd H4 x (.ins cG dx (gF G pd))=H5 at *;have aA:=k5.own hx;show Ac rfl (Bb a _ 3 _ rfl rfl (AC.of (aA _ _ ha)) rfl (Bc y.ba rfl ⟨_,AC.of (aA _ _ aR)⟩ (Hu (xs:=y.bs) (λi σ H'=>(∃o2 o3 o4 o5 U Y,σ=[some (.ref x),some (.ref a),o2,o3,o4,o5,U,Y])/\Kp pd H5 H'/\∃kvs,H' pd=some (.dK kvs)/\kvs.length<=1+((fn.bl.take i).map B6).flatten.length/\Bt kvs (Sum.inl fn.p)=some .AQ/\∀b∈fn.bl.take i,Zl H' kvs b 100) (A6 (En rfl) Kp.refl (Ep aX aC (by simpa using aq) aH (by simp))) (λi σ H' hi ⟨_,kp,_⟩=>AC.of (kp.tup aC _ _ (aA _ _ aR))) ?_ ?_)))
   . rintro i u σ H6 hu ⟨⟨o2,o3,o4,o5,U,Y,rfl⟩,a1,kvs,aD,aw,aG,a9⟩;have aB:CI H H6:=aA.trans (a1.tup aC);show Am (L2.Paired.at pr hu) λb eb z1=>Fs z1 λba z z2 hb ak ao au _=>?_;subst z2;have bk:=fk.IU b (JJ eb);show Br ba _ rfl (AC.of (aB _ _ hb)) rfl (Bg rfl (Bg rfl (Bg rfl (Bu rfl rfl (norm (σ':=[some (.ref x),some (.ref a),some (.int b.lb),some (.ref z.pa),some (.ref z.ra),some z.ev,U,Y]) rfl (Ac rfl (Br z.pa [] rfl (.nil (aB _ _ ak)) (by simp) λl H7 hl s7 O=>(Bc l rfl ⟨_,AK.of O⟩ (forL (λσ=>σ=[some (.ref x),some (.ref a),some (.int b.lb),some (.ref z.pa),some (.ref z.ra),some z.ev,U,Y]) O rfl (λi x σ H' hx=>by simp at hx) ?_)))))))));rintro σ H8 rfl s8;have s8:=s7.trans s8;show Ac rfl (Ny z.ra z.rs b.rows rfl (s8 _ _ (aB _ _ ao)) (L2.Paired.CT au (λ_ _ q=>q.mono (aB.trans s8.AH))) bk.len λl H9 hl s9 O=>?_);have s9:=s8.trans s9;have aO:=s9 _ _ aD;have aW:=a1.same s9;have nl:l≠pd:=Bl O aO (by simp);have ah:H9 x=_:=aW _ _ aQ a4.symm;have whole:=fk.nms;rw[Lv eb]at whole;have cnt:=fk.cnt;rw[Lv eb,JV,JV]at cnt;have as:∀c∈fn.bl.take i,Zl H9 kvs c 100:=λc hc j r hj e=>let ⟨t,e1,e2⟩:=a9 c hc j r hj e;(Aq t e1 (s9 _ _ e2))
     show Bc l rfl ⟨_,AK.of O⟩ (Kh (b:=true) (xs:=(B6 b).map V.int) (λj σ H'=>(∃U Y,σ=[some (.ref x),some (.ref a),some (.int b.lb),some (.ref z.pa),some (.ref z.ra),some z.ev,U,Y])/\Kp pd H9 H'/\∃kvs,H' pd=some (.dK kvs)/\kvs.length<=1+((fn.bl.take i).map B6).flatten.length+j/\Bt kvs (Sum.inl fn.p)=some .AQ/\(∀c∈fn.bl.take i,Zl H' kvs c 100)/\Zl H' kvs b j) (A6 (Cs rfl) Kp.refl (Qj kvs aO (by omega) aG as λj r hj=>absurd hj (by omega))) (λj σ H' hi ⟨_,kp,_⟩=>AK.of (kp _ _ O nl)) ?_ ?_)
     . rintro j v σ Ha p hv ⟨⟨U,Y,rfl⟩,a7,a8,aF,aZ,aL,aI,aJ⟩ hp;obtain⟨q,hq,rfl⟩:∃q,(B6 b)[j]?=some q/\V.int q=v:=by simpa using hv
       have hj:j<(B6 b).length:=(List.getElem?_eq_some_iff.mp hq).1;have qn:q∉fn.p::((fn.bl.take i).map B6).flatten++(B6 b).take j:=by
         show K0 (B:=(B6 b).drop (j+1)++((fn.bl.drop (i+1)).map B6).flatten) ?_;rw[show(fn.p::((fn.bl.take i).map B6).flatten++(B6 b).take j++q::((B6 b).drop (j+1)++((fn.bl.drop (i+1)).map B6).flatten))=fn.p::(((fn.bl.take i).map B6).flatten++((B6 b).take j++q::(B6 b).drop (j+1)++((fn.bl.drop (i+1)).map B6).flatten))by simp,← L0 hq];show whole
       simp only[List.cons_append,JS,KU,not_or]at qn;show B9 qn λq1 q2 q3=>Br p _ rfl (AC.of Ag) rfl (Bg rfl (Bu rfl rfl (norm (σ':=[some (.ref x),some (.ref a),some (.int b.lb),some (.ref z.pa),some (.ref z.ra),some z.ev,some (.int q),some (.int j)]) rfl (Ac rfl (Ac rfl (Ex rfl rfl (zl 2) λt ht=>?_))))));have sb:=((AA.refl Ha).upd (o:=.tup [.int j,.int q]) hp).upd (o:=.tup [.int b.lb,.int ((j:Int)+1)]) ht;have gt:upd (upd Ha p (.tup [.int j,.int q])) t (.tup [.int b.lb,.int ((j:Int)+1)]) t=some (.tup [.int b.lb,.int ((j:Int)+1)]):=Ag;generalize upd (upd Ha p (.tup [.int j,.int q])) t (.tup [.int b.lb,.int ((j:Int)+1)])=Hb at *;have a5:=sb _ _ aF;have ai:Hb x=_:=sb _ _ (a7 _ _ ah a4.symm);have ap:a8.length<sizeLine:=Iv (by omega);show Ac rfl (B8 x cG dx _ _ rfl ai a2.cl a2.n2 rfl (Ac rfl (Ct pd _ rfl (FH.k (k:=Sum.inl q) a5 ap) (Cs rfl) ((a7.same sb).wr) (jj14 Ag ?_ ?_ (λc hc j' r aS e=>?_) λj' r aS e=>?_))))
       . have:=Bo a8 (Sum.inl q) (V.ref t);omega
       . rw[Cd,JW λw=>q1 (MI w).symm];show aL
       . show Am (aI c hc j' r aS e) λt' e1 e2=>Aq t' ?_ ?_
         . rw[Cd,JW λw=>q2 (by rw[← MI w];show Rq hc e)];show e1
         . have e3:=sb _ _ e2;rw[Ak (Bl e3 a5 (by simp))];show e3
       . by_cases ej:j'=j
         . subst ej;have er:r.nm=q:=by
             unfold B6 at hq;rw[KP,e]at hq;show KC hq
           show Aq t (by rw[Cd,KE (by rw[er])]) ?_;rw[Ak (Bl gt a5 (by simp))];show gt
         . show Am (aJ j' r (by omega) e) λt' e1 e2=>Aq t' ?_ ?_
           . rw[Cd,JW λw=>q3 ?_]
             . show e1
             . rw[← MI w];have:(B6 b)[j']?=some r.nm:=by unfold B6;rw[KP,e];rfl
               show JJ (i:=j') (by rw[List.getElem?_take_of_lt (by omega)];show this)
           . have e3:=sb _ _ e2;rw[Ak (Bl e3 a5 (by simp))];show e3
     . rintro σ Ha ⟨⟨U,Y,rfl⟩,a7,a8,aF,aZ,aL,aI,aJ⟩;show A6 (En rfl) (aW.trans a7) (Ep a8 aF ?_ aL λc hc=>?_)
       . rw[JR]at aZ;rw[Bx eb,MA,List.flatten_append,JV];simp only[LK,List.map_nil,List.flatten_cons,List.flatten_nil,List.append_nil];omega
       . rw[Bx eb,KU]at hc
         rcases hc with hc|hc
         . show aI c hc
         . rw[JY.mp hc];intro j r _ e;show aJ j r ?_ e;rw[JR];unfold B6;rw[JR];show(List.getElem?_eq_some_iff.mp e).1
   . rintro σ H6 ⟨_,a1,kvs,aD,aw,aG,a9⟩;rw[L2.Paired.len pr,LG]at a9;show k H6 (λb o e n=>(a1 _ _ (k5 _ _ e n) (Aj e ac))) ⟨dx,G,pd,kvs,akv,a1 _ _ aQ a4.symm,a1 _ _ af ar,aD,aG,a9⟩
def BV:AB ["self","name","label","index","place"] Ra (Af C4):=⟨rfl,rfl,rfl,by decide +kernel,rfl,by decide +kernel,by decide +kernel⟩
def Ke (F:AG K "is_ahead" "Given.is_ahead" C4 f fd)(G:TxG K cG fA dA):AD P w K mg base AU 1 f fd Ra (spAh cG):=by
 show F.At BV (λvs H Q E h=>?_) (λcdv A outer s H vs Q E O h=>?_)
 . show M9 h λfn x n l i z1 _=>?_;subst z1;rfl
 . show dd53 h λfn x n l i z1 z2 hn k=>?_;subst z1;obtain⟨dx,Ab,pd,kvs,akv,U,hA,Y,hp,a2⟩:=z2;have nd:=BV.nd
   show Ac (Ae (Bh (Iw (B4 O) (qv 1) (Ca K (qv 0) rfl)) (Ai (A0 Hd)) A4)
     (Ae (A9 (i:=4) nd rfl (Or.inl rfl) (Cj (B4 O) (Ca K (qv 0) rfl) (qv 1) (λ_ _=>rfl)))
     (Ae (Bh (QW.pt (Uo (A2 Mi (qv 4) C6 (A1 _)) (Pr (Iw (B4 O) (qv 2) (Ca K (qv 0) rfl))))) (Ai (A0 Hd)) A4)
     (Ae (Bh (A2 Bs (Ap (AT K) (qv 4) Ah (λ_ _=>rfl)) (qv 2) (A1 _)) (Ai (A0 (Cb Ii (Ap (AT K) (qv 4) Ah (λ_ _=>rfl)) (qv 3) (A1 _)))) A4)
     (Ai (A0 (Pt (B4 O) (Ap (AT K) (qv 4) Ah (λ_ _=>rfl)) (Cj (B4 O) (Ca K (qv 0) rfl) (qv 2) (λ_ _=>rfl))))))))) ?_
   rcases hn with rfl|⟨b,hb,rfl,j,r,er,rfl,a1,hj⟩
   . show Ac rfl (Ac rfl (B8 x cG dx _ _ rfl U G.cl G.n2 rfl (Aw pd _ rfl (AX.k (k:=Sum.inl fn.p) Y) (Ac rfl ?_))));rw[hp];show Ac rfl (B8 x cG dx _ _ rfl U G.cl G.n2 rfl (Ac rfl (Aw pd _ rfl (by rw[← hp];show AX.k (k:=Sum.inl fn.p) Y) ?_)));show A8 rfl rfl (Ac rfl k)
   . show Am (a2 b hb j r hj er) λt e1 e2=>Ac rfl (Ac rfl (B8 x cG dx _ _ rfl U G.cl G.n2 rfl (Aw pd _ rfl (AX.k (k:=Sum.inl r.nm) Y) (Ac rfl ?_))));rw[e1];show Ac rfl (B8 x cG dx _ _ rfl U G.cl G.n2 rfl (Ac rfl (Aw pd _ rfl (by rw[← e1];show AX.k (k:=Sum.inl r.nm) Y) ?_)));show A8 rfl rfl (Ac rfl (Ac rfl (Ac rfl (B8 x cG dx _ _ rfl U G.cl G.n1 rfl (Aw Ab _ rfl (AX.k (k:=Sum.inl b.lb) hA) (Ac rfl (Nx (λ_=>k) (λ_=>?_))))))));show Ac rfl (Bb t _ 0 _ rfl rfl (AC.of e2) rfl (A8 rfl rfl (Ac rfl ?_)));rw[KH rfl];show Cq (Ac rfl (Bb t _ 1 _ rfl rfl (AC.of e2) rfl (Ac rfl (Bu rfl rfl ?_))))
     show Q (.bl (decide ((j:Int)+1<=i))) H
     rw[KH a1];show k
end
end P2
namespace P2
open PySem PySem.Spec PyProof.Rows L2
def Pm:Sp:=λvs H Q _=>∃ns v f b,vs=[v,.int b.lb]/\EW H v f/\CH ns f/\b∈f.bl/\∀u,FQ H u b->Q u H
section
variable {P:Program}{w:World}{K:A3}{mg:Bv}{base:Heap}{t1 t2 t3 t4:Tok}{aT aE cG fA fG:Addr}{dA dG:FuncData}{kT:List (Str×V)}
abbrev Oe:List Str:=["function","label"]
def FE:AB ["function","label","block"] Oe (Af Gi):=⟨rfl,rfl,rfl,by decide +kernel,rfl,by decide +kernel,by decide +kernel⟩
def Rj (F:AG K "block_of" "block_of" Gi f fd):AD P w K mg base AU 1 f fd Oe Pm:=by
 show F.At FE (λvs H Q E h=>?_) (λcdv A outer s H vs Q E hr h=>?_)
 .show Jp h λns v fn b z1 _=>?_;subst z1;rfl
 .show Lk h λns v fn b z1 z2 O U k=>?_;subst z1;obtain⟨a,x,rfl,ha,a7,a8,a1,Y⟩:=z2;have nd:=FE.nd
  show Ac (Ae (Bw JT rfl (Be K (Ap (AT K) (qv 0) Ah (λ_ _=>rfl))) (Al (i:=2) nd rfl (Or.inl rfl)) (Ai (Bh (A2 Bs (Ap (AT K) (qv 2) Ah (λ_ _=>rfl)) (qv 1) (A1 _)) (Ai (A0 (qv 2))) A4)))
   (Ai (A0 C6))) ?_
  show Ac rfl (Bb a _ 3 _ rfl rfl (AC.of ha) rfl (Bc x.ba rfl ⟨_,AC.of a1⟩ ?_));show Hu (xs:=x.bs) (λi σ H'=>(∃o,σ=[some (.ref a),some (.int b.lb),o])/\H'=H/\b∉fn.bl.take i) (A6 ⟨_,rfl⟩ rfl (by simp)) (λi σ H' hi ⟨_,e,_⟩=>by subst e;show AC.of a1) ?_ ?_
  .rintro i u σ H' hu ⟨⟨o,rfl⟩,rfl,hn⟩;show Am (L2.Paired.at Y hu) λc G a2=>?_;have a4:=a2;show B7 a2 λba y z1 a6 _=>?_;subst z1;show Ac rfl (Bb ba _ 0 _ rfl rfl (AC.of a6) rfl (A8 rfl rfl (Ac rfl ?_)));by_cases e:c.lb=b.lb
   .rw [KH (LR V.int e)];have a5:c=b:=by
     have h1:=Hf (show(fn.bl.map (·.lb)).Nodup from O.nd) U;have h2:=Hf (show(fn.bl.map (·.lb)).Nodup from O.nd) (JJ G);rw[e,h1]at h2;show(KC h2).symm
    rw[a5]at a4;show Cq (Ac rfl (k _ a4))
   .rw [KL λz=>e (V.int.inj z)];show A6 ⟨_,rfl⟩ rfl λz=>?_;rw[Bx G,KU]at z
    rcases z with z|z
    .show hn z
    .show e (by rw[JY.mp z])
  .rintro σ H' ⟨_,_,hn⟩;rw[L2.Paired.len Y,LG]at hn;show absurd U hn
def BI:AB ["function","given","label","params","rows","end","index","row","ahead","names","led","args"] AO (Af Cn):=⟨rfl,rfl,rfl,by decide +kernel,rfl,by decide +kernel,by decide +kernel⟩
def Jh (F:AG K "look_at_visible" "look_at_visible" Cn f fd)(T:BK K mg t1 t2 t3 t4)(a6:TxG K cG fA dA)(TM:TxGm K mg cG dG)(ak:Mk K cG fG)(aj:AD P w K mg base AU 4 fG dG Mb (Af6 cG))(aP:AD P w K mg base AU 1 fA dA Ra (spAh cG))(aO:AM P w K mg base 1 "want" J7 G6)(am:AM P w K mg base 1 "used_by" D9 Pi)(ao:AM P w K mg base 1 "ways_of" D9 Ib):AD P w K mg base AU 6 f fd AO Dk:=by
 show F.At BI (λvs H Q E h=>?_) (λcdv A outer s H vs Q E hr h=>?_)
 . show Da h λns v fn z1 _=>?_;subst z1;rfl
 . show Jq h λns v fn z1 z2 fk k=>?_;subst z1;obtain⟨a,x,rfl,ha,aZ,aa,a9,pr⟩:=z2;have ag:EW H (.ref a) fn:=(D5 a x rfl ha aZ aa a9 pr);have nd:=BI.nd
   show Ac (Ae (A9 (i:=1) nd rfl (Or.inr rfl) (J6 ak aj (rm hr) rfl TM.g_Given TM.b_Given .nil Fk (Aa (qv 0) Ad)))
     (Ai (Bw JT rfl (Be K (Ap (AT K) (qv 0) Ah (λ_ _=>rfl))) (Bk K (n:=4) rfl (Ao (Al (i:=2) nd rfl (Or.inr rfl)) (Ao (Al (i:=3) nd rfl (Or.inl rfl)) (Ao (Al (i:=4) nd rfl (Or.inr rfl)) (Ao (Al (i:=5) nd rfl (Or.inl rfl)) Bj))))) (Ae (Bw JT rfl (Gv (b:=false) rfl T.AW (Aa (qv 4) Ad)) (Bk K (n:=2) rfl (Ao (Al (i:=6) nd rfl (Or.inr rfl)) (Ao (Al (i:=7) nd rfl (Or.inl rfl)) Bj))) (Ae (Ix (i0:=8) nd rfl rfl rfl (N':=["name","given","label","index"]) (n:=1) (js:=[1,2,6]) (AS.of rfl rfl (by decide) (by decide) rfl (List.forall_mem_cons.mpr ⟨rfl,(List.forall_mem_cons.mpr ⟨rfl,(List.forall_mem_cons.mpr ⟨rfl,(KD _)⟩)⟩)⟩) ["label","index","given"] rfl (by decide +kernel) (List.forall_mem_cons.mpr ⟨(A6 rfl rfl (Or.inl rfl)),(List.forall_mem_cons.mpr ⟨(A6 rfl rfl (Or.inl rfl)),(List.forall_mem_cons.mpr ⟨(A6 rfl rfl (Or.inl rfl)),(KD _)⟩)⟩)⟩)) rfl (Be K (Ap (AT K) (qv 7) Ah (λ_ _=>rfl))) (λ_ _ _=>(A6 (Al (i:=0) (show List.Nodup (["name","given","label","index"]:List Str)from by decide +kernel) rfl (Or.inl rfl)) Bm (Gx (qv 1) a6.cl a6.FM aP (rm hr) a6.FS .nil Fk (Aa (qv 0) (Aa (qv 2) (Aa (qv 3) Ad)))))))
     (Ai (A7 (Ax aO (rm hr) rfl (Aa (Az (Ng K rfl) rfl T.CY OJ (Aa (qv 8) Ad)) (Aa Av (Aa (Bq (Aa (Ap (AT K) (qv 0) Ah (λ_ _=>rfl)) (Aa (qv 2) (Aa (qv 6) Ad)))) Ad))))))))
     (Ae (A9 (i:=9) nd rfl (Or.inl rfl) (Fy Qq rfl T.n_list boot_list (Aa (Ax am (rm hr) rfl (Aa (qv 5) Ad)) Ad)))
     (Ae (Bw JT rfl (Cc K (Ax ao (rm hr) rfl (Aa (qv 5) Ad))) (Bk K (n:=2) rfl (Ao (Al (i:=10) nd rfl (Or.inl rfl)) (Ao (Al (i:=11) nd rfl (Or.inl rfl)) Bj))) (Ai (A7 (Q7 MK PySem.F.slot_list_extend PySem.F.type_list_extend Tm (qv 9) (Aa (qv 11) Ad)))))
     (Ae (Ix (i0:=8) nd rfl rfl rfl (N':=["name","given","label","rows"]) (n:=1) (js:=[1,2,4]) (AS.of rfl rfl (by decide) (by decide) rfl (List.forall_mem_cons.mpr ⟨rfl,(List.forall_mem_cons.mpr ⟨rfl,(List.forall_mem_cons.mpr ⟨rfl,(KD _)⟩)⟩)⟩) ["rows","label","given"] rfl (by decide +kernel) (List.forall_mem_cons.mpr ⟨(A6 rfl rfl (Or.inl rfl)),(List.forall_mem_cons.mpr ⟨(A6 rfl rfl (Or.inl rfl)),(List.forall_mem_cons.mpr ⟨(A6 rfl rfl (Or.inl rfl)),(KD _)⟩)⟩)⟩)) rfl (Cc K (qv 9)) (λ_ _ _=>(A6 (Al (i:=0) (show List.Nodup (["name","given","label","rows"]:List Str)from by decide +kernel) rfl (Or.inl rfl)) Bm (Gx (qv 1) a6.cl a6.FM aP (rm hr) a6.FS .nil Fk (Aa (qv 0) (Aa (qv 2) (Aa (Az (Gq K) rfl T.AZ KQ (Aa (qv 3) Ad)) Ad)))))))
     (Ai (A7 (Ax aO (rm hr) rfl (Aa (Az (Ng K rfl) rfl T.CY OJ (Aa (qv 8) Ad)) (Aa Av (Aa (Bq (Aa (Ap (AT K) (qv 0) Ah (λ_ _=>rfl)) (Aa (qv 2) (Aa (Az (Gq K) rfl T.AZ KQ (Aa (qv 4) Ad)) Ad)))) Ad))))))))))))) ?_
   show Ac rfl λg dx hg aU IN=>?_;have aH:AA H (upd (upd H dx (.own g)) g (.ins cG dx [])):=λq u e=>by rw[Ak (Aj e hg),Ak (Aj e aU)];show e
   show Ad3 ns _ fn g dx rfl Ag (ag.mono aH.AH) fk λH1 ah aD=>⟨rfl,?_⟩;have s1:AA H H1:=λq u e=>ah _ _ (aH _ _ e) (Aj e hg);show Ac rfl (Bb a _ 3 _ rfl rfl (AC.of (s1 _ _ ha)) rfl (Bc x.ba rfl ⟨_,AC.of (s1 _ _ a9)⟩ (Lj (λσ=>∃o2 o3 o4 o5 U Y O o9 a1 a2,σ=[some (.ref a),some (.ref g),o2,o3,o4,o5,U,Y,O,o9,a1,a2]) (s1 _ _ a9) (En (Ac8 rfl)) ?_ (λσ H' _ sm=>k H' (s1.trans sm)))));rintro i u σ H2 hu ⟨o2,o3,o4,o5,U,Y,O,o9,a1,a2,rfl⟩ s2 N hN;have a7:=s1.trans s2;show Am (L2.Paired.at pr hu) λb eb z1=>Fs z1 λba y z2 hb ap a8 aI he=>?_;subst z2;have aA:=JJ eb;have bk:=fk.IU b aA;have lr:=L2.Paired.len aI;have bl:=bk.len;show Br ba _ rfl (AC.of (a7 _ _ hb)) rfl (Bg rfl (Bg rfl (Bg rfl (Bu rfl rfl (norm (σ':=[some (.ref a),some (.ref g),some (.int b.lb),some (.ref y.pa),some (.ref y.ra),some y.ev,U,Y,O,o9,a1,a2]) rfl (Ac rfl (Bc y.ra rfl ⟨_,AC.of (a7 _ _ a8)⟩ (Y5 (λσ=>∃U Y O,σ=[some (.ref a),some (.ref g),some (.int b.lb),some (.ref y.pa),some (.ref y.ra),some y.ev,U,Y,O,o9,a1,a2]) (a7 _ _ a8) (Ad0 rfl) ?_ ?_))))))))
   . rintro j u σ H3 q af ⟨U,Y,O,rfl⟩ s3 hq N' aS;have a4:=a7.trans s3;show Am (L2.Paired.at aI af) λr er z1=>B7 z1 λra rb z2 ae aG=>?_;subst z2;have hj:j<b.rows.length:=(List.getElem?_eq_some_iff.mp er).1;have al:r.args.length<=10:=by cases bk.rows r (JJ er)<;>simp
     show Br q _ rfl (AC.of hq) rfl (Bg rfl (Bu rfl rfl (norm (σ':=[some (.ref a),some (.ref g),some (.int b.lb),some (.ref y.pa),some (.ref y.ra),some y.ev,some (.int j),some (.ref ra),O,o9,a1,a2]) rfl (Ac rfl (Bb ra _ 3 _ rfl rfl (AC.of (a4 _ _ ae)) rfl (Bc rb rfl ⟨_,AC.of (a4 _ _ aG)⟩ λD hD=>?_))))));show Kk (λσ=>∃o,σ=[o,some (.ref g),some (.int b.lb),some (.int j)]) ((List.replicate (r.args.map V.int).length (V.bl true)).map some) (a4 _ _ aG) (by rw[JR];omega) (by simp) hD ⟨_,rfl⟩ (λi2 z o σ H4 R R' hx ho hσ sm k1 k2=>?_) λH4 s4 hd=>?_
     . obtain⟨_,rfl⟩:=hσ;obtain⟨n,en,rfl⟩:∃n,r.args[i2]?=some n/\V.int n=z:=by simpa using hx
       have aM:=((aD.same s2).same s3).same sm;show M9 aM.ex λaQ Ab pd kvs akv aW _=>?_;have aC:n=fn.p\/∃b'∈fn.bl,b'.lb=b.lb/\∃(G:Nat) (r':MR),b'.rows[G]?=some r'/\r'.nm=n/\(G:Int)+1<=(j:Int)/\G<100:=by
         rcases bk.vis j r er n (JJ en)with h|⟨G,q',h1,h2,h3⟩
         . show .inl h
         . show .inr (Bc b aA rfl (Br G q' h2 h3 (by omega) (by omega)))
       show Ac rfl (Cr g aQ _ rfl aW rfl (Ac rfl (Ac rfl (Ac rfl (ii53 fn g n b.lb (j:Int) rfl aM aC (k1 _ _ _ (Ry ho) ⟨_,rfl⟩ (AA.refl _)))))))
     . rw[Cp]at hd;show Ac rfl (Aw D (List.replicate (r.args.map V.int).length true) rfl (AK.of (by rw[hd,Fx])) (Ac rfl (Bb a _ 0 _ rfl rfl (AC.of (s4 _ _ (a4 _ _ ha))) rfl (Ac rfl (A8 rfl (zl 3) λp2 aB=>(Bg (wq Et) (aS _ _ (Ad0 rfl) ((s3.trans s4).upd aB))))))))
   . rintro σ H3 ⟨U,Y,O,rfl⟩ s3;have a4:=a7.trans s3;show Ac rfl (Aw _ b.fin rfl (he.mono a4.AH) λp H4 s4 hp=>(Aw p _ rfl (.inr (AC.of hp)) λl hl=>?_));have s5:=s4.upd (o:=.lst [.int (Fj b.fin)]) hl;have fl:H3 l=none:=s4.free hl;have gl:upd H4 l (.lst [.int (Fj b.fin)]) l=some (.lst [.int (Fj b.fin)]):=Ag;generalize upd H4 l (.lst [.int (Fj b.fin)])=H5 at *;have aJ:=a4.trans s5;show Ac rfl (Aw _ b.fin rfl (he.mono aJ.AH) λwl H6 aq s6 ⟨ws,hw,ai⟩=>(Bc wl rfl ⟨_,AK.of hw⟩ (Io (xs:=ws) (λj σ H'=>(∃a1 a2,σ=[some (.ref a),some (.ref g),some (.int b.lb),some (.ref y.pa),some (.ref y.ra),some y.ev,U,Y,O,some (.ref l),a1,a2])/\AA H6 H'/\H' l=some (.lst [.int (Fj b.fin)])) (A6 (Cs rfl) (AA.refl _) (s6 _ _ gl)) (λj σ H' hj ⟨_,sm,_⟩=>AK.of (sm _ _ hw)) ?_ ?_)))
     . rintro j z σ H7 hz ⟨⟨a1,a2,rfl⟩,s7,a5⟩;show Am (L2.Paired.at ai hz) λn en z1=>B7 z1 λp' q' z2 aY ac=>?_;subst z2;show Br p' _ rfl (AC.of (s7 _ _ aY)) rfl (Bg rfl (Bu rfl rfl (norm (σ':=[some (.ref a),some (.ref g),some (.int b.lb),some (.ref y.pa),some (.ref y.ra),some y.ev,U,Y,O,some (.ref l),some (.int n),some (.ref q')]) rfl (A8 rfl (.inl ⟨rfl,_,AK.of a5⟩) (Ac rfl (B0 l q' _ [] rfl rfl a5 (s7 _ _ ac) (zl 1) (A6 (Cs rfl) ?_ Ag)))))));intro c o e;by_cases ec:c=l
       . subst ec;rw[Ag];have:=s7 _ _ e;rw[a5]at this;rw[← this];rfl
       . rw[Ak ec];show s7 _ _ e
     . rintro σ H7 ⟨⟨a1,a2,rfl⟩,s7,a5⟩;have aK:=(aJ.trans s6).trans s7;show Ac rfl (Bc l rfl ⟨_,AK.of a5⟩ λD hD=>R9 (λσ=>∃o,σ=[o,some (.ref g),some (.int b.lb),some (.ref y.ra)]) ((List.replicate 1 (V.bl true)).map some) a5 (by simp) (by simp) hD ⟨_,rfl⟩ (λi2 z o σ H8 R R' hx ho hσ sm k1 k2=>?_) λH8 s8 hd=>?_)
       . obtain⟨_,rfl⟩:=hσ;have ez:z=.int (Fj b.fin):=by simpa using JJ hx
         subst ez;have aN:=((((aD.same s2).same s3).same s5).same (s6.trans s7)).same sm;show M9 aN.ex λaR Ab pd kvs akv aX _=>?_;have aC:Fj b.fin=fn.p\/∃b'∈fn.bl,b'.lb=b.lb/\∃(G:Nat) (r':MR),b'.rows[G]?=some r'/\r'.nm=Fj b.fin/\(G:Int)+1<=(y.rs.length:Int)/\G<100:=by
           rcases bk.use.2 with h|⟨q',h1,h2⟩
           . show .inl h
           . obtain⟨G,aF⟩:=OF h1;have:=(List.getElem?_eq_some_iff.mp aF).1;show .inr (Bc b aA rfl (Br G q' aF h2 (by omega) (by omega)))
         show Ac rfl (Cr g aR _ rfl aX rfl (Ac rfl (Ac rfl (Ac rfl (Aw y.ra _ rfl (.inr (AC.of (sm _ _ (aK _ _ a8)))) (ii53 fn g _ b.lb _ rfl aN aC (k1 _ _ _ (Ry ho) ⟨_,rfl⟩ (AA.refl _))))))))
       . rw[Cp]at hd;have aL:=aK.trans s8;show Ac rfl (Aw D [true] rfl (AK.of hd) (Ac rfl (Bb a _ 0 _ rfl rfl (AC.of (aL _ _ ha)) rfl (Ac rfl (Ac rfl (Br y.ra _ rfl (.inr (AC.of (aL _ _ a8))) (zl 3) λp2 aB=>(Bg (wq rfl) (hN _ _ (En (Ac8 rfl)) ((((((s2.trans s3).trans s5).trans s6).trans s7).trans s8).upd aB)))))))))
end
end P2
namespace L2
open PySem PySem.Spec PyProof.Rows
def Ur (G:Gl X x)(hm:X.mg x=some (.str y t))(hd:Di x:=by decide):QE X (.Name x pos) (tC (.str y)):=⟨Aa9 G hm hd⟩
def cmpZ {K:A3}{b c:Bool}{l1 l2 D:Addr}{xs zs:List V}{g:TG}{tt:TT}{te:TE}{σ0:St}{H:Hp}{Q:Hp->Prop}(Sg:St->Prop)(outs:List (Option V))(hx:xs.length<=1000)(a7:xs.length=zs.length)(ho:outs.length=xs.length)(hD:H D=none)(h0:Sg σ0)
   (hl:∀H',AA H H'->EL b K H' l1 xs/\EL c K H' l2 zs)
   (hs:∀(i:Nat) (x z:V) (o:Option V) (σ:St) (H':Hp) (p:Addr) (R:V->St->Hp->Prop) (R':St->Hp->Prop),xs[i]?=some x->zs[i]?=some z->outs[i]?=some o->Sg σ->AA H H'->H' p=some (.tup [x,z])->(∀y σ3 O,o=some y->Sg σ3->AA H' O->R y σ3 O)->(∀σ3 G,o=none->Sg σ3->AA H' G->R' σ3 G) ->
     g (.ref p) σ H' λσ3 H3=>tt σ3 H3 λok G=>if ok=true then te σ3 G λy O=>R y σ3 O else R' σ3 G)
   (hd:∀H',AA H H'->H' D=some (.lst (fm outs))->Q H') :
   ∃W:Nat->Nat->St->Hp->Prop,(∃m,W 0 m σ0 (upd H D (.lst [])))/\∀i m σ' H',W i m σ' H' ->
     ((Qu b c K l1 l2).stop i H'/\Q H')\/((Qu b c K l1 l2).go i H'/\∃(Ay:V->St->Hp->Prop) (An:St->Hp->Prop),(∀y σ3 O,Ay y σ3 O->∃ys,O D=some (.lst ys)/\ys.length<sizeLine/\∃Y,Y<m/\W (i+1) Y σ3 (upd O D (.lst (ys++[y])))) /\
       (∀σ3 G,An σ3 G->∃Y,Y<m/\W (i+1) Y σ3 G) /\
       ∀x H2,(Qu b c K l1 l2).DH i H' x H2->g x σ' H2 λσ3 H3=>tt σ3 H3 λok G=>if ok=true then te σ3 G (λy O=>Ay y σ3 O)else An σ3 G):=by
 show Aq (λi m σ H'=>m=xs.length-i/\i<=xs.length/\Sg σ/\AA H H'/\H' D=some (.lst (fm (outs.take i)))) (Qj xs.length (by simp) (LD _) h0 ((AA.refl H).upd hD) (by simp[fm,Ag])) ?_;rintro i m σ H' ⟨rfl,hi,sg,sm,a1⟩;obtain⟨qa,qb⟩:=hl H' sm;have a8:(fm (outs.take i)).length<=i:=JU (M5 _) (by rw[NC];show OM ..);by_cases a2:i<xs.length
 . have a6:i<zs.length:=by omega
   have a5:i<outs.length:=by omega
   have eo:outs[i]?=some outs[i]:=KG a5;have a9:(1000:Nat)<=sizeLine:=by decide
   show .inr ⟨(V9 xs zs (xs[i]) (zs[i]) qa qb (by simp[a2]) (by simp[a6])),(Aw (λy σ3 O=>outs[i]=some y/\Sg σ3/\AA H O/\O D=some (.lst (fm (outs.take i)))) (λσ3 G=>outs[i]=none/\Sg σ3/\AA H G/\G D=some (.lst (fm (outs.take i))))
     (λy σ3 O ⟨e,U,s5,d5⟩=>(A8 d5 (by omega) (Jn (xs.length-(i+1)) (by omega) rfl a2 U (Gu s5 hD) (by rw[Ag,Iz eo,e];rfl)))) (λσ3 G ⟨e,U,s4,d4⟩=>(Jn (xs.length-(i+1)) (by omega) rfl a2 U s4 (by rw[d4,Iz eo,e];simp))) λx H2 y=>?_)⟩
   . show Qn y λt x' z' ht z1 z2 e1 e2=>?_;subst z1 z2;have a4:(upd H' t (.tup [x',z'])) D=some (.lst (fm (outs.take i))):=by rw[Ak (Aj a1 ht)];show a1
     show hs i x' z' _ σ _ t _ _ (e1 xs qa) (e2 zs qb) eo sg (sm.upd ht) Ag (λy σ3 O e U s5=>(C9 e U ((sm.upd ht).trans s5) (s5 _ _ a4))) (λσ3 G e U s4=>(C9 e U ((sm.upd ht).trans s4) (s4 _ _ a4)))
 . have e:i=xs.length:=by omega
   subst e;rw[List.take_of_length_le (by omega)]at a1;show .inl ⟨(Aw xs zs qa qb (.inl (JN _))),hd H' sm a1⟩
end L2
namespace P2
open PySem PySem.Spec PyProof.Rows L2
structure TxK (mg:Bv)(t5 t6:Tok):Prop where
 g_ANY:mg "ANY"=some (.str "any" t5)
 g_RECORD:mg "RECORD"=some (.str "record" t6)
def Hds (H:Hp)(v:V)(p:List MF):Prop:=∃d kvs,v=.ref d/\H d=some (.dK kvs)/\∀f∈p,∃u,Bt kvs (Sum.inr f.nm)=some u/\EW H u f
def Hds.mono (h:Hds H v p)(s:AA H H'):Hds H' v p:=by
 show B7 h λd kvs e hd k=>?_;show Aw d kvs e (s _ _ hd) λf G=>let ⟨u,e,i⟩:=k f G;(Aq u e (i.mono s.AH))
noncomputable def nmF (f:MF):List Int:=f.p::(f.bl.map B6).flatten
def HD (kvs:List (Key×V))(ns:List Int):Prop:=∀n∈ns,Bt kvs (Sum.inl n)=some (V.int 0)
def spKG:Sp:=λvs H Q _=>∃v h r p,vs=[v,h]/\GH H v r/\DX (p.map (·.nm)) r/\Hds H h p/\Q (.int 0) H
def spLC:Sp:=λvs H Q _=>∃ns v f,vs=[v]/\EW H v f/\CH ns f/\∀D H',H D=none->AA H H'->H' D=some (.dK [])->Q (.ref D) H'
def Pj:Sp:=λvs H Q _=>∃v h f p,vs=[v,h]/\EW H v f/\CH (p.map (·.nm)) f/\Hds H h p/\∀D kvs H',H D=none->AA H H'->H' D=some (.dK kvs)->HD kvs (nmF f)->Q (.ref D) H'
def spOK:Sp:=λvs H Q _=>vs=[.int 0,.int 0]/\Q (.bl true) H
def Ul (K:A3):Sp:=λvs H Q _=>∃(a b d:Addr) (ns:List Int) (kvs:List (Key×V)),vs=[.ref a,.ref b,.ref d]/\H a=some (.tup (ns.map V.int))/\ns.length<=10/\(H b=some (.lst (List.replicate ns.length (.int 0)))\/∀H',AA H H'->AC K H' b (List.replicate ns.length (.int 0)))/\H d=some (.dK kvs)/\HD kvs ns/\∀H',AA H H'->Q (.bl true) H'
def Xk:Sp:=λvs H Q _=>∃(v h:V) (d:Addr) (r:MR) (p:List MF) (kvs:List (Key×V)),vs=[v,.ref d,h]/\GH H v r/\DX (p.map (·.nm)) r/\Hds H h p/\H d=some (.dK kvs)/\HD kvs r.args/\∀H',AA H H'->Q (.bl true) H'
def Xn:Sp:=λvs H Q _=>∃(ns:List Str) (v e:V) (d:Addr) (f:MF) (b:MB) (kvs:List (Key×V)),vs=[v,e,.ref d]/\EW H v f/\CH ns f/\b∈f.bl/\IsE H e b.fin/\H d=some (.dK kvs)/\HD kvs [Fj b.fin]/\∀H',AA H H'->Q (.bl true) H'
def L4:Sp:=λvs H Q _=>∃v h f p,vs=[v,h]/\EW H v f/\CH (p.map (·.nm)) f/\Hds H h p/\∀H',AA H H'->Q .AQ H'
def Pq (h:DX ns r):r.op≠"new"/\r.op≠"list"/\r.op≠"copy"/\r.op≠"get"/\r.op≠"set":=by cases h<;>(dsimp only;decide)
def eqS (h:x≠y):decide (V.str x=V.str y)=false:=KL λz=>h (V.str.inj z)
section
variable {P:Program}{w:World}{K:A3}{mg:Bv}{base:Heap}{t1 t2 t3 t4 t5 t6:Tok}{aT aE cG fA fG:Addr}{dA dG:FuncData}{kT:List (Str×V)}
abbrev Mc:List Str:=["row","heads"]
def DM:AB Mc Mc (Af Ee):=⟨rfl,rfl,rfl,by decide +kernel,rfl,by decide +kernel,by decide +kernel⟩
def Nn (F:AG K "kind_given" "kind_given" Ee f fd)(T:BK K mg t1 t2 t3 t4):AD P w K mg base AU 1 f fd Mc spKG:=by
 show F.At DM (λvs H Q E h=>?_) (λcdv A outer s H vs Q E hr h=>?_)
 . show Jp h λv h' r p z1 _=>?_;subst z1;rfl
 . show Lk h λv h' r p z1 G rk z3 k=>?_;subst z1;obtain⟨a,b,rfl,ha,hb⟩:=G;obtain⟨d,kvs,rfl,hd,hk⟩:=z3;have nd:=DM.nd;show B9 (Pq rk) λo1 o2 _=>?_
   show Ac (Ae (Bh (A2 Bs (Ap (AT K) (qv 0) Ah (λ_ _=>rfl)) Av (A1 _)) (Ai Bd) A4)
     (Ae (Bh (A2 Bs (Ap (AT K) (qv 0) Ah (λ_ _=>rfl)) Av (A1 _)) (Ai Bd) A4)
     (Ae (Bh (A2 Bs (Ap (AT K) (qv 0) Ah (λ_ _=>rfl)) Av (A1 _)) (Ai (A0 (Ap (AT K) (Cj (B4 hr) (qv 1) (Ap (AT K) (qv 0) Ah (λ_ _=>rfl)) (λ_ _=>rfl)) Ah (λ_ _=>rfl)))) A4)
     (Ai (A0 (Fu rfl T.EH)))))) ?_
   show Ac rfl (B0 a _ 1 _ rfl rfl (AC.of ha) rfl rfl (Ac rfl ?_));rw[eqS o1];show Ac rfl (B0 a _ 1 _ rfl rfl (AC.of ha) rfl rfl (Ac rfl ?_));rw[eqS o2];show Ac rfl (B0 a _ 1 _ rfl rfl (AC.of ha) rfl rfl (Ac rfl ?_));by_cases hc:r.op="call"
   . obtain⟨g,hg,ht⟩:∃g,g∈p.map (·.nm)/\r.told=.str g:=by
       cases rk with
       | call n x g h1 h2 Y=>show Aq g Y rfl
       | _=>show absurd hc (by dsimp only;decide)
     show Am (LC.mp hg) λfn a2 z1=>?_;subst z1;show Am (hk fn a2) λu U z1=>B7 z1 λO x G a1 _=>?_;subst G;rw[hc];show Cq (Ac rfl (Ac rfl (Bb a _ 2 _ rfl rfl (AC.of ha) rfl (Aw d (.ref O) rfl ?_ (Bb O _ 2 _ rfl rfl (AC.of a1) rfl k)))));rw[ht,← U];show AX.k (k:=Sum.inr fn.nm) hd
   . rw[eqS hc];show k
def BW:AB ["function","copied","sources","label","params","rows","end","index","row","met","name"] AO (Af Cz):=⟨rfl,rfl,rfl,by decide +kernel,rfl,by decide +kernel,by decide +kernel⟩
def Kb (F:AG K "look_at_copies" "look_at_copies" Cz f fd)(T:BK K mg t1 t2 t3 t4):AD P w K mg base AU 1 f fd AO spLC:=by
 show F.At BW (λvs H Q E h=>?_) (λcdv A outer s H vs Q E hr h=>?_)
 . show Da h λns v fn z1 _=>?_;subst z1;rfl
 . show Jq h λns v fn z1 G fk k=>?_;subst z1;obtain⟨a,x,rfl,ha,aF,aG,a5,pr⟩:=G;have nd:=BW.nd
   show Ac (Ae (Xw (i0:=1) nd rfl rfl rfl (N':=["block","row"]) (n:=2) (AS.nil rfl (by decide) (by decide) (by decide) rfl) rfl (Be K (Ap (AT K) (qv 0) Ah (λ_ _=>rfl))) (λ_ _ _=>(C9 (Al (i:=0) (show List.Nodup (["block","row"]:List Str)from by decide +kernel) rfl (Or.inl rfl)) (Be K (Ap (AT K) (qv 0) Ah (λ_ _=>rfl))) (Al (i:=1) (show List.Nodup (["block","row"]:List Str)from by decide +kernel) rfl (Or.inl rfl)) (Lq (A2 Bs (Ap (AT K) (qv 1) Ah (λ_ _=>rfl)) Av (A1 _))))))
     (Ae (A9 (i:=2) nd rfl (Or.inl rfl) Ie)
     (Ae (Bw JT rfl (Be K (Ap (AT K) (qv 0) Ah (λ_ _=>rfl))) (Bk K (n:=4) rfl (Ao (Al (i:=3) nd rfl (Or.inl rfl)) (Ao (Al (i:=4) nd rfl (Or.inl rfl)) (Ao (Al (i:=5) nd rfl (Or.inl rfl)) (Ao (Al (i:=6) nd rfl (Or.inl rfl)) Bj))))) (Ai (Bw JT rfl (Gv (b:=false) rfl T.AW (Aa (qv 5) Ad)) (Bk K (n:=2) rfl (Ao (Al (i:=7) nd rfl (Or.inl rfl)) (Ao (Al (i:=8) nd rfl (Or.inl rfl)) Bj))) (Ai (Bh (A2 Bs (Ap (AT K) (qv 8) Ah (λ_ _=>rfl)) Av (A1 _)) (Ae Bd
     (Ae Bd
     (Ae Bd
     (Ae Bd
     (Ai Bd))))) A4)))))
     (Ai (A0 (qv 2)))))) ?_
   show Ac rfl (Bb a _ 3 _ rfl rfl (AC.of ha) rfl (Bc x.ba rfl ⟨_,AC.of a5⟩ λD hD=>?_));have s0:AA H (upd H D (.dK [])):=(AA.refl H).upd hD;show Lj (D:={nx:=λ_ H'=>_,rt:=λ_ _=>False}) (tb:=Ad2 _ _ _) (λσ=>∃o1 o2,σ=[o1,o2]) (s0 _ _ a5) (Cs rfl) ?_ ?_
   . rintro i u σ H2 hu ⟨o1,o2,rfl⟩ s2 N hN;have Y:=s0.trans s2;show Am (L2.Paired.at pr hu) λb eb z1=>Fs z1 λba y G hb aC a2 aA he=>?_;subst G;have bk:=fk.IU b (JJ eb);show Ac rfl (Bb ba _ 2 _ rfl rfl (AC.of (Y _ _ hb)) rfl (Bc y.ra rfl ⟨_,AC.of (Y _ _ a2)⟩ (Lj (λσ=>∃o1 o2,σ=[o1,o2]) (Y _ _ a2) (Cs rfl) ?_ (λσ H3 sg s3=>hN _ _ sg (s2.trans s3)))));rintro j u σ H3 a9 ⟨o1,o2,rfl⟩ s3 N' a7;show Am (L2.Paired.at aA a9) λr er z1=>B7 z1 λra rb G a8 aD=>?_;subst G;show Ac rfl (B0 ra _ 1 _ rfl rfl (AC.of (s3 _ _ (Y _ _ a8))) rfl rfl (A8 rfl ?_ ?_))
     . show eqS (Pq (bk.rows r (JJ er))).2.2.1
     . show a7 _ _ (Cs rfl) s3
   . rintro σ H2 _ s2;have Y:=s0.trans s2;show λD2 aB=>?_;have a4:=Y.upd (o:=.dK []) aB;show Ac rfl (Bb a _ 3 _ rfl rfl (AC.of (a4 _ _ ha)) rfl (Bc x.ba rfl ⟨_,AC.of (a4 _ _ a5)⟩ (Lj (λσ=>∃o3 o4 o5 o6 O U o9 a1,σ=[some (.ref a),some (.ref D),some (.ref D2),o3,o4,o5,o6,O,U,o9,a1]) (a4 _ _ a5) (En (Cs rfl)) ?_ ?_)))
     . rintro i u σ H4 hu ⟨o3,o4,o5,o6,O,U,o9,a1,rfl⟩ s4 N hN;have a6:=a4.trans s4;show Am (L2.Paired.at pr hu) λb eb z1=>Fs z1 λba y G hb aC a2 aA he=>?_;subst G;have bk:=fk.IU b (JJ eb);show Br ba _ rfl (AC.of (a6 _ _ hb)) rfl (Bg rfl (Bg rfl (Bg rfl (Bu rfl rfl (norm (σ':=[some (.ref a),some (.ref D),some (.ref D2),some (.int b.lb),some (.ref y.pa),some (.ref y.ra),some y.ev,O,U,o9,a1]) rfl (Ac rfl (Bc y.ra rfl ⟨_,AC.of (a6 _ _ a2)⟩ (Y5 (λσ=>∃O U,σ=[some (.ref a),some (.ref D),some (.ref D2),some (.int b.lb),some (.ref y.pa),some (.ref y.ra),some y.ev,O,U,o9,a1]) (a6 _ _ a2) (Cs rfl) ?_ ?_))))))))
       . rintro j u σ H5 q a9 ⟨O,U,rfl⟩ s5 hq N' a7;show Am (L2.Paired.at aA a9) λr er z1=>B7 z1 λra rb G a8 aD=>?_;subst G;show Br q _ rfl (AC.of hq) rfl (Bg rfl (Bu rfl rfl (norm (σ':=[some (.ref a),some (.ref D),some (.ref D2),some (.int b.lb),some (.ref y.pa),some (.ref y.ra),some y.ev,some (.int j),some (.ref ra),o9,a1]) rfl (Ac rfl (B0 ra _ 1 _ rfl rfl (AC.of (s5 _ _ (a6 _ _ a8))) rfl rfl (Ac rfl ?_))))));rw[eqS (Pq (bk.rows r (JJ er))).2.2.1];show a7 _ _ (Cs rfl) s5
       . rintro σ H5 ⟨O,U,rfl⟩ s5;show hN _ _ (En (Cs rfl)) (s4.trans s5)
     . rintro σ H4 ⟨o3,o4,o5,o6,O,U,o9,a1,rfl⟩ s4;show Ac rfl (k D2 H4 (Y.free aB) (a4.trans s4) (s4 _ _ Ag))
abbrev Me:List Str:=["kind","wanted"]
def DU:AB Me Me (Af E2):=⟨rfl,rfl,rfl,by decide +kernel,rfl,by decide +kernel,by decide +kernel⟩
def Np (F:AG K "is_of_kind" "is_of_kind" E2 f fd)(T:BK K mg t1 t2 t3 t4)(G:TxK mg t5 t6):AD P w K mg base AU 1 f fd Me spOK:=by
 show F.At DU (λvs H Q E h=>?_) (λcdv A outer s H vs Q E O h=>?_)
 . obtain⟨rfl,_⟩:=h;rfl
 . obtain⟨rfl,k⟩:=h;have nd:=DU.nd
   show Ac (Ae (Bh (A2 Bs (qv 1) (Ur rfl G.g_ANY) (A1 _)) (Ai Bd) A4)
     (Ae (Bh (A2 Bs (qv 1) (Ur rfl G.g_RECORD) (A1 _)) (Ai Bd) A4)
     (Ai (A0 (Cb Bs (qv 0) (qv 1) (A1 _)))))) ?_
   show A8 rfl rfl (Ac rfl (A8 rfl rfl (Ac rfl (Ac rfl (A8 rfl rfl k)))))
abbrev Q8:List Str:=["args","wanted","kinds"]
def CK:AB Q8 Q8 (Af Dx):=⟨rfl,rfl,rfl,by decide +kernel,rfl,by decide +kernel,by decide +kernel⟩
abbrev GF:List Str:=["name","kind","kinds"]
def Le (F:AG K "are_of_kinds" "are_of_kinds" Dx f fd)(T:BK K mg t1 t2 t3 t4)(a1:AM P w K mg base 1 "is_of_kind" Me spOK):AD P w K mg base AU 2 f fd Q8 (Ul K):=by
 show F.At CK (λvs H Q E h=>?_) (λcdv A outer s H vs Q E U h=>?_)
 .show M9 h λa b d ns kvs z1 _=>?_;subst z1;rfl
 .show Nz h λa b d ns kvs z1 ha hl G hd z2=>?_;subst z1;obtain⟨h0,k⟩:=z2;have nd:=CK.nd
  rcases G with G|G
  .show Ac (Ai (A0 (Az (Ng K rfl) rfl T.CY OJ (Aa (Ck (N':=GF) (n:=2) (js:=[2]) (AS.of rfl rfl (by decide) (by decide) rfl (List.forall_mem_cons.mpr ⟨rfl,(KD _)⟩) ["kinds"] rfl (by decide +kernel) (List.forall_mem_cons.mpr ⟨(A6 rfl rfl (Or.inl rfl)),(KD _)⟩)) rfl (Ps (b:=false) (c:=true) rfl T.IL (Aa (qv 0) (Aa (qv 1) Ad))) (λ_ _ _=>(A6 (Bk K (n:=2) rfl (Ao (Al (i:=0) (show List.Nodup (GF:List Str)from by decide +kernel) rfl (Or.inl rfl)) (Ao (Al (i:=1) (show List.Nodup (GF:List Str)from by decide +kernel) rfl (Or.inl rfl)) Bj))) Bm (Ax a1 (rm U) rfl (Aa (Cj (by show B4 U) (qv 2) (qv 0) (λ_ _=>rfl)) (Aa (qv 1) Ad)))))) Ad)))) (Ac rfl (Ac rfl (Br a b rfl ⟨_,AC.of ha⟩ ⟨_,AK.of G⟩ λD hD=>?_)));show cmpZ (b:=false) (c:=true) (xs:=ns.map V.int) (zs:=List.replicate ns.length (.int 0)) (λσ=>∃o1 o2,σ=[o1,o2,some (.ref d)]) ((List.replicate ns.length (V.bl true)).map some) (by simp;omega) (by simp) (by simp) hD (Cs rfl) (λH' sm=>⟨AC.of (sm _ _ ha),AK.of (sm _ _ G)⟩) (λi x z o σ H' p R R' hx hz ho hσ sm hp k1 k2=>?_) λH' sm O=>?_
   .show G9 hσ λ_ _ z1=>?_;subst z1;obtain⟨n,Y,rfl⟩:∃n,ns[i]?=some n/\V.int n=x:=by simpa using hx
    have ez:z=.int 0:=(List.mem_replicate.mp (JJ hz)).2;subst ez;show Br p _ rfl (AC.of hp) rfl (Bg rfl (Bu rfl rfl ?_));show Ac rfl (Ac rfl (Aw d (.int 0) rfl (by rw[← h0 n (JJ Y)];show AX.k (k:=Sum.inl n) (sm _ _ hd)) (A8 rfl rfl (k1 _ _ _ (Ry ho) (Cs rfl) (AA.refl _)))))
   .rw [Cp]at O;show Aw D (List.replicate ns.length true) rfl (AK.of (by rw[O,Fx])) ?_;rw[Et];show k H' sm
  .show Ac (Ai (A0 (Az (Ng K rfl) rfl T.CY OJ (Aa (Ck (N':=GF) (n:=2) (js:=[2]) (AS.of rfl rfl (by decide) (by decide) rfl (List.forall_mem_cons.mpr ⟨rfl,(KD _)⟩) ["kinds"] rfl (by decide +kernel) (List.forall_mem_cons.mpr ⟨(A6 rfl rfl (Or.inl rfl)),(KD _)⟩)) rfl (Ps (b:=false) (c:=false) rfl T.IL (Aa (qv 0) (Aa (qv 1) Ad))) (λ_ _ _=>(A6 (Bk K (n:=2) rfl (Ao (Al (i:=0) (show List.Nodup (GF:List Str)from by decide +kernel) rfl (Or.inl rfl)) (Ao (Al (i:=1) (show List.Nodup (GF:List Str)from by decide +kernel) rfl (Or.inl rfl)) Bj))) Bm (Ax a1 (rm U) rfl (Aa (Cj (by show B4 U) (qv 2) (qv 0) (λ_ _=>rfl)) (Aa (qv 1) Ad)))))) Ad)))) (Ac rfl (Ac rfl (Br a b rfl ⟨_,AC.of ha⟩ ⟨_,G H (AA.refl H)⟩ λD hD=>?_)));show cmpZ (b:=false) (c:=false) (xs:=ns.map V.int) (zs:=List.replicate ns.length (.int 0)) (λσ=>∃o1 o2,σ=[o1,o2,some (.ref d)]) ((List.replicate ns.length (V.bl true)).map some) (by simp;omega) (by simp) (by simp) hD (Cs rfl) (λH' sm=>⟨AC.of (sm _ _ ha),G H' sm⟩) (λi x z o σ H' p R R' hx hz ho hσ sm hp k1 k2=>?_) λH' sm O=>?_
   .show G9 hσ λ_ _ z1=>?_;subst z1;obtain⟨n,Y,rfl⟩:∃n,ns[i]?=some n/\V.int n=x:=by simpa using hx
    have ez:z=.int 0:=(List.mem_replicate.mp (JJ hz)).2;subst ez;show Br p _ rfl (AC.of hp) rfl (Bg rfl (Bu rfl rfl ?_));show Ac rfl (Ac rfl (Aw d (.int 0) rfl (by rw[← h0 n (JJ Y)];show AX.k (k:=Sum.inl n) (sm _ _ hd)) (A8 rfl rfl (k1 _ _ _ (Ry ho) (Cs rfl) (AA.refl _)))))
   .rw [Cp]at O;show Aw D (List.replicate ns.length true) rfl (AK.of (by rw[O,Fx])) ?_;rw[Et];show k H' sm
end
end P2
namespace P2
open PySem PySem.Spec PyProof.Rows L2
def HD.put (h:HD ys l):HD (Ci ys (Sum.inl n) (V.int 0)) (l++[n]):=by
 intro m hm;rw[Cd];by_cases e:(Sum.inl m:Key)=Sum.inl n
 .rw [KE e]
 .rw [JW e]
  rcases KU.mp hm with z|z
  .show h m z
  .show absurd (by rw[JY.mp z]) e
def Wf {bl:List MB}{i:Nat}{b:MB}(h:bl[i]?=some b):((bl.take (i+1)).map B6).flatten=((bl.take i).map B6).flatten++B6 b:=by
 rw[Bx h];simp
section
variable {P:Program}{w:World}{K:A3}{mg:Bv}{base:Heap}{t1 t2 t3 t4 t5 t6:Tok}{aT aE cG fA fG:Addr}{dA dG:FuncData}{kT:List (Str×V)}
abbrev Lb:List Str:=["function","heads"]
def CW:AB ["function","heads","sources","kinds","label","params","rows","end","row","name","source"] Lb (Af Du):=⟨rfl,rfl,rfl,by decide +kernel,rfl,by decide +kernel,by decide +kernel⟩
def Mo (F:AG K "kinds_given" "kinds_given" Du f fd)(T:BK K mg t1 t2 t3 t4)(aP:AM P w K mg base 1 "look_at_copies" AO spLC)(aO:AM P w K mg base 1 "kind_given" Mc spKG):AD P w K mg base AU 2 f fd Lb Pj:=by
 show F.At CW (λvs H Q E h=>?_) (λcdv A outer s H vs Q E hr h=>?_)
 . show Jp h λv h' fn p z1 _=>?_;subst z1;rfl
 . show Lk h λv h' fn p z1 z2 fk aJ k=>?_;subst z1;obtain⟨a,x,rfl,ha,a7,a8,a4,pr⟩:=z2;have aN:EW H (.ref a) fn:=(D5 a x rfl ha a7 a8 a4 pr);have nd:=CW.nd;have aQ:=fk.le;have aK:=L2.Paired.len pr
   show Ac (Ae (A9 (i:=2) nd rfl (Or.inl rfl) (Ax aP (rm hr) rfl (Aa (qv 0) Ad)))
     (Ae (A9 (i:=3) nd rfl (Or.inl rfl) (Fy (Nd rfl) rfl T.ID boot_dict (Aa (Ap (AT K) (qv 0) Ah (λ_ _=>rfl)) Ad)))
     (Ae (Bw JT rfl (Be K (Ap (AT K) (qv 0) Ah (λ_ _=>rfl))) (Bk K (n:=4) rfl (Ao (Al (i:=4) nd rfl (Or.inl rfl)) (Ao (Al (i:=5) nd rfl (Or.inl rfl)) (Ao (Al (i:=6) nd rfl (Or.inl rfl)) (Ao (Al (i:=7) nd rfl (Or.inl rfl)) Bj))))) (Ae (A7 (Q7 PySem.F.plainAttrs_dict PySem.F.slot_dict_update PySem.F.type_dict_update V1 (qv 3) (Aa (Fy (Nd rfl) rfl T.ID boot_dict (Aa (qv 5) Ad)) Ad)))
     (Ai (Bw JT rfl (Be K (qv 6)) (Al (i:=8) nd rfl (Or.inl rfl)) (Ai (Ft (B4 hr) (qv 3) (Ap (AT K) (qv 8) Ah (λ_ _=>rfl)) (Ax aO (rm hr) rfl (Aa (qv 8) (Aa (qv 1) Ad))) rfl))))))
     (Ae (Bw JT rfl (Xx (qv 2)) (Bk K (n:=2) rfl (Ao (Al (i:=9) nd rfl (Or.inl rfl)) (Ao (Al (i:=10) nd rfl (Or.inl rfl)) Bj))) (Ai Bd))
     (Ai (A0 (qv 3))))))) ?_
   show Ac rfl (Cr _ _ fn rfl aN fk λG H1 aF s1 e1=>Ac rfl (Bb a _ 1 _ rfl rfl (AC.of (s1 _ _ ha)) rfl (Cr x.pa [.ref x.pp] [(Sum.inl fn.p,.int 0)] rfl (s1 _ _ a7) (.cons (Aq x.pp rfl (s1 _ _ a8)) .nil) λD hD=>?_)));have aG:H D=none:=s1.free hD;have nD:G≠D:=Aj e1 hD;have s2:AA H1 (upd H1 D (.dK (Fc [] [(Sum.inl fn.p,.int 0)]))):=(AA.refl H1).upd hD;show Ac rfl (Bb a _ 3 _ rfl rfl (AC.of (s2 _ _ (s1 _ _ ha))) rfl (Bc x.ba rfl ⟨_,AC.of (s2 _ _ (s1 _ _ a4))⟩ ?_));show Hu (xs:=x.bs) (λi σ H'=>∃ys,(∃o4 o5 o6 o7 O U Y,σ=[some (.ref a),some h',some (.ref G),some (.ref D),o4,o5,o6,o7,O,U,Y])/\AA H1 H'/\H' D=some (.dK ys)/\ys.length<=1+10*i/\HD ys (fn.p::((fn.bl.take i).map B6).flatten))
     (jj14 (En ⟨_,rfl⟩) s2 Ag (JN _) ?_) (λi σ H' hi ⟨_,_,sm,_⟩=>AC.of (sm _ _ (s1 _ _ a4))) ?_ ?_
   . intro n hn;simp at hn;subst hn
     show Bt (Ci [] (Sum.inl fn.p) (.int 0)) _=_
     rw[Cd,KE rfl]
   . rintro i u σ H3 hu ⟨ys,⟨o4,o5,o6,o7,O,U,Y,rfl⟩,s3,hd,hy,h0⟩;have aD:=s1.trans s3;show Am (L2.Paired.at pr hu) λb eb z1=>Fs z1 λba y z2 hb aH aA aC he=>?_;subst z2;have hi:i<10:=by have:=(List.getElem?_eq_some_iff.mp eb).1;omega
     have bk:=fk.IU b (JJ eb);have bl:=bk.len;have lr:=L2.Paired.len aC;show Br ba _ rfl (AC.of (aD _ _ hb)) rfl (Bg rfl (Bg rfl (Bg rfl (Bu rfl rfl (norm (σ':=[some (.ref a),some h',some (.ref G),some (.ref D),some (.int b.lb),some (.ref y.pa),some (.ref y.ra),some y.ev,O,U,Y]) rfl (A8 rfl (.inr (.inr (.inl ⟨rfl,.inl ⟨_,hd⟩⟩))) (Ac rfl (Cr y.pa [] [] rfl (aD _ _ aH) .nil λD3 a6=>?_))))))));have aB:D≠D3:=Aj hd a6;show B0 D D3 ys [] rfl rfl aB (by rw[Ak aB];show hd) Ag ⟨JU (show ys.length+0<=101 by omega) (by decide),?_⟩;have s4:AA H1 (upd (upd H3 D3 (.dK [])) D (.dK ys)):=Gu (s3.upd a6) hD;show Ac rfl (Bc y.ra rfl ⟨_,AC.of (s4 _ _ (s1 _ _ aA))⟩ ?_);show Hu (xs:=y.rs) (λj σ H'=>∃ys,(∃O,σ=[some (.ref a),some h',some (.ref G),some (.ref D),some (.int b.lb),some (.ref y.pa),some (.ref y.ra),some y.ev,O,U,Y])/\AA H1 H'/\H' D=some (.dK ys)/\ys.length<=1+10*i+j/\HD ys (fn.p::(((fn.bl.take i).map B6).flatten++(b.rows.take j).map (·.nm))))
       (Qj ys ⟨_,rfl⟩ s4 Ag hy (by simpa using h0)) (λj σ H' hj ⟨_,_,sm,_⟩=>AC.of (sm _ _ (s1 _ _ aA))) ?_ ?_
     . rintro j u σ H5 aM ⟨zs,⟨O,rfl⟩,s5,a5,hz,a1⟩;show Am (L2.Paired.at aC aM) λr er z1=>B7 z1 λra rb z2 a9 aL=>?_;subst z2;have a2:=s1.trans s5;have hj:j<10:=by have:=(List.getElem?_eq_some_iff.mp er).1;omega
       show Ac rfl (Ac rfl (Bb _ _ r p rfl (Aw ra rb rfl (a2 _ _ a9) (a2 _ _ aL)) (bk.rows r (JJ er)) (aJ.mono a2) (Ac rfl (Ac rfl (Bb ra _ 0 _ rfl rfl (AC.of (a2 _ _ a9)) rfl (Aw D _ rfl (FH.k (k:=Sum.inl r.nm) a5 (NT (show zs.length<=120 by omega) (by decide))) (jj14 ⟨_,rfl⟩ (Gu s5 hD) Ag ?_ ?_)))))))
       . have:=Bo zs (Sum.inl r.nm) (V.int 0);omega
       . have:=a1.put (n:=r.nm);rw[Bx er];simpa using this
     . rintro σ H5 ⟨zs,⟨O,rfl⟩,s5,a5,hz,a1⟩;show Qj zs (En ⟨_,rfl⟩) s5 a5 (by omega) ?_;rw[Wf eb];rw[lr,LG]at a1;show a1
   . rintro σ H3 ⟨ys,⟨o4,o5,o6,o7,O,U,Y,rfl⟩,s3,hd,hy,h0⟩;show Ac rfl (Aw G [] rfl (s3 _ _ e1) λo=>?_);have s4:AA H (upd H3 G (.EM o (.dK []))):=Gu (s1.trans s3) aF;have aI:upd H3 G (.EM o (.dK [])) D=some (.dK ys):=by rw[Ak nD.symm];show hd
     show Wd (kvs:=[]) (λi σ H'=>σ=[some (.ref a),some h',some (.ref G),some (.ref D),o4,o5,o6,o7,O,U,Y]/\H'=upd H3 G (.EM o (.dK []))) ⟨rfl,rfl⟩ (λi σ H' hi ⟨_,e⟩=>by rw[e,Ag]) (λi k x σ H' p hk=>by simp at hk) ?_;rintro σ H' ⟨rfl,rfl⟩;show Ac rfl (k D ys _ aG s4 aI ?_);rw[aK,LG]at h0;show h0
abbrev Oj:List Str:=["row","kinds","heads"]
def BO:AB ["row","kinds","heads","name","op","told","args"] Oj (Af C0):=⟨rfl,rfl,rfl,by decide +kernel,rfl,by decide +kernel,by decide +kernel⟩
def Ji (F:AG K "is_row_of_kinds" "is_row_of_kinds" C0 f fd)(T:BK K mg t1 t2 t3 t4)(TT:TxT K w mg aT aE kT)(a2:AM P w K mg base 2 "are_of_kinds" Q8 (Ul K)):AD P w K mg base AU 3 f fd Oj Xk:=by
 show F.At BO (λvs H Q E h=>?_) (λcdv A outer s H vs Q E G h=>?_)
 . show dd61 h λv h' d r p kvs z1 _=>?_;subst z1;rfl
 . show dd65 h λv h' d r p kvs z1 U rk z3 hd z4=>?_;subst z1;obtain⟨a,b,rfl,ha,hb⟩:=U;obtain⟨Y,kh,rfl,a5,hk⟩:=z3;obtain⟨h0,k⟩:=z4;have nd:=BO.nd;have hl:r.args.length<=10:=by cases rk<;>simp
   show Ac (Ae (L8 (qv 0) (Bk K (n:=4) rfl (Ao (Al (i:=3) nd rfl (Or.inl rfl)) (Ao (Al (i:=4) nd rfl (Or.inl rfl)) (Ao (Al (i:=5) nd rfl (Or.inl rfl)) (Ao (Al (i:=6) nd rfl (Or.inl rfl)) Bj))))))
     (Ae (Bh (A2 Bs (qv 4) Av (A1 _)) (Ai (A0 (Ax a2 (rm G) rfl (Aa (qv 6) (Aa (Ck (N':=["param","kind"]) (n:=2) (AS.nil rfl (by decide) (by decide) (by decide) rfl) rfl (Be K (Ap (AT K) (Cj (B4 G) (qv 2) (qv 5) (λ_ _=>rfl)) Ah (λ_ _=>rfl))) (λ_ _ _=>(A6 (Bk K (n:=2) rfl (Ao (Al (i:=0) (show List.Nodup (["param","kind"]:List Str)from by decide +kernel) rfl (Or.inl rfl)) (Ao (Al (i:=1) (show List.Nodup (["param","kind"]:List Str)from by decide +kernel) rfl (Or.inl rfl)) Bj))) Bm (qv 1)))) (Aa (qv 1) Ad)))))) A4)
     (Ae (Bh (Gk (Dy (Ax a2 (rm G) rfl (Aa (qv 6) (Aa (Lr TT.GZ rfl TT.GV (qv 4) (λ_ _=>rfl)) (Aa (qv 1) Ad)))))) (Ai Bd) A4)
     (Ai (A0 (Xy (Cb (notInK K) (qv 4) (Bq (Aa Av (Aa Av Ad))) (by with_unfolding_all rfl)) (Dm (Cb Yp (qv 5) (Cj (B4 G) (qv 1) (Ap (AT K) (qv 6) Ah (λ_ _=>rfl)) (λ_ _=>rfl)) (A1 _))))))))) ?_
   show Ac rfl (Br a _ rfl (AC.of ha) rfl (Bg rfl (Bg rfl (Bg rfl (Bu rfl rfl (norm (σ':=[some (.ref a),some (.ref d),some (.ref Y),some (.int r.nm),some (.str r.op),some r.told,some (.ref b)]) rfl (A8 rfl rfl (Ac rfl ?_))))))));by_cases hc:r.op="call"
   . obtain⟨g,hg,ht,a9⟩:∃g,g∈p.map (·.nm)/\r.told=.str g/\r.args.length=1:=by
       cases rk with
       | call n x g h1 h2 h3=>show Bc g h3 rfl rfl
       | _=>show absurd hc (by dsimp only;decide)
     show Am (LC.mp hg) λfn a7 z1=>?_;subst z1;show Am (hk fn a7) λu eu z1=>Jr z1 λfa x U a6 a1 a8 _=>?_;subst U;rw[hc];show Cq (Ac rfl (Ac rfl (Ac rfl (Aw Y (.ref fa) rfl ?_ (Bb fa _ 1 _ rfl rfl (AC.of a6) rfl (Bc x.pa rfl ⟨_,AC.of a1⟩ λD hD=>?_))))))
     . rw[ht,← eu];show AX.k (k:=Sum.inr fn.nm) a5
     . show Kk (λσ=>∃o1 o2,σ=[o1,o2]) [some (.int 0)] a1 (by simp) (by simp) hD (Cs rfl) (λi2 z o σ H4 R R' hx ho hσ sm k1 k2=>?_) λH4 O a4=>?_
       . show G9 hσ λ_ _ z1=>?_;subst z1;have ez:z=.ref x.pp:=by simpa using JJ hx
         have eo:o=some (.int 0):=by simpa using JJ ho
         subst ez;show Br x.pp _ rfl (AC.of (sm _ _ a8)) rfl (Bg rfl (Bu rfl rfl (Ac rfl (k1 _ _ _ eo (Cs rfl) (AA.refl _)))))
       . show Ac rfl (B8 b D d r.args kvs rfl (O _ _ hb) hl (.inl ?_) (O _ _ hd) ⟨h0,λH5 s5=>k H5 (O.trans s5)⟩);rw[a4,a9];rfl
   . obtain⟨n,hm,hn⟩:∃n,(r.op,n)∈JF/\r.args.length=n:=by
       cases rk with
       | num=>show Aq 0 (by simp[JF]) rfl
       | eq=>show Aq 2 (by simp[JF]) rfl
       | sub=>show Aq 2 (by simp[JF]) rfl
       | out=>show Aq 1 (by simp[JF]) rfl
       | call=>show absurd rfl hc
     show Am (TT.has _ _ hm) λta aA aB=>?_;rw[eqS hc];show Ac rfl (Ac rfl (Aw r.op _ rfl aA (Ac rfl (B8 b ta d r.args kvs rfl hb hl (.inr λH' _=>by rw[hn];show aB H') hd ⟨h0,λH1 s1=>(Ac rfl (Fd (A:=_) (A8 rfl (zl 2) λq hq=>(Ct q _ rfl (.inr (AC.of Ag)) rfl rfl (Aq true ?_ (Cq (k _ (s1.upd hq))))))))⟩))));have hi:IT (V.str r.op) [V.str "get",V.str "set"]=false:=by
       cases rk with
       | call=>show absurd rfl hc
       | _=>rfl
     show V.bl (!IT (V.str r.op) [V.str "get",V.str "set"])=_
     rw[hi];rfl
abbrev Oo:List Str:=["function","end","kinds"]
def BN:AB ["function","end","kinds","wanted","label","args"] Oo (Af C3):=⟨rfl,rfl,rfl,by decide +kernel,rfl,by decide +kernel,by decide +kernel⟩
def Jj (F:AG K "is_end_of_kinds" "is_end_of_kinds" C3 f fd)(T:BK K mg t1 t2 t3 t4)(a6:AM P w K mg base 2 "are_of_kinds" Q8 (Ul K))(aK:AM P w K mg base 1 "used_by" D9 Pi)(aL:AM P w K mg base 1 "ways_of" D9 Ib)(aM:AM P w K mg base 1 "block_of" Oe Pm):AD P w K mg base AU 3 f fd Oo Xn:=by
 show F.At BN (λvs H Q E h=>?_) (λcdv A outer s H vs Q E Y h=>?_)
 . show Dl h λns v e d fn b z1=>Am z1 λkvs z2 _=>?_;subst z2;rfl
 . show Dl h λns v e d fn b z1=>Ad7 z1 λkvs z2 z3 fk a9 O z4=>B9 z4 λhd h0 k=>?_;subst z2;obtain⟨a,x,rfl,ha,aD,aF,a8,pr⟩:=z3;have aI:EW H (.ref a) fn:=(D5 a x rfl ha aD aF a8 pr);have nd:=BN.nd;have bk:=fk.IU b a9;obtain⟨G,us,wd,rfl,aB,aH⟩:∃(G:Addr) (us:List V) (wd:Str),e=.ref G/\H G=some (.tup us)/\atI us 0=some (.str wd):=by
     cases hf:b.fin with
     | br n l1 l2=>rw[hf]at O;show Gp O λG b1 c1 z1 h1 _=>?_;subst z1;show Qi G _ _ rfl h1 rfl
     | gv n=>rw[hf]at O;show Am O λG z1 h1=>?_;subst z1;show Qi G _ _ rfl h1 rfl
   show Ac (Ae (A9 (i:=3) nd rfl (Or.inl rfl) (Gm (A2 Bs (Ap (AT K) (qv 1) Ah (λ_ _=>rfl)) Av (A1 _)) (Ap (AT K) (qv 0) Ah (λ_ _=>rfl)) (Fu rfl T.EH)))
     (Ae (Bh (Gk (Dy (Ax a6 (rm Y) rfl (Aa (Ax aK (rm Y) rfl (Aa (qv 1) Ad)) (Aa (Bq (Aa (qv 3) Ad)) (Aa (qv 2) Ad)))))) (Ai Bd) A4)
     (Ae (Bw JT rfl (Cc K (Ax aL (rm Y) rfl (Aa (qv 1) Ad))) (Bk K (n:=2) rfl (Ao (Al (i:=4) nd rfl (Or.inl rfl)) (Ao (Al (i:=5) nd rfl (Or.inl rfl)) Bj))) (Ai (Bh (Gk (Dy (Ax a6 (rm Y) rfl (Aa (qv 5) (Aa (Ck (N':=["param","kind"]) (n:=2) (AS.nil rfl (by decide) (by decide) (by decide) rfl) rfl (Be K (Ap (AT K) (Ax aM (rm Y) rfl (Aa (qv 0) (Aa (qv 4) Ad))) Ah (λ_ _=>rfl))) (λ_ _ _=>(A6 (Bk K (n:=2) rfl (Ao (Al (i:=0) (show List.Nodup (["param","kind"]:List Str)from by decide +kernel) rfl (Or.inl rfl)) (Ao (Al (i:=1) (show List.Nodup (["param","kind"]:List Str)from by decide +kernel) rfl (Or.inl rfl)) Bj))) Bm (qv 1)))) (Aa (qv 2) Ad)))))) (Ai Bd) A4)))
     (Ai (A0 Hd))))) ?_
   show Ac rfl (B0 G _ 0 _ rfl rfl (AC.of aB) aH rfl (Ac rfl ?_));have wt:∃c:Bool,decide (V.str wd=V.str "give")=c:=⟨_,rfl⟩;obtain⟨c,hc⟩:=wt;rw[hc];have go:∀R:Prop,R->(if c=true then R else R):=λR r=>by cases c<;>show r
   have wn:∀(Z:V->Hp->Prop),Z (.int 0) H->(if c=true then tOp (rIxT K) (La 0) (tC (V.int 2)) [some (.ref a),some (.ref G),some (.ref d),none,none,none] H Z else tC (.int 0) [some (.ref a),some (.ref G),some (.ref d),none,none,none] H Z):=λZ z=>by
     cases c
     . show z
     . show Ac rfl (Bb a _ 2 _ rfl rfl (AC.of ha) rfl z)
   show wn _ ?_;show Ac rfl (Aw _ b.fin rfl O λp H1 s1 hp=>(A8 rfl (zl 1) λq hq=>(Ac rfl (B8 p q d [Fj b.fin] kvs rfl (by rw[Ak (Aj hp hq)];show hp) (by simp) (.inr λH' sm=>AC.of (sm _ _ Ag)) (by rw[Ak (Aj (s1 _ _ hd) hq)];show s1 _ _ hd) ⟨h0,λH2 s2=>(Ac rfl ?_)⟩))));have a2:AA H H2:=(s1.upd hq).trans s2;show Fd (A:=_) (Ac rfl (Aw _ b.fin rfl (O.mono a2.AH) λwl H3 aN s3 ⟨ws,hw,aJ⟩=>(Bc wl rfl ⟨_,AK.of hw⟩ ?_)));have a4:=a2.trans s3;show forL (λσ=>∃o4 o5,σ=[some (.ref a),some (.ref G),some (.ref d),some (.int 0),o4,o5]) hw (Cs rfl) ?_ (λσ H4 ⟨o4,o5,e⟩ U=>k H4 (a4.trans U));rintro j z σ H4 hz ⟨o4,o5,rfl⟩ U N hN;have a5:=a4.trans U;show Am (L2.Paired.at aJ hz) λn en z1=>B7 z1 λp' q' z2 aC aG=>?_;subst z2;show Am (LC.mp (List.mem_of_mem_tail (bk.led n (JJ en)))) λb2 a7 z1=>?_;subst z1;show Br p' _ rfl (AC.of (U _ _ aC)) rfl (Bg rfl (Bu rfl rfl (norm (σ':=[some (.ref a),some (.ref G),some (.ref d),some (.int 0),some (.int b2.lb),some (.ref q')]) rfl (Ac rfl (Ac rfl (Ac rfl (Bb ns _ fn b2 rfl (aI.mono a5.AH) fk a7 λu ⟨ba,y,eu,hb,a1,_⟩=>?_)))))));subst eu;show Bb ba _ 1 _ rfl rfl (AC.of hb) rfl (Bc y.pa rfl ⟨_,AC.of a1⟩ λD hD=>Kk (λσ=>∃o1 o2,σ=[o1,o2]) [] a1 (by simp) (by simp) hD (Cs rfl) (λi2 z o σ H4 R R' hx ho hσ sm k1 k2=>by simp at hx) λH5 s5 aA=>Ac rfl (B8 q' D d [] kvs rfl (s5 _ _ (U _ _ aG)) (by simp) (.inl aA) (s5 _ _ (a5 _ _ hd)) ⟨λn hn=>(by simp at hn),λH6 s6=>(Ac rfl (Fd (A:=_) (hN _ _ (Cs rfl) ((U.trans s5).trans s6))))⟩))
def BX:AB ["function","heads","kinds","label","params","rows","end","index","row"] Lb (Af Dd):=⟨rfl,rfl,rfl,by decide +kernel,rfl,by decide +kernel,by decide +kernel⟩
def Kv (F:AG K "look_at_kinds" "look_at_kinds" Dd f fd)(T:BK K mg t1 t2 t3 t4)(aA:AM P w K mg base 1 "want" J7 G6)(aJ:AM P w K mg base 2 "kinds_given" Lb Pj)(aL:AM P w K mg base 3 "is_row_of_kinds" Oj Xk)(aK:AM P w K mg base 3 "is_end_of_kinds" Oo Xn):AD P w K mg base AU 4 f fd Lb L4:=by
 show F.At BX (λvs H Q E h=>?_) (λcdv A outer s H vs Q E hr h=>?_)
 . show Jp h λv h' fn p z1 _=>?_;subst z1;rfl
 . show Lk h λv h' fn p z1 z2 fk a7 k=>?_;subst z1;obtain⟨a,x,rfl,ha,aC,aD,a2,pr⟩:=z2;have a9:EW H (.ref a) fn:=(D5 a x rfl ha aC aD a2 pr);have nd:=BX.nd
   show Ac (Ae (A9 (i:=2) nd rfl (Or.inl rfl) (Ax aJ (rm hr) rfl (Aa (qv 0) (Aa (qv 1) Ad))))
     (Ai (Bw JT rfl (Be K (Ap (AT K) (qv 0) Ah (λ_ _=>rfl))) (Bk K (n:=4) rfl (Ao (Al (i:=3) nd rfl (Or.inl rfl)) (Ao (Al (i:=4) nd rfl (Or.inl rfl)) (Ao (Al (i:=5) nd rfl (Or.inl rfl)) (Ao (Al (i:=6) nd rfl (Or.inl rfl)) Bj))))) (Ae (Bw JT rfl (Gv (b:=false) rfl T.AW (Aa (qv 5) Ad)) (Bk K (n:=2) rfl (Ao (Al (i:=7) nd rfl (Or.inl rfl)) (Ao (Al (i:=8) nd rfl (Or.inl rfl)) Bj))) (Ai (A7 (Ax aA (rm hr) rfl (Aa (Ax aL (rm hr) rfl (Aa (qv 8) (Aa (qv 2) (Aa (qv 1) Ad)))) (Aa Av (Aa (Bq (Aa (Ap (AT K) (qv 0) Ah (λ_ _=>rfl)) (Aa (qv 3) (Aa (qv 7) Ad)))) Ad)))))))
     (Ai (A7 (Ax aA (rm hr) rfl (Aa (Ax aK (rm hr) rfl (Aa (qv 0) (Aa (qv 6) (Aa (qv 2) Ad)))) (Aa Av (Aa (Bq (Aa (Ap (AT K) (qv 0) Ah (λ_ _=>rfl)) (Aa (qv 3) (Aa (Az (Gq K) rfl T.AZ KQ (Aa (qv 5) Ad)) Ad)))) Ad)))))))))) ?_
   show Ac rfl (Ac rfl (Bb _ _ fn p rfl a9 fk a7 λD kvs H1 hD s1 hd h0=>Ac rfl (Bb a _ 3 _ rfl rfl (AC.of (s1 _ _ ha)) rfl (Bc x.ba rfl ⟨_,AC.of (s1 _ _ a2)⟩ (Lj (λσ=>∃o3 o4 o5 o6 O U,σ=[some (.ref a),some h',some (.ref D),o3,o4,o5,o6,O,U]) (s1 _ _ a2) (En rfl) ?_ (λσ H' _ sm=>k H' (s1.trans sm)))))));rintro i u σ H2 hu ⟨o3,o4,o5,o6,O,U,rfl⟩ s2 N hN;have a1:=s1.trans s2;show Am (L2.Paired.at pr hu) λb eb z1=>Fs z1 λba y z2 hb aM a6 aI he=>?_;subst z2;have a4:=JJ eb;have bk:=fk.IU b a4;have a8:∀q∈b.rows,q.nm∈nmF fn:=λq hq=>by
     obtain⟨j,hj⟩:=OF hq;show KO _ (Rq a4 hj)
   show Br ba _ rfl (AC.of (a1 _ _ hb)) rfl (Bg rfl (Bg rfl (Bg rfl (Bu rfl rfl (norm (σ':=[some (.ref a),some h',some (.ref D),some (.int b.lb),some (.ref y.pa),some (.ref y.ra),some y.ev,O,U]) rfl (Ac rfl (Bc y.ra rfl ⟨_,AC.of (a1 _ _ a6)⟩ (Y5 (λσ=>∃O U,σ=[some (.ref a),some h',some (.ref D),some (.int b.lb),some (.ref y.pa),some (.ref y.ra),some y.ev,O,U]) (a1 _ _ a6) (Cs rfl) ?_ ?_))))))))
   . rintro j u σ H3 q aH ⟨O,U,rfl⟩ Y hq N' aB;have G:=a1.trans Y;show Am (L2.Paired.at aI aH) λr er z1=>B7 z1 λra rb z2 aF aG=>?_;subst z2;show Br q _ rfl (AC.of hq) rfl (Bg rfl (Bu rfl rfl (norm (σ':=[some (.ref a),some h',some (.ref D),some (.int b.lb),some (.ref y.pa),some (.ref y.ra),some y.ev,some (.int j),some (.ref ra)]) rfl (Ac rfl (Ac rfl (Ac rfl (Yz _ _ D r p kvs rfl (Aw ra rb rfl (G _ _ aF) (G _ _ aG)) (bk.rows r (JJ er)) (a7.mono G) ((s2.trans Y) _ _ hd) ⟨λn hn=>h0 n ?_,λH4 s4=>?_⟩)))))))
     . rcases bk.vis j r er n hn with e|⟨j',q',_,e1,e2⟩
       . rw[e];show LH
       . rw[← e2];show a8 _ (JJ e1)
     . show Ac rfl (Bb a _ 0 _ rfl rfl (AC.of (s4 _ _ (G _ _ ha))) rfl (Ac rfl (A8 rfl (zl 3) λp2 a5=>(Bg rfl (aB _ _ (Cs rfl) ((Y.trans s4).upd a5))))))
   . rintro σ H3 ⟨O,U,rfl⟩ Y;have G:=a1.trans Y;show Ac rfl (Ac rfl (Ac rfl (Fe _ _ _ D fn b (Jn kvs rfl (a9.mono G.AH) fk a4 (he.mono G.AH) (A6 ((s2.trans Y) _ _ hd) (λn hn=>h0 n ?_) λH4 s4=>?_)))))
     . rw[JY.mp hn]
       rcases bk.use.2 with e|⟨q',e1,e2⟩
       . rw[e];show LH
       . rw[← e2];show a8 _ e1
     . show Ac rfl (Bb a _ 0 _ rfl rfl (AC.of (s4 _ _ (G _ _ ha))) rfl (Ac rfl (Ac rfl (Br y.ra _ rfl (.inr (AC.of (s4 _ _ (G _ _ a6)))) (zl 3) λp2 a5=>(Bg rfl (hN _ _ (En rfl) (((s2.trans Y).trans s4).upd a5)))))))
end
end P2
namespace P2
open PySem PySem.Spec PyProof.Rows L2
def Rm {p:List MF}(h:(p.map (·.nm)).Nodup){c d:MF}(hc:c∈p)(hd:d∈p)(e:c.nm=d.nm):c=d:=by
 induction p with
 | nil=>simp at hc
 | cons x r G=>
  rw[LK,NH]at h
  rcases JS.mp hc with h1|h1<;>rcases JS.mp hd with h2|h2
  .rw [h1,h2]
  .show absurd (show x.nm∈r.map (·.nm)by rw[← h1,e];show LO h2) h.1
  .show absurd (show x.nm∈r.map (·.nm)by rw[← h2,← e];show LO h1) h.1
  .show G h.2 h1 h2
section
variable {P:Program}{w:World}{K:A3}{mg:Bv}{base:Heap}{t1 t2 t3 t4 t5 t6:Tok}{aT aE cG fA fG:Addr}{dA dG:FuncData}{kT:List (Str×V)}
def BS:AB ["program","function","heads"] Hy (Af Cy):=⟨rfl,rfl,rfl,by decide +kernel,rfl,by decide +kernel,by decide +kernel⟩
def Ka (F:AG K "look_at_middle" "look_at_middle" Cy f fd)(T:BK K mg t1 t2 t3 t4)(aF:AM P w K mg base 7 "look_at_form" Hy Iu)(aI:AM P w K mg base 6 "look_at_visible" AO Dk)(aG:AM P w K mg base 4 "look_at_kinds" Lb L4)(aH:AM P w K mg base 4 "look_at_rings" AO Dk):AD P w K mg base AU 8 f fd Hy Iu:=by
 show F.At BS (λvs H Q E h=>?_) (λcdv A outer s H vs Q E hr h=>?_)
 . show B5 h λv p z1 _=>?_;subst z1;rfl
 . show Fs h λv p z1 a5 hl EY aA z2=>?_;subst z1;obtain⟨fk,k⟩:=z2;have nd:=BS.nd;have aD:=a5;show B7 aD λa fs z1 ha pr=>?_;subst z1;have lv:=L2.Paired.len pr
   show Ac (Ae (A7 (Ax aF (rm hr) rfl (Aa (qv 0) Ad)))
     (Ae (Bw JT rfl (Be K (qv 0)) (Al (i:=1) nd rfl (Or.inl rfl)) (Ai (A7 (Ax aI (rm hr) rfl (Aa (qv 1) Ad)))))
     (Ae (J0 (i0:=2) nd rfl rfl rfl (N':=AO) (n:=1) (AS.nil rfl (by decide) (by decide) (by decide) rfl) rfl (Be K (qv 0)) (λ_ _ _=>(C9 (Al (i:=0) (show List.Nodup (AO:List Str)from by decide +kernel) rfl (Or.inl rfl)) Bm (Ap (AT K) (qv 0) Ah (λ_ _=>rfl)) (qv 0))))
     (Ae (Bw JT rfl (Be K (qv 0)) (Al (i:=1) nd rfl (Or.inl rfl)) (Ai (A7 (Ax aG (rm hr) rfl (Aa (qv 1) (Aa (qv 2) Ad))))))
     (Ai (Bw JT rfl (Be K (qv 0)) (Al (i:=1) nd rfl (Or.inl rfl)) (Ai (A7 (Ax aH (rm hr) rfl (Aa (qv 1) Ad)))))))))) ?_
   show Ac rfl (D5 _ p rfl a5 hl EY aA ⟨fk,λH1 s1=>Ac rfl (Bc a rfl ⟨_,AC.of (s1 _ _ ha)⟩ (Lj (λσ=>∃G o2,σ=[some (.ref a),G,o2]) (s1 _ _ ha) (Cs rfl) ?_ ?_))⟩)
   . rintro i u σ H2 Y ⟨G,o2,rfl⟩ s2 N hN;show Am (L2.Paired.at pr Y) λfn O U=>Ac rfl (Cr _ _ fn rfl (U.mono (s1.trans s2).AH) (fk fn (JJ O)) λH3 s3=>hN _ _ (Cs rfl) (s2.trans s3))
   rintro σ H2 ⟨G,o2,rfl⟩ s2;have a2:=s1.trans s2;show Ac rfl (Bc a rfl ⟨_,AC.of (a2 _ _ ha)⟩ λD hD=>?_);show Ga (xs:=fs) (λi ys σ H'=>(∃G,σ=[G])/\AA H2 H'/\H' D=some (.dK ys)/\ys.length<=i/\∀c∈p.take i,∃u,Bt ys (Sum.inr c.nm)=some u/\EW H u c) (JU (show fs.length<=10 by omega) (by decide)) (Fq ⟨_,rfl⟩ ((AA.refl H2).upd hD) Ag (JN _) (by simp))
     (λi ys σ H' hi ⟨_,sm,hd,e,_⟩=>(A6 (AC.of (sm _ _ (a2 _ _ ha))) hd e)) ?_ ?_
   . rintro i u ys σ H' Y ⟨⟨G,rfl⟩,sm,hd,le,hm⟩;show Am (L2.Paired.at pr Y) λfn O U=>?_;have aC:=U;show Fw U λfa y z1 hf aJ _=>?_;subst z1;have aB:=a2.trans sm;show Ac rfl (Bb fa _ 0 _ rfl rfl (AC.of (aB _ _ hf)) rfl (Ac rfl (Jn (Sum.inr fn.nm) rfl hd ⟨_,rfl⟩ (Ko sm hD) Ag ⟨?_,λc hc=>?_⟩)))
     . have:=Bo ys (Sum.inr fn.nm) (V.ref fa);omega
     . rw[Cd];rw[Bx O,KU]at hc;by_cases e:c.nm=fn.nm
       . rw[KE (LR _ e)];have a7:c∈p:=hc.elim (λz=>List.mem_of_mem_take z) λz=>by rw[JY.mp z];show JJ O
         rw[Rm EY a7 (JJ O) e];show Ac rfl aC
       . rw[JW λz=>e (Sum.inr.inj z)];show hm c (hc.resolve_right λz=>e (by rw[JY.mp z]))
   rintro a9 σ H3 ⟨_,s3,a6,_,cm⟩;rw[lv,LG]at cm;have a1:=a2.trans s3;have a8:Hds H3 (.ref D) p:=(Aw D a9 rfl a6 λc hc=>let ⟨u,e,i⟩:=cm c hc;(Aq u e (i.mono a1.AH)));show Ac rfl (Bc a rfl ⟨_,AC.of (a1 _ _ ha)⟩ (Lj (λσ=>∃G,σ=[some (.ref a),G,some (.ref D)]) (a1 _ _ ha) ⟨_,rfl⟩ ?_ ?_))
   . rintro i u σ H4 Y ⟨G,rfl⟩ s4 N hN;show Am (L2.Paired.at pr Y) λfn O U=>Ac rfl (Ac rfl (Bb _ _ fn p rfl (U.mono (a1.trans s4).AH) (fk fn (JJ O)) (a8.mono s4) λH5 s5=>hN _ _ ⟨_,rfl⟩ (s4.trans s5)))
   rintro σ H4 ⟨G,rfl⟩ s4;have a4:=a1.trans s4;show Ac rfl (Bc a rfl ⟨_,AC.of (a4 _ _ ha)⟩ (Lj (λσ=>∃G,σ=[some (.ref a),G,some (.ref D)]) (a4 _ _ ha) ⟨_,rfl⟩ ?_ (λσ H' _ sm=>k H' (a4.trans sm))));rintro i u σ H5 Y ⟨G,rfl⟩ s5 N hN;show Am (L2.Paired.at pr Y) λfn O U=>Ac rfl (Cr _ _ fn rfl (U.mono (a4.trans s5).AH) (fk fn (JJ O)) λH6 s6=>hN _ _ ⟨_,rfl⟩ (s5.trans s6))
end
end P2
namespace L2
open PySem PySem.Spec PyProof.Rows
noncomputable def Hid (c:Addr)(H:Hp):Hp:=λa=>if a=c then none else H a
def J3 (U:QE X o ta)(c:HG X.K C)(hm:EQ X.K C m f)(F:AD X.prog X.w X.K X.mg X.base CX k f fd ps sp)(Y:AV k X.A)(O:Binds X.K fd ps ds)(hd:AF dvs ds)(hx:Ev CX X E)
   (ht:eval (.Call (.Attribute o m apos) [] [] pos) X.env=(do
     let G ← eval o X.env
     standAt apos.atName
     let (f,first) ← holding [G] (getMethod G m pl)
     callWith pos f first (backTo pos (starEach [] X.env)) (backToKw pos (keywordEach [] X.env))):=by rfl) :
   QE X (.Call (.Attribute o m apos) [] [] pos) (Ue C m sp dvs E ta Q0):=⟨Yd U.go c hm F Y O hd hx ht⟩
def Kr {G:V->V->Hp->VK->Prop}(ha:QE X o ta)(O:QE X a1 U)(Y:InOp X op G):QS X (.AugAssign (.Attribute o f a2) op a1 pos) (Um X.K ta U G f):=⟨Vu ha.go O.go Y⟩
def Zx (T:EO X.K X.w a kvs)(G:Gl X x)(hm:X.mg x=some (.ref a))(hi:QE X i ty)(O:behindInMarks .In (.Name x p)=false:=by rfl)(U:Di x:=by decide):QT X (.Compare i [.In] [.Name x p] pos) (tB (Xd X.K a kvs ty)):=⟨Pu (Uv T G hm hi.go U) O⟩
end L2
namespace L2
open PySem PySem.Spec PyProof.Rows PySem.W
def S4 {P:Program}{w:World}{K:A3} :
  Km (Ru (HS P w) P w K mg base N qual scope f cd cl A outer s₀ H₀ E) E:=by
 intro pins σ H s a cls T dx I r da ha hH Y e
 show wpAny _ _ (leaving _ _) _ _ s
 unfold leaving;have a5:∀b o,s₀.heap.get? b=some o->b≠s₀.heap.objs.size:=λb o q=>JP (JL q);show JH (Kz I.ok.frames rfl I.stack r da λh' T' n a4=>?_);have fr:∀b,b∈CP (PySem.W.envX qual scope s₀.heap.objs.size f cd cl::outer)->b=s₀.heap.objs.size\/b∈CP outer:=λb G=>by
  have:=I.EN b G
  rcases JS.mp this with z|z
  .show .inl z
  .show .inr z
 have own:∀b,b∈CP outer->b∈CP (PySem.W.envX qual scope s₀.heap.objs.size f cd cl::outer):=λb G=>KO _ G;have nT:∀b o,s₀.heap.get? b=some o->T≠some b:=λb o q z=>by
  have this:s₀.heap.get? b=none:=(Y b z).1;rw[q]at this;cases this
 have na:∀b o,s₀.heap.get? b=some o->b≠a:=λb o q z=>by
  have this:s₀.heap.get? a=none:=ha;rw[z,this]at q;cases q
 have a1:s₀.heap.get? T'=none/\H T'=none:=by
  rcases n.new with z|z
  .show⟨I.HM rfl z,I.AJ.none_of z⟩
  .show Y T' z
 show B8 a cls T' dx H rfl I.os I.bare ⟨λb o q m G U=>?_,λb o q m G U=>?_,I.base.free,λb o q U=>?_,I.base.AH,I.base.DI,I.base.DJ⟩ (I.AJ.HI λb u o G q=>?_) (Qk n.rc a4 ha hH a1.1 ⟨a1.2,e⟩)
 .have O:=I.base.keep b o q m G U;show n.keep b o O (λz=>(fr b z).elim (a5 b o q) G) (na b o q) (nT b o q)
 .obtain⟨sl,O⟩:=I.base.slot b o q m G U;obtain⟨a2,q2⟩:=n.slot b _ O (own b G);show⟨a2,q2⟩
 .obtain⟨o',O⟩:=I.base.there b o q U;by_cases G:b∈CP (PySem.W.envX qual scope s₀.heap.objs.size f cd cl::outer)
  .obtain⟨a2,q2⟩:=n.slot b _ O G;show⟨_,q2⟩
  .show⟨o',n.keep b o' O G (na b o q) (nT b o q)⟩
 .show n.keep b u q (λz=>?_) (λz=>?_) λz=>?_
  .rw [I.DG b z]at G;cases G
  .rw [z,hH]at G;cases G
  .rw [(Y b z).2]at G;cases G
def AG.okL {P:Program}{w:World}{K:A3}{mg:Bv}{base:Heap}{x qual:Str}{st:Stmt}{f:Addr}{fd:FuncData}{N ps:List Str}{k:Nat}{sp:Sp}(F:AG K x qual st f fd)(S:AB N ps (Af st))(len:∀vs H Q E,sp vs H Q E->vs.length=ps.length)
   (a1:∀(cdv:Value) (A:Around) (outer:List Env) (s:Shared) (H:Hp) (vs:List V) (Q:VK) (E:XK),fd.code=cdv->AV k (A.deeper (envOfC qual (Af st) s.heap.objs.size f cdv))->sp vs H Q E ->
     ∃t,IP (Na AU P w K mg base N qual (Af st) f cdv A outer s H E).nox (Ar st) t/\t {nx:=λ_ H'=>Q .AQ H',rt:=Q} (start N vs) H):AD P w K mg base AU (k+1) f fd ps sp:=by
 show Dl F.ex λoc od kV doc pm an z1=>Gp z1 λcdv ct osl O lk U=>?_;subst O;show Y6 lk U S len λA outer s H vs Q E G Y=>Am (a1 cdv A outer s H vs Q E rfl G Y) λt h q=>Aq t h.go.nox q
def As.look (C:As cl zs vs h H)(e:∀z,a1.lookup z=cl.lookup z):As a1 zs vs h H:=
 ⟨λi z v G O=>by rw[e];show C.at_ i z v G O,λz c q=>C.any z c (by rw[← e];show q),λy z c U Y=>C.inj y z c (by rw[← e];show U) (by rw[← e];show Y),C.len⟩
def Vs (F:FnBC X.prog X.w X.K X.mg X.base k x ps [z1,Y] sp)(hr:AV k X.A)(hg:Gl X x)(ha:QA X (e::es) t)
  (n1:X.N[j1]?=some z1)(n2:X.N[j2]?=some Y)(k1:X.env.kindOf z1=some .cell)(k2:X.env.kindOf Y=some .cell)(a2:∀z,cl.lookup z=X.env.cells.lookup z)(a1:Di x:=by decide)
  (he:Hc X e es:=by rfl)(a4:Hx X pos es:=by rfl):QE X (.Call (.Name x p) (e::es) [] pos) (tCallC cl j1 j2 sp t):=by
 show Fw F.ex λf fd U hm hk hb=>⟨λpins s σ H Q I h=>MS (Fv I hg hm (NS (h₀:=X.base) I.ok.mod.JB hk (AE (ha.go pos pins s σ H _ I h) λus s2 ⟨vs,H2,G,r,v1,v2,h1,h2,q⟩=>⟨G.CQ,?_⟩) he a4) a1)⟩;have hl:us.length=ps.length:=by rw[← r.length];show U.len _ _ _ _ _ _ q
 have bd:BindsTo s2 fd ⟨us,[]⟩ (ps.zip us):=by simpa using hb s2 us G.CQ (by simpa using hl)
 show OS (MH (U.run X.A X.stack s2 H2 ⟨us,[]⟩ us vs Q _ _ _ hr G.env0 bd r ((G.cells2 n1 n2 k1 k2 h1 h2).look a2) q) λres s' O=>?_)
 cases res with
 | error e=>show False.elim O
 | ok fl=>
  cases fl with
  | ret u=>show G.after O
  | next=>show False.elim O
  | brk=>show False.elim O
  | cont=>show False.elim O
def V3 (n:z1≠G)(z:Str):([(G,b),(z1,a)]:List (Str×Addr)).lookup z=[(z1,a),(G,b)].lookup z:=by
 simp only[KJ,List.lookup_nil];by_cases O:z=z1
 .subst O;rw[show(z==G)=false from by simpa using n]
 .rw [show(z==z1)=false from by simpa using O]
end L2
namespace P2
open PySem PySem.Spec PyProof.Rows L2
def spAs:Sp:=λvs H Q _=>∃b:Bool,vs=[.bl b]/\Q (.int (if b then 1 else 0)) H
def spWr:Sp:=λvs H Q _=>∃n:Int,vs=[.int n]/\0<=n/\n<=32767/\Q (.int n) H
def S0:Sp:=λvs H Q _=>∃a b:Int,vs=[.str "=",.int a,.int b]/\Q (.int (if a=b then 1 else 0)) H
noncomputable def rkv (op:Str)(a b:Int):Int:=if op="=" then(if a=b then 1 else 0)else a-b
def RkK (op:Str)(a b:Int):Prop:=op="="\/(op="-"/\0<=a-b/\a-b<=32767)
def Su:Sp:=λvs H Q _=>∃(op:Str) (l:Addr) (a b:Int),vs=[.str op,.ref l]/\H l=some (.lst [.int a,.int b])/\RkK op a b/\∀H',AA H H'->Q (.int (rkv op a b)) H'
structure Sg where
 ls:List Int
 tk:Nat
 wk:Nat
noncomputable def Xr (bd:Int)(tk wk:Nat)(lt:Addr):List (Str×V):=[("bound",.int bd),("ticks",.int tk),("work",.int wk),("letters",.ref lt)]
structure HL (cR:Addr)(bd:Int)(H:Hp)(r lt:Addr)(g:Sg):Prop where
 run:∃dx,H r=some (.ins cR dx (Xr bd g.tk g.wk lt))
 hl:H lt=some (.lst (g.ls.map V.int))
def HL.lr (h:HL cR bd H r lt g):lt≠r:=by
 obtain⟨dx,e⟩:=h.run;show Bl h.hl e (by simp)
def HL.same (h:HL cR bd H r lt g)(k:∀q u,H q=some u->q=r\/q=lt->H' q=some u):HL cR bd H' r lt g:=by
 obtain⟨dx,e⟩:=h.run;show⟨⟨dx,k _ _ e (.inl rfl)⟩,k _ _ h.hl (.inr rfl)⟩
def Vg (r lt:Addr)(H H':Hp):Prop:=∀q u,H q=some u->q≠lt->q≠r->H' q=some u
def Stop (cE:Addr)(E:XK)(H:Hp)(y p:V):Prop:=∀dx H',AA H H'->H' dx=some (.ext (XA dx [("end",y),("value",p)]))->E (.ref cE) (some dx) H'
abbrev Mf:List Str:=["self","end","value"]
structure TxE (K:A3)(mg:Bv)(cE fI:Addr)(dI:FuncData):Prop where
 g_E:mg "Ended"=some (.ref cE)
 ex:K2 K cE [.type "Exception",.type "BaseException",.type "object"] "Exception.__new__" fI=true
 fn:PySem.W.isFn K (.ref fI)=true
 bI:Binds K dI Mf []
 xm:XMk K cE
 n1:AR K cE "end"
 n2:AR K cE "value"
 xc:JA K cE
 hd:PySem.W.hasDictIn K cE=true
 mt:PySem.W.exmOne K (.ref cE) (.ref cE)=some true
abbrev Eo:List Str:=["self"]
structure TxR (K:A3)(cR fT:Addr)(dT:FuncData):Prop where
 cl:HG K cR
 n1:AR K cR "bound"
 n2:AR K cR "ticks"
 n3:AR K cR "work"
 n4:AR K cR "letters"
 GW:EQ K cR "count_tick" fT
 GX:Binds K dT Eo []
def spEn (cE:Addr):Sp:=λvs H Q _=>∃a y p,vs=[.ref a,y,p]/\H a=some (.ext (XN a (.ref cE) none))/\∀dx,H dx=none->dx≠a ->
 Q .AQ (upd (upd H a (.ext (XN a (.ref cE) (some dx)))) dx (.ext (XA dx [("end",y),("value",p)])))
def Af3 (cR:Addr):Sp:=λvs H Q _=>∃(x dx:Addr) (b:Int),vs=[.ref x,.int b]/\H x=some (.ins cR dx [])/\∀H' lt,H lt=none->(∀c u,H c=some u->c≠x->H' c=some u)->HL cR b H' x lt ⟨[],0,0⟩->Q .AQ H'
def Xj (cR cE:Addr):Sp:=λvs H Q E=>∃(r lt:Addr) (bd:Int) (g:Sg),vs=[.ref r]/\HL cR bd H r lt g/\(bd<=g.tk->Stop cE E H (.str "more") .AQ)/\((g.tk:Int)<bd->∀H',HL cR bd H' r lt {g with tk:=g.tk+1}->(∀q u,H q=some u->q≠r->H' q=some u)->Q .AQ H')
def Val (op:Str)(told:V)(zs:List V)(g:Sg)(v:Int)(g':Sg):Prop:=
 (op="num"/\told=.int v/\g'=g)\/(op="out"/\∃a,zs=[.int a]/\g.ls.length<100000/\v=0/\g'={g with ls:=g.ls++[a]})\/(∃a b,zs=[.int a,.int b]/\RkK op a b/\v=rkv op a b/\g'=g)
def Uh (cR:Addr)(op:Str):Sp:=λvs H Q _=>∃(r l lt:Addr) (told:V) (bd:Int) (zs:List V) (g:Sg) (v:Int) (g':Sg),vs=[.ref r,told,.ref l]/\H l=some (.lst zs)/\HL cR bd H r lt g/\Val op told zs g v g'/\∀H',HL cR bd H' r lt g'->(∀q u,H q=some u->q≠lt->H' q=some u)->Q (.int v) H'
def Ph (cR:Addr):Sp:=λvs H Q _=>∃(r l lt:Addr) (op:Str) (told:V) (bd:Int) (zs:List V) (g:Sg) (v:Int) (g':Sg),vs=[.ref r,.str op,told,.ref l]/\H l=some (.lst zs)/\HL cR bd H r lt g/\Val op told zs g v g'/\∀H',HL cR bd H' r lt g'->(∀q u,H q=some u->q≠lt->H' q=some u)->Q (.int v) H'
structure TxV (K:A3)(w:World)(mg:Bv)(aV f1 f2:Addr):Prop where
 HE:mg "VALUES"=some (.ref aV)
 vals:EO K w aV [("num",V.ref f1),("out",V.ref f2)]
 miss:∀op∈(["=","-"]:List Str),PySem.W.nsIn K aV op=some none
structure TxS (mg:Bv)(tS:Tok):Prop where
 g_SPAN:mg "SPAN"=some (.int 65536 tS)
def MVF (f1 f2:Addr)(h:Str)(f:Addr):Prop:=(h="num"/\f=f1)\/(h="out"/\f=f2)
def raised (st:Stop cE E H1 y p)(G:H1 a=none)(hd:upd H1 a (.ext (XN a (.ref cE) none)) dx=none)(ne:dx≠a):E (.ref cE) (some dx) (del (upd (upd (upd H1 a (.ext (XN a (.ref cE) none))) a (.ext (XN a (.ref cE) (some dx)))) dx (.ext (XA dx [("end",y),("value",p)]))) a):=by
 have O:H1 dx=none:=by rw[Ak ne]at hd;show hd
 show st dx _ (λb o q=>?_) ?_
 .have n1:b≠a:=Aj q G;have n2:b≠dx:=Aj q O;rw[Hv n1,Ak n2,Ak n1,Ak n1];show q
 .rw [Hv ne,Ag]
section
variable {P:Program}{w:World}{K:A3}{mg:Bv}{base:Heap}{t1 t2 t3 t4 tS:Tok}{cR cE fI fT aV:Addr}{dI dT:FuncData}
def S2:AB ["number"] ["number"] (Af Gb):=⟨rfl,rfl,rfl,by decide +kernel,rfl,by decide +kernel,by decide +kernel⟩
def Ta (F:AG K "wrapped" "wrapped" Gb f fd)(T:BK K mg t1 t2 t3 t4)(TS:TxS mg tS):AD P w K mg base AU 1 f fd ["number"] spWr:=by
 show F.At S2 (λvs H Q E h=>?_) (λcdv A outer s H vs Q E G h=>?_)
 .show Am h λn z1 _=>?_;subst z1;rfl
 .show Ad8 h λn z1 h1 h2 k=>?_;subst z1;show Ac (Ai (A0 (B1 Fb (B1 Hr (B1 Yn (qv 0) (Fu rfl T.GP)) (Fu rfl TS.g_SPAN)) (Fu rfl T.GP)))) ?_;show Ac rfl (Bu rfl rfl (Ex rfl rfl (by show(0:Int)<65536;decide) (Bu rfl rfl ?_)))
  show Q (V.int ((n - -32768)%65536+-32768)) H
  rw[show(n - -32768)%65536+-32768=n by omega];show k
def Po:AB ["truth"] ["truth"] (Af E8):=⟨rfl,rfl,rfl,by decide +kernel,rfl,by decide +kernel,by decide +kernel⟩
def P5 (F:AG K "as_number" "as_number" E8 f fd):AD P w K mg base AU 1 f fd ["truth"] spAs:=by
 show F.At Po (λvs H Q E h=>?_) (λcdv A outer s H vs Q E G h=>?_)
 .show Am h λn z1 _=>?_;subst z1;rfl
 .show Am h λb z1 k=>?_;subst z1;show Ac (Ai (A0 (Gm (Dy (qv 0)) Ah Ah))) (Ac rfl (Ac rfl ?_));cases b
  .show Fd k
  .show Cq k
abbrev Mg:List Str:=["op","first","second"]
def Q5:AB Mg Mg (Af E6):=⟨rfl,rfl,rfl,by decide +kernel,rfl,by decide +kernel,by decide +kernel⟩
def Ri (F:AG K "compared" "compared" E6 f fd)(O:AM P w K mg base 1 "as_number" ["truth"] spAs):AD P w K mg base AU 2 f fd Mg S0:=by
 show F.At Q5 (λvs H Q E h=>?_) (λcdv A outer s H vs Q E G h=>?_)
 . show B5 h λa b z1 _=>?_;subst z1;rfl
 . show B5 h λa b z1 k=>?_;subst z1
   show Ac (Ae (Bh (A2 Bs (qv 0) Av (A1 _)) (Ai Bd) A4)
     (Ae (Bh (A2 Bs (qv 0) Av (A1 _)) (Ai (A0 (Ax O (rm G) rfl (Aa (Cb Bs (qv 1) (qv 2) (A1 _)) Ad)))) A4)
     (Ae (Bh (A2 Bs (qv 0) Av (A1 _)) (Ai Bd) A4)
     (Ai Bd)))) ?_
   show A8 rfl rfl (Ac rfl (Fd (A:=_) (A8 rfl rfl (Ac rfl (Cq (Ac rfl (A8 rfl rfl (Ac rfl ?_))))))));by_cases e:a=b
   . rw[KH (LR V.int e)];rw[KE e]at k;show k
   . rw[KL λz=>e (V.int.inj z)];rw[JW e]at k;show k
def FG:AB ["op","args","first","second"] ["op","args"] (Af E1):=⟨rfl,rfl,rfl,by decide +kernel,rfl,by decide +kernel,by decide +kernel⟩
def Rf (F:AG K "reckoned" "reckoned" E1 f fd)(Y:AM P w K mg base 1 "wrapped" ["number"] spWr)(a1:AM P w K mg base 2 "compared" Mg S0):AD P w K mg base AU 3 f fd ["op","args"] Su:=by
 show F.At FG (λvs H Q E h=>?_) (λcdv A outer s H vs Q E O h=>?_)
 . show Jp h λop l a b z1 _=>?_;subst z1;rfl
 . show Qm h λop l a b z1 G rk k=>?_;subst z1;have nd:=FG.nd
   show Ac (Ae (A9 (i:=2) nd rfl (Or.inl rfl) (Ap Ls (qv 1) Ah (λ_ _=>rfl)))
     (Ae (Bh (A2 Bs (qv 0) Av (A1 _)) (Ai Bd) A4)
     (Ae (A9 (i:=3) nd rfl (Or.inl rfl) (Ap Ls (qv 1) Ah (λ_ _=>rfl)))
     (Ae (Bh (A2 Bs (qv 0) Av (A1 _)) (Ai Bd) A4)
     (Ae (Bh (A2 Bs (qv 0) Av (A1 _)) (Ai (A0 (Ax Y (rm O) rfl (Aa (B1 Yn (qv 2) (qv 3)) Ad)))) A4)
     (Ae (Bh (A2 Bs (qv 0) Av (A1 _)) (Ai Bd) A4)
     (Ae (Bh (A2 Ou (qv 0) (Bq (Aa Av (Aa Av Ad))) (by with_unfolding_all rfl)) (Ai Bd) A4)
     (Ai (A0 (Ax a1 (rm O) rfl (Aa (qv 0) (Aa (qv 2) (Aa (qv 3) Ad))))))))))))) ?_
   show Ac rfl (Bb l _ 0 _ rfl rfl (AK.of G) rfl ?_)
   rcases rk with rfl|⟨rfl,r1,r2⟩
   . show A8 rfl rfl (Ac rfl (Fd (A:=_) (Ac rfl (Bb l _ 1 _ rfl rfl (AK.of G) rfl (A8 rfl rfl (Ac rfl (Fd (A:=_) (A8 rfl rfl (Ac rfl (Fd (A:=_) (A8 rfl rfl (Ac rfl (Fd (A:=_) ?_)))))))))))));show A8 rfl (zl 2) λp U=>(Ct p _ rfl (.inr (AC.of Ag)) rfl rfl (Ac rfl (Fd (A:=_) (Ac rfl (Ac rfl (Ac rfl (Ce a b rfl (k _ ((AA.refl H).upd U)))))))))
   . show A8 rfl rfl (Ac rfl (Fd (A:=_) (Ac rfl (Bb l _ 1 _ rfl rfl (AK.of G) rfl (A8 rfl rfl (Ac rfl (Fd (A:=_) (A8 rfl rfl (Ac rfl (Cq (Ac rfl (Ac rfl (Bu rfl rfl (Ep (a-b) rfl r1 r2 (k H (AA.refl H))))))))))))))))
def DN:AB Mf Mf (Af Ek):=⟨rfl,rfl,rfl,by decide +kernel,rfl,by decide +kernel,by decide +kernel⟩
def Nw (F:AG K "__init__" "Ended.__init__" Ek f fd)(TE:TxE K mg cE fI dI):AD P w K mg base AU 1 f fd Mf (spEn cE):=by
 show F.At DN (λvs H Q E h=>?_) (λcdv A outer s H vs Q E G h=>?_)
 .show Da h λa y p z1 _=>?_;subst z1;rfl
 .show Gp h λa y p z1 ha k=>?_;subst z1;have nd:=DN.nd
  show Ac (Ae (Up (qv 0) (qv 1) rfl)
   (Ai (Up (qv 0) (qv 2) rfl))) ?_
  show Ac rfl (Ac rfl (Br a cE rfl TE.xm TE.n1 (.inl ⟨ha,λdx hd ne=>?_⟩)));show Ac rfl (Ac rfl (Br a cE rfl TE.xm TE.n2 (.inr (Br dx _ (by rw[Ak ne.symm,Ag]) Ag (by show 1<1000;decide) ?_))));rw[Gs];show k dx hd ne
def EZ:AB ["self","bound"] ["self","bound"] (Af Gd):=⟨rfl,rfl,rfl,by decide +kernel,rfl,by decide +kernel,by decide +kernel⟩
def Rl (F:AG K "__init__" "Run.__init__" Gd f fd)(G:TxR K cR fT dT):AD P w K mg base AU 1 f fd ["self","bound"] (Af3 cR):=by
 show F.At EZ (λvs H Q E h=>?_) (λcdv A outer s H vs Q E hr h=>?_)
 . show Da h λx dx b z1 _=>?_;subst z1;rfl
 . show Gp h λx dx b z1 Y k=>?_;subst z1;have nd:=EZ.nd
   show Ac (Ae (Em (qv 0) (qv 1) rfl)
     (Ae (Em (qv 0) Ah rfl)
     (Ae (Em (qv 0) Ah rfl)
     (Ai (Em (qv 0) (G7 Ad) rfl))))) ?_
   show Ac rfl (Ac rfl (B0 x cR dx [] rfl Y G.cl G.n1 (by decide) ?_));show Ac rfl (B0 x cR dx _ rfl Ag G.cl G.n2 (by show 1<1000;decide) ?_);rw[Gs];show Ac rfl (B0 x cR dx _ rfl Ag G.cl G.n3 (by show 2<1000;decide) ?_);rw[Gs];show⟨zl 0,λlt O=>?_⟩;have nx:lt≠x:=λz=>by rw[z,Ag]at O;cases O
   have U:H lt=none:=by rw[Ak nx]at O;show O
   show Ac rfl (B0 x cR dx _ rfl (by rw[Ak nx.symm,Ag]) G.cl G.n4 (by show 3<1000;decide) (k _ lt U (λc u e n=>?_) ⟨⟨dx,Ag⟩,?_⟩))
   . rw[Ak n,Ak (Aj e U),Ak n];show e
   . rw[Ak nx,Ag];rfl
def BR:AB Eo Eo (Af Cv):=⟨rfl,rfl,rfl,by decide +kernel,rfl,by decide +kernel,by decide +kernel⟩
def Kd (F:AG K "count_tick" "Run.count_tick" Cv f fd)(TE:TxE K mg cE fI dI)(FI:AD P w K mg base AU 1 fI dI Mf (spEn cE))(O:TxR K cR fT dT):AD P w K mg base (HS P w) 3 f fd Eo (Xj cR cE):=by
 show F.ok2 BR (λvs H Q E h=>?_) (λcdv A outer s H vs Q E hr h=>?_)
 .show Jp h λr lt bd g z1 _=>?_;subst z1;rfl
 .show Qm h λr lt bd g z1 G h1 h2=>?_;subst z1;have nd:=BR.nd;obtain⟨dx,U⟩:=G.run
  show Ac (Ae (Bh (A2 Ag0 (Ic (qv 0) rfl) (Ic (qv 0) rfl) (A1 _)) (Ai (Vr Hn rfl rfl PySem.F.excBase_Exception rfl TE.g_E TE.ex TE.fn FI TE.bI (rm hr) (Aa Av (Aa C6 Ad)))) A4)
   (Ai (Kr (qv 0) Ah Ty))) ?_
  show Ac rfl (B8 r cR dx _ _ rfl U O.cl O.n2 rfl (Ac rfl (B8 r cR dx _ _ rfl U O.cl O.n1 rfl (Bu rfl rfl (Ac rfl (Nx (λh=>?_) (λh=>?_)))))))
  .have Y:bd<=g.tk:=MX h;show⟨(zl 2),λy hy=>(Qi y _ _ rfl Ag λdx hd ne=>⟨rfl,(Aq (some dx) ?_ (raised (h1 Y) hy hd ne))⟩)⟩;rw[Ak ne.symm,Ag]
  .have Y:(g.tk:Int)<bd:=Int.not_le.mp λz=>h (KH z);show Ac rfl (B8 r cR dx _ _ rfl U O.cl O.n2 rfl (Bu rfl rfl (Aw dx _ U (by show 4<1000;decide) ?_)));show h2 Y _ ⟨⟨dx,Ag⟩,?_⟩ λq u e n=>by rw[Ak n];show e
   rw[Ak G.lr];show G.hl
abbrev J8:List Str:=["run","told","args"]
def Ni:AB J8 J8 (Af Eb):=⟨rfl,rfl,rfl,by decide +kernel,rfl,by decide +kernel,by decide +kernel⟩
def Nk (F:AG K "value_kept" "value_kept" Eb f fd):AD P w K mg base AU 1 f fd J8 (Uh cR "num"):=by
 show F.At Ni (λvs H Q E h=>?_) (λcdv A outer s H vs Q E U h=>?_)
 .show Dl h λr l lt told bd zs z1=>Da z1 λg v g' O _=>?_;subst O;rfl
 .obtain⟨r,l,lt,told,bd,zs,g,v,g',rfl,hl,G,h,k⟩:=h;obtain⟨rfl,rfl⟩:told=.int v/\g'=g:=by
   rcases h with⟨_,h⟩|⟨z,_⟩|⟨_,_,_,z|⟨z,_⟩,_⟩
   .show h
   all_goals show absurd z (by decide +kernel)
  show Ac (Ai (A0 (qv 1))) (Ac rfl (k H G λq u e _=>e))
def Do:AB J8 J8 (Af Ey):=⟨rfl,rfl,rfl,by decide +kernel,rfl,by decide +kernel,by decide +kernel⟩
def P0 (F:AG K "value_out" "value_out" Ey f fd)(O:TxR K cR fT dT):AD P w K mg base AU 1 f fd J8 (Uh cR "out"):=by
 show F.At Do (λvs H Q E h=>?_) (λcdv A outer s H vs Q E hr h=>?_)
 .show Dl h λr l lt told bd zs z1=>Da z1 λg v g' Y _=>?_;subst Y;rfl
 .obtain⟨r,l,lt,told,bd,zs,g,v,g',rfl,hl,G,h,k⟩:=h;obtain⟨a,rfl,hz,rfl,rfl⟩:∃a,zs=[.int a]/\g.ls.length<100000/\v=0/\g'={g with ls:=g.ls++[a]}:=by
   rcases h with⟨z,_⟩|⟨_,h⟩|⟨_,_,_,z|⟨z,_⟩,_⟩
   .show absurd z (by decide +kernel)
   .show h
   all_goals show absurd z (by decide +kernel)
  have nd:=Do.nd;have a1:(2000000:Nat)<=sizeLine:=by rw[NJ];omega
  obtain⟨dx,U⟩:=G.run
  show Ac (Ae (A7 (Q7 MK PySem.F.slot_list_append PySem.F.type_list_append Ov (Ic (qv 0) rfl) (Aa (Ap Ls (qv 2) Ah (λ_ _=>rfl)) Ad)))
   (Ai (A0 Ah))) ?_
  show Ac rfl (B8 r cR dx _ _ rfl U O.cl O.n4 rfl ⟨.inl ⟨rfl,_,AK.of G.hl⟩,(Ac rfl (Bb l _ 0 _ rfl rfl (AK.of hl) rfl (Ny lt _ _ rfl rfl G.hl ?_ ?_)))⟩)
  .rw [JR];omega
  .show k _ ⟨⟨dx,?_⟩,?_⟩ λq u e n1=>?_
   .rw [Ak G.lr.symm];show U
   .rw [Ag];simp
   .rw [Ak n1];show e
abbrev Op:List Str:=["run","op","told","args"]
def EU:AB ["run","op","told","args","action","number"] Op (Af Gc):=⟨rfl,rfl,rfl,by decide +kernel,rfl,by decide +kernel,by decide +kernel⟩
def Rc (F:AG K "value_of" "value_of" Gc f fd)(TE:TxE K mg cE fI dI)(FI:AD P w K mg base AU 1 fI dI Mf (spEn cE))(O:TxV K w mg aV f1 f2)(a2:AM P w K mg base 3 "reckoned" ["op","args"] Su)
   (a1:∀h g,MVF f1 f2 h g->∃fd,AD P w K mg base (HS P w) 4 g fd J8 (Uh cR h)/\PySem.W.keepIn K (.ref g)=true/\Binds K fd J8 []):AD P w K mg base (HS P w) 5 f fd Op (Ph cR):=by
 show F.ok2 EU (λvs H Q E h=>?_) (λcdv A outer s H vs Q E U h=>?_)
 . show Dl h λr l lt op told bd z1=>Jp z1 λzs g v g' z2 _=>?_;subst z2;rfl
 . obtain⟨r,l,lt,op,told,bd,zs,g,v,g',rfl,hl,G,h,k⟩:=h;have nd:=EU.nd
   show⟨_,(Ae (Bh (Zx O.vals rfl O.HE (qv 1)) (Ae (A9 (i:=4) nd rfl (Or.inl rfl) (Lr O.vals rfl O.HE (qv 1) (λ_ _=>rfl)))
     (Ai (A0 (X1 a1 (Uw Hn rfl) (rm U) (i:=4) rfl (Or.inl rfl) (Aa (qv 0) (Aa (qv 2) (Aa (qv 3) Ad))))))) A4)
     (Ae (A9 (i:=5) nd rfl (Or.inl rfl) (Ax a2 (rm U) rfl (Aa (qv 1) (Aa (qv 3) Ad))))
     (Ae (Bh (A2 Mi (qv 5) C6 (A1 _)) (Ai Bd) A4)
     (Ai (A0 (qv 5)))))),?_⟩
   by_cases ho:op="num"\/op="out"
   . obtain⟨fv,hm,Y⟩:∃fv,(op,V.ref fv)∈([("num",V.ref f1),("out",V.ref f2)]:List (Str×V))/\MVF f1 f2 op fv:=by
       rcases ho with rfl|rfl
       . show⟨f1,by simp,.inl ⟨rfl,rfl⟩⟩
       . show⟨f2,by simp,.inr ⟨rfl,rfl⟩⟩
     show⟨_,rfl,op,rfl,.inl ⟨.ref fv,hm,_,rfl,Cq ⟨_,rfl,op,.ref fv,rfl,hm,⟨op,fv,rfl,Y,_,rfl,_,rfl,_,rfl,r,l,lt,told,bd,zs,g,v,g',rfl,hl,G,h,k⟩⟩⟩⟩
   . rcases h with⟨z,_⟩|⟨z,_⟩|⟨a,b,rfl,rk,rfl,rfl⟩
     . show absurd (.inl z) ho
     . show absurd (.inr z) ho
     have ha:op∈(["=","-"]:List Str):=by rcases rk with rfl|⟨rfl,_⟩<;>decide +kernel
     show Ac rfl (Aq op rfl (.inr ⟨O.miss op ha,(Ac rfl (Fd (Ac rfl (Ac rfl (V9 op l a b rfl hl rk λH1 s1=>A8 rfl rfl (Ac rfl (Fd (Ac rfl (k H1 (G.same λq u e _=>s1 _ _ e) λq u e _=>s1 _ _ e)))))))))⟩))
end
end P2
namespace P2
open PySem PySem.Spec PyProof.Rows L2
noncomputable def R8 (pl:Addr)(bv:V)(bd:Addr):List (Str×V):=[("params",.ref pl),("first",bv),("blocks",.ref bd)]
noncomputable def Fn (bd:Addr)(bv:V)(i:Nat)(hd:Addr):List (Str×V):=[("blocks",.ref bd),("block",bv),("next_row",.int i),("held",.ref hd)]
def IA (H:Hp)(kb:List (Key×V))(f:MF):Prop:=∀b∈f.bl,∃u,Bt kb (Sum.inl b.lb)=some u/\FQ H u b
def IA.mono (h:IA H kb f)(s:CI H H'):IA H' kb f:=λb G=>let ⟨u,e,i⟩:=h b G;(Aq u e (i.mono s))
structure CU (cC:Addr)(H:Hp)(x:Addr)(f:MF):Prop where
 ex:∃dx pl bv bd kb b0 bt,H x=some (.ins cC dx (R8 pl bv bd))/\H pl=some (.lst [.int f.p])/\H bd=some (.dK kb)/\f.bl=b0::bt/\FQ H bv b0/\IA H kb f
def CU.same (h:CU cC H x f)(s:AA H H'):CU cC H' x f:=by
 obtain⟨dx,pl,bv,bd,kb,b0,bt,h1,h2,G,O,U,Y⟩:=h;show⟨dx,pl,bv,bd,kb,b0,bt,s _ _ h1,s _ _ h2,s _ _ G,O,U.mono s.AH,Y.mono s.AH⟩
def Im (n:q≠D):Hid D H q=H q:=JW n
def Ae0 (h1:H x=some (.ins cC dx (R8 pl bv bd)))(h2:H pl=some (.lst [.int f.p]))(U:H bd=some (.dK kb))(Y:f.bl=b0::bt)(h5:FQ H bv b0)(h6:IA H kb f)(G:H D=some (.dK kvs))(nb:bd≠D):CU cC (Hid D H) x f:=by
 have O:CI H (Hid D H):=λq xs e=>by rw[Im (Bl e G (by simp))];show e
 show⟨dx,pl,bv,bd,kb,b0,bt,by rw[Im (Bl h1 G (by simp))];show h1,by rw[Im (Bl h2 G (by simp))];show h2,by rw[Im nb];show U,Y,h5.mono O,h6.mono O⟩
structure TxC (K:A3)(cC:Addr):Prop where
 cl:HG K cC
 n1:AR K cC "params"
 n2:AR K cC "first"
 n3:AR K cC "blocks"
abbrev Q9:List Str:=["self","label","args"]
abbrev Md:List Str:=["self","names"]
structure TxF (K:A3)(cF fHas fRow fHeld fEnd fLed fRun:Addr)(dHas dRow dHeld dEnd dLed dRun:FuncData):Prop where
 cl:HG K cF
 n1:AR K cF "blocks"
 n2:AR K cF "block"
 n3:AR K cF "next_row"
 n4:AR K cF "held"
 HY:EQ K cF "has_rows" fHas
 HX:Binds K dHas Eo []
 m_row:EQ K cF "row" fRow
 b_row:Binds K dRow Eo []
 GI:EQ K cF "held_by" fHeld
 GG:Binds K dHeld Md []
 FC:EQ K cF "row_ended" fEnd
 EX:Binds K dEnd ["self","value"] []
 m_led:EQ K cF "led" fLed
 b_led:Binds K dLed Q9 []
 IW:EQ K cF "end_run" fRun
 JD:Binds K dRun ["self","end"] []
def Xo (cC:Addr):Sp:=λvs H Q _=>∃ns v f x dx,vs=[.ref x,v]/\H x=some (.ins cC dx [])/\EW H v f/\CH ns f/\∀H',Kp x H H'->CU cC H' x f->(∀D kvs,H D=some (.dK kvs)->CU cC (Hid D H') x f)->Q .AQ H'
def spFr (cC cF:Addr):Sp:=λvs H Q _=>∃(x c a dx G pl bd:Addr) (bv:V) (n v:Int),vs=[.ref x,.ref c,.ref a]/\H x=some (.ins cF dx [])/\H c=some (.ins cC G (R8 pl bv bd))/\H pl=some (.lst [.int n])/\H a=some (.lst [.int v]) /\
 ∀H' hd,H hd=none->Kp x H H'->H' x=some (.ins cF dx (Fn bd bv 0 hd))->H' hd=some (.dK [(Sum.inl n,.int v)])->Q .AQ H'
def Af5 (cF:Addr):Sp:=λvs H Q _=>∃(x dx bd hd:Addr) (bv:V) (b:MB) (i:Nat),vs=[.ref x]/\H x=some (.ins cF dx (Fn bd bv i hd))/\FQ H bv b/\Q (.bl (decide (i<b.rows.length))) H
def Ss (cF:Addr):Sp:=λvs H Q _=>∃(x dx bd hd:Addr) (bv:V) (b:MB) (i:Nat) (r:MR),vs=[.ref x]/\H x=some (.ins cF dx (Fn bd bv i hd))/\FQ H bv b/\b.rows[i]?=some r/\∀u,GH H u r->Q u H
def Sy (cF:Addr):Sp:=λvs H Q _=>∃(x dx bd hd a:Addr) (bv:V) (i:Nat) (kvs:List (Key×V)) (ns:List Int) (zs:List V),vs=[.ref x,.ref a]/\H x=some (.ins cF dx (Fn bd bv i hd))/\H hd=some (.dK kvs)/\H a=some (.tup (ns.map V.int))/\ns.length<=10/\ns.map (λn=>Bt kvs (Sum.inl n))=zs.map some /\
 ∀l H',H l=none->AA H H'->H' l=some (.lst zs)->Q (.ref l) H'
def Uk (cF:Addr):Sp:=λvs H Q _=>∃(x dx bd hd:Addr) (bv:V) (b:MB) (i:Nat) (r:MR) (v:V) (kvs:List (Key×V)),vs=[.ref x,v]/\H x=some (.ins cF dx (Fn bd bv i hd))/\FQ H bv b/\b.rows[i]?=some r/\H hd=some (.dK kvs)/\kvs.length<1000 /\
 Q .AQ (upd (upd H hd (.dK (Ci kvs (Sum.inl r.nm) v))) x (.ins cF dx (Fn bd bv (i+1) hd)))
def Af4 (cF:Addr):Sp:=λvs H Q _=>∃(x dx bd hd a:Addr) (bv u:V) (i:Nat) (l:Int) (b:MB) (kb kvs:List (Key×V)),vs=[.ref x,.int l,.ref a]/\H x=some (.ins cF dx (Fn bd bv i hd))/\H a=some (.tup [])/\H hd=some (.dK kvs)/\H bd=some (.dK kb)/\Bt kb (Sum.inl l)=some u/\FQ H u b /\
 ∀H',Kp x H H'->H' x=some (.ins cF dx (Fn bd u 0 hd))->Q .AQ H'
def Q4 (cF:Addr):Sp:=λvs H Q _=>∃(x dx bd hd:Addr) (bv e u:V) (i:Nat) (n l1 l2 v:Int) (b:MB) (kb kvs:List (Key×V)),vs=[.ref x,e]/\H x=some (.ins cF dx (Fn bd bv i hd))/\IsE H e (.br n l1 l2)/\H hd=some (.dK kvs)/\Bt kvs (Sum.inl n)=some (.int v)/\H bd=some (.dK kb)/\Bt kb (Sum.inl (if v=0 then l2 else l1))=some u/\FQ H u b /\
 ∀H',Kp x H H'->H' x=some (.ins cF dx (Fn bd u 0 hd))->Q .AQ H'
theorem par' {α β:Type}{F:α->β->Prop}:∀{xs:List α} {ys:List β} {i:Nat} {y:β},Paired F xs ys->ys[i]?=some y->∃x,xs[i]?=some x/\F x y
 | _,_,_,_,.nil,h=>by simp at h
 | _,_,0,_,.cons h _,e=>by simp at e;subst e;show Ac rfl h
 | _,_,i+1,_,.cons _ r,e=>by simpa using par' r (by simpa using e)
section
variable {P:Program}{w:World}{K:A3}{mg:Bv}{base:Heap}{t1 t2 t3 t4:Tok}{cC cF fHas fRow fHeld fEnd fLed fRun:Addr}{dHas dRow dHeld dEnd dLed dRun:FuncData}
def BQ:AB Eo Eo (Af C5):=⟨rfl,rfl,rfl,by decide +kernel,rfl,by decide +kernel,by decide +kernel⟩
def Kf (F:AG K "has_rows" "Frame.has_rows" C5 f fd)(T:BK K mg t1 t2 t3 t4)(G:TxF K cF fHas fRow fHeld fEnd fLed fRun dHas dRow dHeld dEnd dLed dRun):AD P w K mg base AU 1 f fd Eo (Af5 cF):=by
 show F.At BQ (λvs H Q E h=>?_) (λcdv A outer s H vs Q E hr h=>?_)
 .show Dl h λx dx bd hd bv b z1=>Am z1 λi O _=>?_;subst O;rfl
 .show Dl h λx dx bd hd bv b z1=>Ad8 z1 λi O U z3 k=>?_;subst O;obtain⟨a,y,rfl,ha,_,a1,Y,_⟩:=z3;have nd:=BQ.nd;have lr:=L2.Paired.len Y;show Ac (Ai (A0 (Cb Yp (Ca K (qv 0) rfl) (Az (Gq K) rfl T.AZ KQ (Aa (Ap (AT K) (Ca K (qv 0) rfl) Ah (λ_ _=>rfl)) Ad)) (A1 _)))) (Ac rfl (B8 x cF dx _ _ rfl U G.cl G.n3 rfl (Ac rfl (B8 x cF dx _ _ rfl U G.cl G.n2 rfl (Bb a _ 2 _ rfl rfl (AC.of ha) rfl (Aw y.ra _ rfl (.inr (AC.of a1)) (Bu rfl rfl ?_)))))))
  show Q (V.bl (decide (((i:Nat):Int)<(y.rs.length:Int)))) H
  rw[show decide (((i:Nat):Int)<(y.rs.length:Int))=decide (i<b.rows.length)by rw[lr];show decide_eq_decide.mpr (by omega)];show k
def DZ:AB Eo Eo (Af E4):=⟨rfl,rfl,rfl,by decide +kernel,rfl,by decide +kernel,by decide +kernel⟩
def P8 (F:AG K "row" "Frame.row" E4 f fd)(G:TxF K cF fHas fRow fHeld fEnd fLed fRun dHas dRow dHeld dEnd dLed dRun):AD P w K mg base AU 1 f fd Eo (Ss cF):=by
 show F.At DZ (λvs H Q E h=>?_) (λcdv A outer s H vs Q E hr h=>?_)
 .show Dl h λx dx bd hd bv b z1=>B5 z1 λi r O _=>?_;subst O;rfl
 .show Dl h λx dx bd hd bv b z1=>Jr z1 λi r O U z3 Y k=>?_;subst O;obtain⟨a,y,rfl,ha,_,a1,pr,_⟩:=z3;have nd:=DZ.nd;show Am (par' pr Y) λu eu hu=>Ac (Ai (A0 (Ap (AT K) (Ap (AT K) (Ca K (qv 0) rfl) Ah (λ_ _=>rfl)) (Ca K (qv 0) rfl) (λ_ _=>rfl)))) (Ac rfl (B8 x cF dx _ _ rfl U G.cl G.n2 rfl (Bb a _ 2 _ rfl rfl (AC.of ha) rfl (Ac rfl (B8 x cF dx _ _ rfl U G.cl G.n3 rfl (Bb y.ra _ (i:Int) _ rfl rfl (AC.of a1) (Gz eu) (k u hu)))))))
def CD:AB Md Md (Af Df):=⟨rfl,rfl,rfl,by decide +kernel,rfl,by decide +kernel,by decide +kernel⟩
def Kx (F:AG K "held_by" "Frame.held_by" Df f fd)(a2:TxF K cF fHas fRow fHeld fEnd fLed fRun dHas dRow dHeld dEnd dLed dRun):AD P w K mg base AU 1 f fd Md (Sy cF):=by
 show F.At CD (λvs H Q E h=>?_) (λcdv A outer s H vs Q E hr h=>?_)
 .show Dl h λx dx bd hd a bv z1=>Jp z1 λi kvs ns zs G _=>?_;subst G;rfl
 .show Dl h λx dx bd hd a bv z1=>K3 z1 λi kvs ns zs G hx hh ha hl z3=>?_;subst G;obtain⟨hz,k⟩:=z3;have nd:=CD.nd;have lz:ns.length=zs.length:=by have:=LR List.length hz;simpa using this
  show Ac (Ai (A0 (Ck (N':=["name","self"]) (n:=1) (js:=[0]) (AS.of rfl rfl (by decide) (by decide) rfl (List.forall_mem_cons.mpr ⟨rfl,(KD _)⟩) Eo rfl (by decide +kernel) (List.forall_mem_cons.mpr ⟨(A6 rfl rfl (Or.inl rfl)),(KD _)⟩)) rfl (Be K (qv 1)) (λ_ _ _=>(A6 (Al (i:=0) (show List.Nodup (["name","self"]:List Str)from by decide +kernel) rfl (Or.inl rfl)) Bm (Cj (by show B4 hr) (Ca K (qv 1) rfl) (qv 0) (λ_ _=>rfl))))))) (Ac rfl (Bc a rfl ⟨_,AC.of ha⟩ λD Y=>?_));show Kk (λσ=>∃o,σ=[o,some (.ref x)]) (zs.map some) ha (by simp;omega) (by simp[lz]) Y ⟨_,rfl⟩ (λj z o σ O R R' a4 ho hσ sm k1 k2=>?_) λO s4 a1=>?_
  .obtain⟨_,rfl⟩:=hσ;obtain⟨n,en,rfl⟩:∃n,ns[j]?=some n/\V.int n=z:=by simpa using a4
   have U:(ns.map (λn=>Bt kvs (Sum.inl n)))[j]?=some (Bt kvs (Sum.inl n)):=by rw[KP,en];rfl
   rw[hz]at U;obtain⟨v,ev,e2⟩:∃v,zs[j]?=some v/\some v=Bt kvs (Sum.inl n):=by simpa using U
   have e3:o=some v:=by rw[KP,ev]at ho;show(KC ho).symm
   show Ac rfl (B8 x cF dx _ _ rfl (sm _ _ hx) a2.cl a2.n4 rfl (Ac rfl (Aw hd v rfl (by rw[e2];show AX.k (k:=Sum.inl n) (sm _ _ hh)) (k1 _ _ _ e3 ⟨_,rfl⟩ (AA.refl _)))))
  .rw [Cp]at a1;show k D O Y s4 a1
def BL:AB ["self","value"] ["self","value"] (Af Co):=⟨rfl,rfl,rfl,by decide +kernel,rfl,by decide +kernel,by decide +kernel⟩
def Jl (F:AG K "row_ended" "Frame.row_ended" Co f fd)(G:TxF K cF fHas fRow fHeld fEnd fLed fRun dHas dRow dHeld dEnd dLed dRun)(a6:AD P w K mg base AU 1 fRow dRow Eo (Ss cF)):AD P w K mg base AU 2 f fd ["self","value"] (Uk cF):=by
 show F.At BL (λvs H Q E h=>?_) (λcdv A outer s H vs Q E hr h=>?_)
 .show Dl h λx dx bd hd bv b z1=>Jp z1 λi r v kvs U _=>?_;subst U;rfl
 .show Dl h λx dx bd hd bv b z1=>K3 z1 λi r v kvs U O a4 er Y z3=>?_;subst U;obtain⟨hl,k⟩:=z3;have nd:=BL.nd;have a5:x≠hd:=Bl O Y (by simp)
  show Ac (Ae (Ft (B4 hr) (Ca K (qv 0) rfl) (Ap (AT K) (J3 (qv 0) G.cl G.m_row a6 (rm hr) G.b_row .nil Fk) Ah (λ_ _=>rfl)) (qv 1) rfl)
   (Ai (Kr (qv 0) Ah Ty))) ?_
  show Ac rfl (Ac rfl (B8 x cF dx _ _ rfl O G.cl G.n4 rfl (Ac rfl (Cr x dx _ rfl O rfl (Fe x dx bd hd bv b (Ct i r rfl O a4 er λu hu=>?_))))));show B7 hu λra rb z1 a2 a7=>?_;subst z1;show Bb ra _ 0 _ rfl rfl (AC.of a2) rfl (Aw hd _ rfl (FH.k (k:=Sum.inl r.nm) Y (KA hl (by decide))) ?_);have a1:upd H hd (.dK (Ci kvs (Sum.inl r.nm) v)) x=some (.ins cF dx (Fn bd bv i hd)):=by rw[Ak a5];show O
  show Ac rfl (B8 x cF dx _ _ rfl a1 G.cl G.n3 rfl (Bu rfl rfl (Aw dx _ a1 (by show 4<1000;decide) k)))
def EF:AB ["self","label","args","values","name","value"] Q9 (Af E5):=⟨rfl,rfl,rfl,by decide +kernel,rfl,by decide +kernel,by decide +kernel⟩
def P9 (F:AG K "led" "Frame.led" E5 f fd)(T:BK K mg t1 t2 t3 t4)(G:TxF K cF fHas fRow fHeld fEnd fLed fRun dHas dRow dHeld dEnd dLed dRun)(aB:AD P w K mg base AU 1 fHeld dHeld Md (Sy cF))(aC:AM P w K mg base 1 "param_names" ["params"] Vp):AD P w K mg base AU 2 f fd Q9 (Af4 cF):=by
 show F.At EF (λvs H Q E h=>?_) (λcdv A outer s H vs Q E Y h=>?_)
 . show Dl h λx dx bd hd a bv z1=>dd61 z1 λu i l b kb kvs z2 _=>?_;subst z2;rfl
 . show Dl h λx dx bd hd a bv z1=>dd65 z1 λu i l b kb kvs z2 O ha hh hb z3=>B9 z3 λev aA k=>?_;subst z2;have nd:=EF.nd
   show Ac (Ae (A9 (i:=3) nd rfl (Or.inl rfl) (Gx (qv 0) G.cl G.GI aB (rm Y) G.GG .nil Fk (Aa (qv 2) Ad)))
     (Ae (Em (qv 0) (Cj (B4 Y) (Ca K (qv 0) rfl) (qv 1) (λ_ _=>rfl)) rfl)
     (Ae (Em (qv 0) Ah rfl)
     (Ai (Bw JT rfl (Ps (b:=true) (c:=true) rfl T.IL (Aa (Ax aC (rm Y) rfl (Aa (Ap (AT K) (Ca K (qv 0) rfl) Ah (λ_ _=>rfl)) Ad)) (Aa (qv 3) Ad))) (Bk K (n:=2) rfl (Ao (Al (i:=4) nd rfl (Or.inl rfl)) (Ao (Al (i:=5) nd rfl (Or.inl rfl)) Bj))) (Ai Bd)))))) ?_
   show Ac rfl (Cr x dx _ rfl O rfl (Ac rfl (Fe x dx bd hd a bv (B0 i kvs [] [] rfl O hh ha (by simp) ⟨rfl,λvl H1 a8 s1 hv=>?_⟩))));have a4:=s1 _ _ O;show Ac rfl (B8 x cF dx _ _ rfl a4 G.cl G.n1 rfl (Ac rfl (Aw bd u rfl (by rw[← ev];show AX.k (k:=Sum.inl l) (s1 _ _ hb)) (Ac rfl (B0 x cF dx _ rfl a4 G.cl G.n2 (by show 4<1000;decide) ?_)))));show Ac rfl (B0 x cF dx _ rfl Ag G.cl G.n3 (by show 4<1000;decide) ?_);rw[Gs,show C8 "next_row" (V.int 0) (C8 "block" u (Fn bd bv i hd))=Fn bd u 0 hd from rfl];have kp:Kp x H (upd H1 x (.ins cF dx (Fn bd u 0 hd))):=λq o e n=>by rw[Ak n];show s1 _ _ e
   have a5:upd H1 x (.ins cF dx (Fn bd u 0 hd)) x=some (.ins cF dx (Fn bd u 0 hd)):=Ag;have a2:upd H1 x (.ins cF dx (Fn bd u 0 hd)) vl=some (.lst []):=by rw[Ak (Aj O a8).symm];show hv
   generalize upd H1 x (.ins cF dx (Fn bd u 0 hd))=H2 at *;have tp:=kp.own O;show Fw (aA.mono tp) λba y z1 a6 a7 _=>?_;subst z1;show Ac rfl (B8 x cF dx _ _ rfl a5 G.cl G.n2 rfl (Bb ba _ 1 _ rfl rfl (AC.of a6) rfl (Br y.pa [] rfl (.nil a7) (by simp) λpl H3 aD U a1=>Ac rfl (Br pl vl rfl ⟨_,AK.of a1⟩ ⟨_,AK.of (U _ _ a2)⟩ ?_))));show Y4 (b:=true) (c:=true) (xs:=[]) (ys:=[]) (λi σ H'=>H'=H3) rfl (λi σ H' _ e=>by rw[e];show⟨AK.of a1,AK.of (U _ _ a2)⟩) rfl (λi x y σ H' p a9=>by simp at a9) ?_;rintro σ H' rfl;show k _ (kp.same U) (U _ _ a5)
def By:AB ["self","end","ways","side"] ["self","end"] (Af Dg):=⟨rfl,rfl,rfl,by decide +kernel,rfl,by decide +kernel,by decide +kernel⟩
def Ky (F:AG K "end_run" "Frame.end_run" Dg f fd)(T:BK K mg t1 t2 t3 t4)(O:TxF K cF fHas fRow fHeld fEnd fLed fRun dHas dRow dHeld dEnd dLed dRun)(aA:AD P w K mg base AU 2 fLed dLed Q9 (Af4 cF))(aB:AM P w K mg base 1 "ways_of" D9 Ib):AD P w K mg base AU 3 f fd ["self","end"] (Q4 cF):=by
 show F.At By (λvs H Q E h=>?_) (λcdv A outer s H vs Q E hr h=>?_)
 . show Dl h λx dx bd hd bv e z1=>Dl z1 λu i n l1 l2 v z2=>Da z2 λb kb kvs z3 _=>?_;subst z3;rfl
 . show Dl h λx dx bd hd bv e z1=>Dl z1 λu i n l1 l2 v z2=>Zd z2 λb kb kvs z3 G he hh ev z4=>N0 z4 λhb U a5 k=>?_;subst z3;have nd:=By.nd;have a6:=he;show Jq a6 λea b1 c1 z1 a1 aC aD=>?_;subst z1
   show Ac (Ae (Bh (A2 Bs (Ap (AT K) (qv 1) Ah (λ_ _=>rfl)) Av (A1 _)) (Ai Bd) A4)
     (Ae (A9 (i:=2) nd rfl (Or.inl rfl) (Ax aB (rm hr) rfl (Aa (qv 1) Ad)))
     (Ae (A9 (i:=3) nd rfl (Or.inl rfl) (Gm (QW.pt (Kq (A2 Bs (Ap (AT K) (qv 1) Ah (λ_ _=>rfl)) Av (A1 _)) (Jz (A2 Bs (Cj (B4 hr) (Ca K (qv 0) rfl) (Ap (AT K) (qv 1) Ah (λ_ _=>rfl)) (λ_ _=>rfl)) Ah (A1 _))))) Ah Ah))
     (Ai (A7 (Gx (qv 0) O.cl O.m_led aA (rm hr) O.b_led .nil Fk (Aa (Ap (AT K) (Ap (EK K) (qv 2) (qv 3) (λ_ _=>rfl)) Ah (λ_ _=>rfl)) (Aa (Ap (AT K) (Ap (EK K) (qv 2) (qv 3) (λ_ _=>rfl)) Ah (λ_ _=>rfl)) Ad)))))))) ?_
   show Ac rfl (B0 ea _ 0 _ rfl rfl (AC.of a1) rfl rfl (Ac rfl (Fd (A:=_) (Ac rfl (Bu rfl he λwl H1 aF s1 ⟨ws,hw,a9⟩=>?_)))))
   cases a9 with
   | cons h r=>
   cases r with
   | cons h2 r2=>
   cases r2;show B7 h λp1 q1 z1 a2 a7=>?_;subst z1;show B7 h2 λp2 q2 z1 a4 a8=>?_;subst z1;show Ac rfl (B0 ea _ 0 _ rfl rfl (AC.of (s1 _ _ a1)) rfl rfl (Ac rfl (Cq (B:=_) ?_)));show Ac rfl (B8 x cF dx _ _ rfl (s1 _ _ G) O.cl O.n4 rfl (Ac rfl (Bb ea _ 1 _ rfl rfl (AC.of (s1 _ _ a1)) rfl (Br hd (.int v) rfl (by rw[← ev];show AX.k (k:=Sum.inl n) (s1 _ _ hh)) rfl (Ac rfl ?_)))));by_cases Y:v=0
   . rw[KH (LR V.int Y)];rw[KE Y]at U;show Cq (B:=_) (Ac rfl (Cr x dx _ rfl (s1 _ _ G) rfl (Ac rfl (Ac rfl (Bb wl _ 1 _ rfl rfl (AK.of hw) rfl (Bb p2 _ 0 _ rfl rfl (AC.of a4) rfl (Ac rfl (Ac rfl (Bb wl _ 1 _ rfl rfl (AK.of hw) rfl (Bb p2 _ 1 _ rfl rfl (AC.of a4) rfl (Fe x dx bd hd q2 bv (Yz u i l2 b kb kvs rfl (s1 _ _ G) a8 (s1 _ _ hh) (s1 _ _ hb) (A6 U (a5.mono s1.AH) λH2 kp h2=>k H2 (λq o e n=>kp _ _ (s1 _ _ e) n) h2)))))))))))))
   . rw[KL λz=>Y (V.int.inj z)];rw[JW Y]at U;show Fd (A:=_) (Ac rfl (Cr x dx _ rfl (s1 _ _ G) rfl (Ac rfl (Ac rfl (Bb wl _ 0 _ rfl rfl (AK.of hw) rfl (Bb p1 _ 0 _ rfl rfl (AC.of a2) rfl (Ac rfl (Ac rfl (Bb wl _ 0 _ rfl rfl (AK.of hw) rfl (Bb p1 _ 1 _ rfl rfl (AC.of a2) rfl (Fe x dx bd hd q1 bv (Yz u i l1 b kb kvs rfl (s1 _ _ G) a7 (s1 _ _ hh) (s1 _ _ hb) (A6 U (a5.mono s1.AH) λH2 kp h2=>k H2 (λq o e n=>kp _ _ (s1 _ _ e) n) h2)))))))))))))
abbrev Oh:List Str:=["self","code","args"]
def DS:AB Oh Oh (Af Ej):=⟨rfl,rfl,rfl,by decide +kernel,rfl,by decide +kernel,by decide +kernel⟩
def Nv (F:AG K "__init__" "Frame.__init__" Ej f fd)(T:BK K mg t1 t2 t3 t4)(O:TxC K cC)(G:TxF K cF fHas fRow fHeld fEnd fLed fRun dHas dRow dHeld dEnd dLed dRun):AD P w K mg base AU 1 f fd Oh (spFr cC cF):=by
 show F.At DS (λvs H Q E h=>?_) (λcdv A outer s H vs Q E hr h=>?_)
 . show Dl h λx c a dx U pl z1=>Jp z1 λbd bv n v z2 _=>?_;subst z2;rfl
 . show Dl h λx c a dx U pl z1=>K3 z1 λbd bv n v z2 Y hc hp ha k=>?_;subst z2;have nd:=DS.nd;have a6:c≠x:=Bl hc Y (by simp[R8]);have a7:pl≠x:=Bl hp Y (by simp);have a5:a≠x:=Bl ha Y (by simp)
   show Ac (Ae (Em (qv 0) (Ca K (qv 1) rfl) rfl)
     (Ae (Em (qv 0) (Ca K (qv 1) rfl) rfl)
     (Ae (Em (qv 0) Ah rfl)
     (Ai (Em (qv 0) (Z1 (b:=true) (c:=true) rfl rfl T.ID rfl T.IL (Aa (Ca K (qv 1) rfl) (Aa (qv 2) Ad))) rfl))))) ?_
   show Ac rfl (B8 c cC U _ _ rfl hc O.cl O.n3 rfl (Ac rfl (B0 x cF dx [] rfl Y G.cl G.n1 (by decide) ?_)));show Ac rfl (B8 c cC U _ _ rfl (by rw[Ak a6];show hc) O.cl O.n2 rfl (Ac rfl (B0 x cF dx _ rfl Ag G.cl G.n2 (by show 1<1000;decide) ?_)));rw[Gs];show Ac rfl (B0 x cF dx _ rfl Ag G.cl G.n3 (by show 2<1000;decide) ?_);rw[Gs];show Ac rfl (B8 c cC U _ _ rfl (by rw[Ak a6];show hc) O.cl O.n1 rfl (Ac rfl (Br pl a rfl ⟨_,AK.of (by rw[Ak a7];show hp)⟩ ⟨_,AK.of (by rw[Ak a5];show ha)⟩ (Aw [Sum.inl n] [.int v] (AK.of (by rw[Ak a7];show hp)) (AK.of (by rw[Ak a5];show ha)) λhd a1=>?_))));have a2:hd≠x:=λz=>by rw[z,Ag]at a1;cases a1
   have a4:H hd=none:=by rw[Ak a2]at a1;show a1
   show Ac rfl (B0 x cF dx _ rfl (by rw[Ak a2.symm,Ag]) G.cl G.n4 (by show 3<1000;decide) (k _ hd a4 (λq o e n=>?_) Ag ?_))
   . rw[Ak n,Ak (Aj e a4),Ak n];show e
   . rw[Ak a2,Ag];rfl
def EE:AB Mb Mb (Af E7):=⟨rfl,rfl,rfl,by decide +kernel,rfl,by decide +kernel,by decide +kernel⟩
def Qa (F:AG K "__init__" "Code.__init__" E7 f fd)(T:BK K mg t1 t2 t3 t4)(O:TxC K cC)(aL:AM P w K mg base 1 "param_names" ["params"] Vp):AD P w K mg base AU 2 f fd Mb (Xo cC):=by
 show F.At EE (λvs H Q E h=>?_) (λcdv A outer s H vs Q E hr h=>?_)
 . show M9 h λns v fn x dx z1 _=>?_;subst z1;rfl
 . show dd54 h λns v fn x dx z1 G aI Y k=>?_;subst z1;show Fs aI λa y z1 ha aF aH a4 pr=>?_;subst z1;have nd:=EE.nd;have lb:=L2.Paired.len pr;have aM:=Y.le;obtain⟨b0,bt,a2⟩:∃b0 bt,fn.bl=b0::bt:=by
     cases e:fn.bl with
     | nil=>show absurd e Y.ne
     | cons b0 bt=>show Jm b0 bt rfl
   show Am (par' (i:=0) (y:=b0) pr (by rw[a2];rfl)) λbv a9 a8=>?_
   show Ac (Ae (Em (qv 0) (Ax aL (rm hr) rfl (Aa (Ap (AT K) (qv 1) Ah (λ_ _=>rfl)) Ad)) rfl)
     (Ae (Em (qv 0) (Ap (AT K) (Ap (AT K) (qv 1) Ah (λ_ _=>rfl)) Ah (λ_ _=>rfl)) rfl)
     (Ai (Em (qv 0) (Ig (N':=BE) (n:=1) (AS.nil rfl (by decide) (by decide) (by decide) rfl) rfl (Be K (Ap (AT K) (qv 1) Ah (λ_ _=>rfl))) (λ_ _ _=>(C9 (Al (i:=0) (show List.Nodup (BE:List Str)from by decide +kernel) rfl (Or.inl rfl)) Bm (Ap (AT K) (qv 0) Ah (λ_ _=>rfl)) (qv 0)))) rfl)))) ?_
   show Ac rfl (Bb a _ 1 _ rfl rfl (AC.of ha) rfl (Br y.pa [fn.p] rfl (.one aF aH) (by simp) λpl H1 aG s1 aC=>Ac rfl (B0 x cC dx [] rfl (s1 _ _ G) O.cl O.n1 (by decide) ?_)));have a7:pl≠x:=(Aj G aG).symm;have k2:Kp x H (upd H1 x (.ins cC dx (C8 "params" (.ref pl) []))):=λq o e n=>by rw[Ak n];show s1 _ _ e
   have t2:=k2.own G;show Ac rfl (Bb a _ 3 _ rfl rfl (AC.of (t2 _ _ ha)) rfl (Bb y.ba _ 0 bv rfl rfl (AC.of (t2 _ _ a4)) (Gz (j:=0) a9) (Ac rfl (B0 x cC dx _ rfl Ag O.cl O.n2 (by show 1<1000;decide) ?_))));rw[Gs];have k3:Kp x H (upd H1 x (.ins cC dx (C8 "first" bv (C8 "params" (.ref pl) [])))):=λq o e n=>by rw[Ak n];show s1 _ _ e
   have a5:upd H1 x (.ins cC dx (C8 "first" bv (C8 "params" (.ref pl) []))) x=some (.ins cC dx (C8 "first" bv (C8 "params" (.ref pl) []))):=Ag;have aD:upd H1 x (.ins cC dx (C8 "first" bv (C8 "params" (.ref pl) []))) pl=some (.lst [.int fn.p]):=by rw[Ak a7];show aC
   generalize upd H1 x (.ins cC dx (C8 "first" bv (C8 "params" (.ref pl) [])))=H3 at *;have t3:=k3.own G;show Ac rfl (Bb a _ 3 _ rfl rfl (AC.of (t3 _ _ ha)) rfl (Bc y.ba rfl ⟨_,AC.of (t3 _ _ a4)⟩ λD hD=>?_));show Ga (xs:=y.bs) (λi ys σ H'=>(∃o1,σ=[o1])/\AA H3 H'/\H' D=some (.dK ys)/\ys.length<=i/\∀c∈fn.bl.take i,∃u,Bt ys (Sum.inl c.lb)=some u/\FQ H u c) (JU (show y.bs.length<=10 by omega) (by decide)) (Fq ⟨_,rfl⟩ ((AA.refl H3).upd hD) Ag (JN _) (by simp))
     (λi ys σ H' hi ⟨_,sm,hd,e,_⟩=>(A6 (AC.of (sm _ _ (t3 _ _ a4))) hd e)) ?_ ?_
   . rintro i u ys σ H' hu ⟨⟨o1,rfl⟩,sm,hd,le,hm⟩;show Am (L2.Paired.at pr hu) λb eb a6=>?_;have aK:=a6;show B7 a6 λba z z1 hb _=>?_;subst z1;show Ac rfl (Bb ba _ 0 _ rfl rfl (AC.of (sm _ _ (t3 _ _ hb))) rfl (Ac rfl (Jn (Sum.inl b.lb) rfl hd ⟨_,rfl⟩ (Ko sm hD) Ag ⟨?_,λc hc=>?_⟩)))
     . have:=Bo ys (Sum.inl b.lb) (V.ref ba);omega
     . rw[Cd];rw[Bx eb,KU]at hc;by_cases e:c.lb=b.lb
       . rw[KE (LR _ e)];have aB:c∈fn.bl:=hc.elim (λz=>List.mem_of_mem_take z) λz=>by rw[JY.mp z];show JJ eb
         have h1:=Hf (show(fn.bl.map (·.lb)).Nodup from Y.nd) aB;have h2:=Hf (show(fn.bl.map (·.lb)).Nodup from Y.nd) (JJ eb);rw[e,h2]at h1;rw[← KC h1];show Ac rfl aK
       . rw[JW λz=>e (MI z)];show hm c (hc.resolve_right λz=>e (by rw[JY.mp z]))
   . rintro kb σ U ⟨_,s4,aA,_,cm⟩;rw[lb,LG]at cm;show Ac rfl (B0 x cC dx _ rfl (s4 _ _ a5) O.cl O.n3 (by show 2<1000;decide) ?_);have aJ:D≠x:=(Aj a5 hD).symm;have k5:Kp x H (upd U x (.ins cC dx (R8 pl bv D))):=λq o e n=>by rw[Ak n];show s4 _ _ (k3 _ _ e n)
     have t5:=k5.own G;have e1:upd U x (.ins cC dx (R8 pl bv D)) pl=some (.lst [.int fn.p]):=by rw[Ak a7];show s4 _ _ aD
     have e2:upd U x (.ins cC dx (R8 pl bv D)) D=some (.dK kb):=by rw[Ak aJ];show aA
     have e3:IA (upd U x (.ins cC dx (R8 pl bv D))) kb fn:=λb hb=>let ⟨u,e,i⟩:=cm b hb;(Aq u e (i.mono t5))
     show k _ k5 ⟨dx,pl,bv,D,kb,b0,bt,Ag,e1,e2,a2,a8.mono t5,e3⟩ λD2 aN a1=>Ae0 Ag e1 e2 a2 (a8.mono t5) e3 (k5 _ _ a1 (Bl a1 G (by simp))) (Aj (k3 _ _ a1 (Bl a1 G (by simp))) hD).symm
end
end P2
namespace P2
open PySem PySem.Spec PyProof.Rows L2
structure Fr where
 f:MF
 b:MB
 i:Nat
 env:List (Key×V)
inductive Res where
 | JG (v:Int) (ls:List Int) (wk:Nat)|more (ls:List Int) (wk:Nat)
noncomputable def Fr.put (fr:Fr)(n v:Int):Fr:={fr with i:=fr.i+1,env:=Ci fr.env (Sum.inl n) (.int v)}
def Ag7 (cd:Str->Option MF)(bd:Int)(res:Res)(R:List Fr->Fr->Sg->Prop)(lo:List Fr)(fr:Fr)(g:Sg):Prop:=
 (∃r zs,fr.b.rows[fr.i]?=some r/\r.args.map (λn=>Bt fr.env (Sum.inl n))=zs.map some/\r.args.length<=10 /\
   ((r.op≠"call"/\fr.env.length<100/\∃v g',Val r.op r.told zs g v g'/\R lo (fr.put r.nm v) g') \/
    (r.op="call"/\∃h f b0 bt v,r.told=.str h/\cd h=some f/\f.bl=b0::bt/\zs=[.int v]/\lo.length<100000/\(bd<=g.tk->res=.more g.ls g.wk)/\((g.tk:Int)<bd->R (lo++[fr]) ⟨f,b0,0,[(Sum.inl f.p,.int v)]⟩ {g with tk:=g.tk+1})))) \/
 (fr.b.rows.length<=fr.i/\((∃n v,fr.b.fin=.gv n/\Bt fr.env (Sum.inl n)=some (.int v)/\((lo=[]/\res=.JG v g.ls g.wk)\/∃G b r,lo=G++[b]/\b.b.rows[b.i]?=some r/\b.env.length<100/\R G (b.put r.nm v) g)) \/
   (∃n l1 l2 v b',fr.b.fin=.br n l1 l2/\Bt fr.env (Sum.inl n)=some (.int v)/\b'∈fr.f.bl/\b'.lb=(if v=0 then l2 else l1)/\R lo {fr with b:=b',i:=0} g)))
def Wu (cd:Str->Option MF)(bd:Int)(res:Res):Nat->List Fr->Fr->Sg->Prop
 | 0,_,_,_=>False
 | m+1,lo,fr,g=>Ag7 cd bd res (Wu cd bd res m) lo fr {g with wk:=g.wk+1}
structure FrS (cF:Addr)(H0 H:Hp)(a:Addr×Addr)(fr:Fr):Prop where
 ex:∃dx bd kb bv,H a.1=some (.ins cF dx (Fn bd bv fr.i a.2))/\H a.2=some (.dK fr.env)/\H0 bd=some (.dK kb)/\IA H0 kb fr.f/\FQ H0 bv fr.b
structure HR (cF cR:Addr)(bd:Int)(H0 H:Hp)(fl r lt:Addr)(xs:List (Addr×Addr))(CP:List Fr)(g:Sg):Prop where
 keep:Vg r lt H0 H
 IY:HL cR bd H r lt g
 IG:H fl=some (.lst (xs.map λa=>V.ref a.1))
 prs:Paired (FrS cF H0 H) xs CP
 IN:(xs.map (·.1)).Nodup
 ndh:(xs.map (·.2)).Nodup
 x0:∀a∈xs,H0 a.1=none/\H0 a.2=none
structure GL (cR:Addr)(H0:Hp)(r lt fl:Addr):Prop where
 r0:∃dx fs,H0 r=some (.ins cR dx fs)
 l0:∃ls,H0 lt=some (.lst ls)
 f0:H0 fl=none
def GL.AH (s:GL cR H0 r lt fl)(k:Vg r lt H0 H):CI H0 H:=λq xs e=>by
 show G9 s.r0 λdx fs G=>?_;obtain⟨ls,hl⟩:=s.l0;show k _ _ e (Bl e hl (by simp)) (Bl e G (by simp))
def GL.dK (s:GL cR H0 r lt fl)(k:Vg r lt H0 H)(e:H0 q=some (.dK kvs)):H q=some (.dK kvs):=by
 show G9 s.r0 λdx fs G=>?_;obtain⟨ls,hl⟩:=s.l0;show k _ _ e (Bl e hl (by simp)) (Bl e G (by simp))
theorem Af9 {α β:Type}{F:α->β->Prop}:∀{xs:List α} {ys:List β} {x:α} {y:β},Paired F (xs++[x]) (ys++[y])->Paired F xs ys/\F x y
 | [],[],_,_,h=>by cases h with|cons h r=>show⟨.nil,h⟩
 | [],b::ys,_,_,h=>by have:=L2.Paired.len h;simp at this
 | a::xs,[],_,_,h=>by have:=L2.Paired.len h;simp at this
 | a::xs,b::ys,_,_,h=>by
  cases h with
  | cons h r=>obtain⟨p,q⟩:=Af9 r;show⟨.cons h p,q⟩
def U1 {l:List Addr}{a b:Addr}(h:(l++[a]).Nodup)(G:b∈l):b≠a:=by
 rw[MY]at h;show h.2.2 b G a (by simp)
section
variable {cF cR fl r lt:Addr}{bd:Int}{H0 H H2:Hp}{xs:List (Addr×Addr)}{x hd:Addr}{lo:List Fr}{fr fr':Fr}{g g':Sg}
def HR.two (h:HR cF cR bd H0 H fl r lt (xs++[(x,hd)]) (lo++[fr]) g):Paired (FrS cF H0 H) xs lo/\FrS cF H0 H (x,hd) fr:=by
 obtain⟨G,p2⟩:=Af9 h.prs;show⟨G,p2⟩
def Zk {hl:∀a∈xs,H0 a.1=none/\H0 a.2=none}(s:GL cR H0 r lt fl)(p:Paired (FrS cF H0 H) xs lo)(k:∀a∈xs,∀u,H a.1=some u->H2 a.1=some u)(G:∀a∈xs,∀u,H a.2=some u->H2 a.2=some u):Paired (FrS cF H0 H2) xs lo:=by
 induction p with
 | nil=>show .nil
 | @cons a fr xs lo h r ih=>
  show Lk h.ex λdx bd kb bv h1 h2 O U Y=>.cons ⟨dx,bd,kb,bv,k _ LH _ h1,G _ LH _ h2,O,U,Y⟩ (ih (hl:=λa h=>hl a (KO _ h)) (λa h=>k a (KO _ h)) λa h=>G a (KO _ h))
def Gy (p:Paired (FrS cF H0 H) xs lo)(h:a∈xs):(∃dx fs,H a.1=some (.ins cF dx fs))/\∃kvs,H a.2=some (.dK kvs):=by
 obtain⟨i,hi⟩:=OF h;show Am (L2.Paired.at p hi) λfr _ q=>Ad6 q.ex λdx bd kb bv h1 h2 _=>⟨(Cs h1),_,h2⟩
def HR.step (s:GL cR H0 r lt fl)(h:HR cF cR bd H0 H fl r lt (xs++[(x,hd)]) (lo++[fr]) g)(k:∀q u,H q=some u->q≠x->q≠hd->q≠r->q≠lt->H2 q=some u)(a1:HL cR bd H2 r lt g')(top:FrS cF H0 H2 (x,hd) fr') :
  HR cF cR bd H0 H2 fl r lt (xs++[(x,hd)]) (lo++[fr']) g':=by
 obtain⟨O,p2⟩:=h.two;show Ad6 p2.ex λdx a2 kb bv h1 h2 _=>G9 s.r0 λxr fs G=>?_;obtain⟨ls,hl⟩:=s.l0;have x0:=h.x0 (x,hd) (by simp);have IN:=h.IN;have ndh:=h.ndh;rw[MA]at IN ndh;have n0:∀{q u},H0 q=some u->q≠x/\q≠hd:=λe=>⟨Aj e x0.1,Aj e x0.2⟩;show⟨λq u e n1 n2=>k _ _ (h.keep _ _ e n1 n2) (n0 e).1 (n0 e).2 n2 n1,a1,k _ _ h.IG (Bl h.IG h1 (by simp)) (Bl h.IG h2 (by simp)) (Aj G s.f0).symm (Aj hl s.f0).symm,L2.Paired.appP (Zk (hl:=λa ha=>h.x0 a (LX _ ha)) s O (λa ha u e=>?_) λa ha u e=>?_) (.cons top .nil),h.IN,h.ndh,h.x0⟩
 .have z:=h.x0 a (LX _ ha);show D7 (Gy O ha) λz1 U=>?_;obtain⟨_,_,Y⟩:=z1;obtain⟨_,e2⟩:=U;show k _ _ e (U1 IN (LO ha)) (Bl Y h2 (by simp)) (Aj G z.1).symm (Aj hl z.1).symm
 .have z:=h.x0 a (LX _ ha);show D7 (Gy O ha) λz1 U=>?_;obtain⟨_,_,Y⟩:=z1;obtain⟨_,e2⟩:=U;show k _ _ e (Bl e2 h1 (by simp)) (U1 ndh (LO ha)) (Aj G z.2).symm (Aj hl z.2).symm
def HR.push {CP:List Fr}{ys:List (Addr×Addr)}(s:GL cR H0 r lt fl)(h:HR cF cR bd H0 H fl r lt ys CP g)(sm:AA H H2)(hx:H x=none)(hh:H hd=none)(top:FrS cF H0 H2 (x,hd) fr') :
  HR cF cR bd H0 (upd H2 fl (.lst ((ys.map λa=>V.ref a.1)++[.ref x]))) fl r lt (ys++[(x,hd)]) (CP++[fr']) g:=by
 show G9 s.r0 λxr fs hr=>?_;obtain⟨ls,hl⟩:=s.l0;have Y:∀{q u},H0 q=some u->q≠fl:=λe=>Aj e s.f0;have a4:∀{q},H q=none->H0 q=none\/q=r\/q=lt:=fun {q} e=>by
  cases z:H0 q with
  | none=>show .inl rfl
  | some u=>
   by_cases n1:q=lt
   .show .inr (.inr n1)
   .by_cases n2:q=r
    .show .inr (.inl n2)
    .rw [h.keep _ _ z n1 n2]at e;cases e
 have f0:∀{q},H q=none->H0 q=none:=fun {q} e=>by
  obtain⟨a5,er⟩:=h.IY.run
  rcases a4 e with z|z|z
  .show z
  .rw [z,er]at e;cases e
  .rw [z,h.IY.hl]at e;cases e
 have a1:∀{q u},H2 q=some u->(∃dx fs,u=.ins cF dx fs)\/(∃kvs,u=.dK kvs)->q≠fl:=fun {q u} e z=>by
  rcases z with⟨_,_,rfl⟩|⟨_,rfl⟩
  .show Bl e (sm _ _ h.IG) (by simp)
  .show Bl e (sm _ _ h.IG) (by simp)
 show Lk top.ex λdx a2 kb bv h1 h2 h3 h4 h5=>?_;show⟨λq u e n1 n2=>by rw[Ak (Y e)];show sm _ _ (h.keep _ _ e n1 n2),h.IY.same λq u e c=>?_,by rw[Ag];simp,L2.Paired.appP (Zk (hl:=h.x0) s h.prs (λa ha u e=>?_) λa ha u e=>?_) (.cons ⟨dx,a2,kb,bv,by rw[Ak (a1 h1 (.inl (Cs rfl)))];show h1,by rw[Ak (a1 h2 (.inr ⟨_,rfl⟩))];show h2,h3,h4,h5⟩ .nil),?_,?_,?_⟩
 .have:q≠fl:=by
   rcases c with rfl|rfl
   .show Y hr
   .show Y hl
  rw[Ak this];show sm _ _ e
 .obtain⟨⟨_,_,G⟩,_⟩:=Gy h.prs ha;rw[Ak (Bl G h.IG (by simp))];show sm _ _ e
 .show D7 (Gy h.prs ha) λ_ z1=>?_;obtain⟨_,G⟩:=z1;rw[Ak (Bl G h.IG (by simp))];show sm _ _ e
 .rw [MA,MY];show A6 h.IN (by simp) λa ha b U=>?_;show Am (LC.mp ha) λc hc z1=>?_;subst z1;obtain⟨⟨_,_,G⟩,_⟩:=Gy h.prs hc;have O:b=x:=by simpa using U
  rw[O];show Aj G hx
 .rw [MA,MY];show A6 h.ndh (by simp) λa ha b U=>?_;show Am (LC.mp ha) λc hc z1=>?_;subst z1;show D7 (Gy h.prs hc) λ_ z1=>?_;obtain⟨_,G⟩:=z1;have O:b=hd:=by simpa using U
  rw[O];show Aj G hh
 .intro a ha
  rcases KU.mp ha with z|z
  .show h.x0 a z
  .rw [JY.mp z];show⟨f0 hx,f0 hh⟩
def HR.pop (s:GL cR H0 r lt fl)(h:HR cF cR bd H0 H fl r lt (xs++[(x,hd)]) (lo++[fr]) g):HR cF cR bd H0 (upd H fl (.lst (xs.map λa=>V.ref a.1))) fl r lt xs lo g:=by
 show G9 s.r0 λxr fs Y=>?_;obtain⟨ls,hl⟩:=s.l0;have O:∀{q u},H0 q=some u->q≠fl:=λe=>Aj e s.f0;obtain⟨U,p2⟩:=h.two;have IN:=h.IN;have ndh:=h.ndh;rw[MA,MY]at IN ndh;show⟨λq u e n1 n2=>by rw[Ak (O e)];show h.keep _ _ e n1 n2,h.IY.same λq u e c=>?_,Ag,Zk (hl:=λa ha=>h.x0 a (LX _ ha)) s U (λa ha u e=>?_) (λa ha u e=>?_),IN.1,ndh.1,λa ha=>h.x0 a (LX _ ha)⟩
 .have:q≠fl:=by
   rcases c with rfl|rfl
   .show O Y
   .show O hl
  rw[Ak this];show e
 .obtain⟨⟨_,_,G⟩,_⟩:=Gy U ha;rw[Ak (Bl G h.IG (by simp))];show e
 .show D7 (Gy U ha) λ_ z1=>?_;obtain⟨_,G⟩:=z1;rw[Ak (Bl G h.IG (by simp))];show e
end
end P2
namespace P2
open PySem PySem.Spec PyProof.Rows L2
def Want (cR cE:Addr)(bd:Int)(H0:Hp)(r lt:Addr)(Q:VK)(E:XK):Res->Prop
 | .JG v ls wk=>∀H' g,AA H0 H'->g.ls=ls->g.wk=wk->HL cR bd H' r lt g->Q (.int v) H'
 | .more ls wk=>∀dx H' g,AA H0 H'->g.ls=ls->g.wk=wk->HL cR bd H' r lt g->H' dx=some (.ext (XA dx [("end",.str "more"),("value",.AQ)]))->E (.ref cE) (some dx) H'
def Cds (cC:Addr)(H:Hp)(d:Addr)(cd:Str->Option MF):Prop:=∃kvs,H d=some (.dK kvs)/\∀h f,cd h=some f->∃c,Bt kvs (Sum.inr h)=some (.ref c)/\CU cC H c f
def Jy (cC cR cE:Addr):Sp:=λvs H Q E=>∃(d G r lt:Addr) (H0:Hp) (bd:Int) (cd:Str->Option MF) (f0:MF) (b0:MB) (bt:List MB) (v:Int) (m:Nat) (res:Res),vs=[.ref d,.ref G,.ref r]/\AA H0 H/\H0 r=none/\H0 lt=none/\Cds cC H0 d cd/\H0 G=some (.lst [.int v])/\cd "main"=some f0/\f0.bl=b0::bt /\
 HL cR bd H r lt ⟨[],0,0⟩/\Wu cd bd res m [] ⟨f0,b0,0,[(Sum.inl f0.p,.int v)]⟩ ⟨[],0,0⟩/\Want cR cE bd H0 r lt Q E res
structure TxA (K:A3)(mg:Bv)(cF:Addr)(dF:FuncData):Prop where
 II:mg "Frame"=some (.ref cF)
 IQ:Binds K dF Oh []
def Lp (cd:Str->Option MF)(cF cR:Addr)(bd:Int)(H:Hp)(d a1 fl r lt:Addr)(res:Res)(m:Nat)(σ:L2.St)(G:Hp):Prop:=
 ∃t4 t5 t6 O U Y a2 xs x hd lo fr g,σ=[some (.ref d),some (.ref a1),some (.ref r),some (.ref fl),t4,t5,t6,O,U,Y,a2]/\HR cF cR bd H G fl r lt (xs++[(x,hd)]) (lo++[fr]) g/\Wu cd bd res m lo fr g
section
variable {P:Program}{w:World}{K:A3}{mg:Bv}{base:Heap}{t1 t2 t3 t4:Tok}{cC cF cR cE fHas fRow fHeld fEnd fLed fRun fT fF:Addr}{dHas dRow dHeld dEnd dLed dRun dT dF:FuncData}
abbrev Om:List Str:=["codes","inputs","run"]
def EI:AB ["codes","inputs","run","frames","frame","name","op","told","args","values","value"] Om (Af Fa):=⟨rfl,rfl,rfl,by decide +kernel,rfl,by decide +kernel,by decide +kernel⟩
def P7 (F:AG K "answer_of" "answer_of" Fa f fd)(T:BK K mg t1 t2 t3 t4)(G:TxF K cF fHas fRow fHeld fEnd fLed fRun dHas dRow dHeld dEnd dLed dRun)(aJ:TxR K cR fT dT)(TM:TxA K mg cF dF)(b7:Mk K cF fF)(b6:AD P w K mg base AU 1 fF dF Oh (spFr cC cF))
   (cO:AD P w K mg base AU 1 fHas dHas Eo (Af5 cF))(cK:AD P w K mg base AU 1 fRow dRow Eo (Ss cF))(cM:AD P w K mg base AU 1 fHeld dHeld Md (Sy cF))(b8:AD P w K mg base AU 2 fEnd dEnd ["self","value"] (Uk cF))(cL:AD P w K mg base AU 3 fRun dRun ["self","end"] (Q4 cF))
   (cP:AD P w K mg base (HS P w) 3 fT dT Eo (Xj cR cE))(cN:FnB2 P w K mg base 5 "value_of" Op (Ph cR)):AD P w K mg base (HS P w) 6 f fd Om (Jy cC cR cE):=by
 show F.ok2 EI (λvs H Q E h=>?_) (λcdv A outer s H vs Q E hr h=>?_)
 . show Dl h λd a7 r lt H0 bd z1=>Dl z1 λcd f0 b0 bt v m z2=>Am z2 λres z3 _=>?_;subst z3;rfl
 . show Dl h λd a7 r lt H0 bd z1=>Dl z1 λcd f0 b0 bt v m z2=>Ad7 z2 λres z3 s0 r0 l0 z4 z5=>Ll z5 λhi cJ bK G0 U wt=>?_;subst z3;obtain⟨kvs,aq,ap⟩:=z4;have nd:=EI.nd;obtain⟨cV,aB⟩:=G0.run;have sG:∀{aG:Hp},Vg r lt H aG->AA H0 aG:=λk q u e=>k _ _ (s0 _ _ e) (Aj e l0) (Aj e r0);show Am (ap _ _ cJ) λc ec z1=>?_;obtain⟨dc,pl,bv,al,kb,cQ,cT,hc,bc,bS,az,bo,bF⟩:=z1;rw[bK]at az;obtain⟨rfl,rfl⟩:=List.cons.inj az
   show Ac (Ae (A9 (i:=3) nd rfl (Or.inl rfl) (G7 (Aa (J6 b7 b6 (rm hr) rfl TM.II TM.IQ .nil Fk (Aa (Cj (B4 hr) (qv 0) Av (λ_ _=>rfl)) (Aa (qv 1) Ad))) Ad)))
     (Ai (Q6 PassesOwn.leaving (Dy Hd) (Ae (A9 (i:=4) nd rfl (Or.inl rfl) (Ap (EK K) (qv 3) (Gw Es Ah) (λ_ _=>rfl)))
     (Ae (Kr (qv 2) Ah Ty)
     (Ai (Bh (Dy (J3 (qv 4) G.cl G.HY cO (rm hr) G.HX .nil Fk)) (Ae (L8 (J3 (qv 4) G.cl G.m_row cK (rm hr) G.b_row .nil Fk) (Bk K (n:=4) rfl (Ao (Al (i:=5) nd rfl (Or.inl rfl)) (Ao (Al (i:=6) nd rfl (Or.inl rfl)) (Ao (Al (i:=7) nd rfl (Or.inl rfl)) (Ao (Al (i:=8) nd rfl (Or.inl rfl)) Bj))))))
     (Ae (A9 (i:=9) nd rfl (Or.inl rfl) (Gx (qv 4) G.cl G.GI cM (rm hr) G.GG .nil Fk (Aa (qv 8) Ad)))
     (Ai (Bh (A2 Bs (qv 6) Av (A1 _)) (Ae (A7 (J3 (qv 2) aJ.cl aJ.GW cP (rm hr) aJ.GX .nil (Uw Hn rfl)))
     (Ai (A7 (Q7 MK PySem.F.slot_list_append PySem.F.type_list_append Ov (qv 3) (Aa (J6 b7 b6 (rm hr) rfl TM.II TM.IQ .nil Fk (Aa (Cj (B4 hr) (qv 0) (qv 7) (λ_ _=>rfl)) (Aa (qv 9) Ad))) Ad))))) (Ai (A7 (Gx (qv 4) G.cl G.FC b8 (rm hr) G.EX .nil Fk (Aa (Xz cN (Uw Hn rfl) (rm hr) rfl (Aa (qv 2) (Aa (qv 6) (Aa (qv 7) (Aa (qv 9) Ad))))) Ad)))))))) (Ai (Bh (A2 Bs (Ap (AT K) (Ap (AT K) (Ca K (qv 4) rfl) Ah (λ_ _=>rfl)) Ah (λ_ _=>rfl)) Av (A1 _)) (Ae (A9 (i:=10) nd rfl (Or.inl rfl) (Cj (B4 hr) (Ca K (qv 4) rfl) (Ap (AT K) (Ap (AT K) (Ca K (qv 4) rfl) Ah (λ_ _=>rfl)) Ah (λ_ _=>rfl)) (λ_ _=>rfl)))
     (Ae (A7 (X2 MK PySem.F.slot_list_pop PySem.F.type_list_pop Yt (qv 3)))
     (Ae (Bh (A2 Bs (Az (Gq K) rfl T.AZ KQ (Aa (qv 3) Ad)) Ah (A1 _)) (Ai (A0 (qv 10))) A4)
     (Ai (A7 (Gx (Ap (EK K) (qv 3) (Gw Es Ah) (λ_ _=>rfl)) G.cl G.FC b8 (rm hr) G.EX .nil Fk (Aa (qv 10) Ad))))))) (Ai (A7 (Gx (qv 4) G.cl G.IW cL (rm hr) G.JD .nil Fk (Aa (Ap (AT K) (Ca K (qv 4) rfl) Ah (λ_ _=>rfl)) Ad))))))))))))) ?_
   show Ac rfl (Aw d (.ref c) rfl (by rw[← ec];show AX.k (k:=Sum.inr "main") (s0 _ _ aq)) (Ac rfl λx dx hx bU IN=>?_));have a4:AA H (upd (upd H dx (.own x)) x (.ins cF dx [])):=λq u e=>by rw[Ak (Aj e hx),Ak (Aj e bU)];show e
   show Fe x c a7 dx dc pl (B0 al bv f0.p v rfl Ag (a4 _ _ (s0 _ _ hc)) (a4 _ _ (s0 _ _ bc)) (a4 _ _ (s0 _ _ hi)) λH1 hd bY k1 O a5=>(A6 rfl (zl 1) λfl IG=>?_));have s1:AA H H1:=λq u e=>k1 q u (a4 q u e) (Aj e hx);have fh:H hd=none:=a4.free bY;have ao:H fl=none:=s1.free IG;have st:GL cR H r lt fl:=⟨(Cs aB),⟨_,G0.hl⟩,ao⟩;have s2:AA H1 (upd H1 fl (.lst [.ref x])):=(AA.refl H1).upd IG;have bD:HR cF cR bd H (upd H1 fl (.lst [.ref x])) fl r lt ([]++[(x,hd)]) ([]++[⟨f0,b0,0,[(Sum.inl f0.p,.int v)]⟩]) ⟨[],0,0⟩:=
     ⟨λq u e _ _=>s2 _ _ (s1 _ _ e),G0.same λq u e _=>s2 _ _ (s1 _ _ e),Ag,.cons ⟨dx,al,kb,bv,s2 _ _ O,s2 _ _ a5,s0 _ _ bS,bF.mono s0.AH,bo.mono s0.AH⟩ .nil,by simp,by simp,λa ha=>by rw[JY.mp ha];show⟨hx,fh⟩⟩
   show Aq (Lp cd cF cR bd H d a7 fl r lt res) (Fe m none none none none none (Fe none none [] x hd [] (Bu rfl bD U))) ?_;rintro m σ aG ⟨t4,t5,t6,t7,t8,t9,af,xs,x,hd,lo,fr,g,rfl,a8,U⟩
   cases m with
   | zero=>show U.elim
   | succ m=>
   show Aq true rfl (Cq (Aq (Lp cd cF cR bd H d a7 fl r lt res m) (λσ' G' z=>(Aq m (OG m) z)) ?_));obtain⟨aK,au⟩:=a8.IY.run;show Ac rfl (Ac rfl (Bb fl _ (-1) (.ref x) rfl rfl (AK.of a8.IG) (by rw[MA];show Sd _ _) (norm (σ':=[some (.ref d),some (.ref a7),some (.ref r),some (.ref fl),some (.ref x),t5,t6,t7,t8,t9,af]) rfl ?_)));show Ac rfl (B8 r cR aK _ _ rfl au aJ.cl aJ.n3 rfl (Bu rfl rfl (Aw aK _ au (by show 4<1000;decide) (Lk a8.two.2.ex λdx a1 aC a2 O a5 a9 aD aF=>?_))));have x0:=a8.x0 (x,hd) (by simp);have aO:x≠r:=(Aj aB x0.1).symm;have aa:hd≠r:=(Aj aB x0.2).symm;have ac:x≠lt:=(Aj G0.hl x0.1).symm;have ax:hd≠lt:=(Aj G0.hl x0.2).symm;have ay:x≠hd:=Bl O a5 (by simp);have Y:HR cF cR bd H (upd aG r (.ins cR aK (Xr bd g.tk (g.wk+1) lt))) fl r lt (xs++[(x,hd)]) (lo++[fr]) {g with wk:=g.wk+1}:=
     a8.step st (λq u e _ _ n3 _=>by rw[Ak n3];show e) ⟨⟨aK,Ag⟩,by rw[Ak a8.IY.lr];show a8.IY.hl⟩ ⟨dx,a1,aC,a2,by rw[Ak aO];show O,by rw[Ak aa];show a5,a9,aD,aF⟩
   rw[show C8 "work" (V.int ((g.wk:Int)+1)) (Xr bd g.tk g.wk lt)=Xr bd g.tk (g.wk+1) lt from rfl];generalize upd aG r (.ins cR aK (Xr bd g.tk (g.wk+1) lt))=G2 at Y ⊢;have U:Ag7 cd bd res (Wu cd bd res m) lo fr {g with wk:=g.wk+1}:=U;generalize ({g with wk:=g.wk+1}:Sg)=g2 at *;show Lk Y.two.2.ex λdx a1 aC a2 O a5 a9 aD aF=>?_;have aP:=st.AH Y.keep;have aS:=aF.mono aP;have ai:=Y.IG;rcases U with⟨rw,zs,er,hz,hl,U⟩|⟨c5,U⟩
   . have bZ:fr.i<fr.b.rows.length:=(List.getElem?_eq_some_iff.mp er).1;show Ac rfl (Cr x dx _ rfl O rfl (Fe x dx a1 hd a2 fr.b (Ep fr.i rfl O aS (Ac rfl ?_))));rw[KH bZ];show Cq (B:=_) (Ac rfl (Cr x dx _ rfl O rfl (Fe x dx a1 hd a2 fr.b (Ct fr.i rw rfl O aS er λu ⟨ra,rb,eu,bf,bg⟩=>?_))));subst eu;show Br ra _ rfl (AC.of bf) rfl (Bg rfl (Bg rfl (Bg rfl (Bu rfl rfl (norm (σ':=[some (.ref d),some (.ref a7),some (.ref r),some (.ref fl),some (.ref x),some (.int rw.nm),some (.str rw.op),some rw.told,some (.ref rb),t9,af]) rfl (Ac rfl (Cr x dx _ rfl O rfl (Ac rfl (Fe x dx a1 hd rb a2 (B0 fr.i fr.env rw.args zs rfl O a5 bg hl ⟨hz,λvl G3 bi s3 av=>norm (σ':=[some (.ref d),some (.ref a7),some (.ref r),some (.ref fl),some (.ref x),some (.int rw.nm),some (.str rw.op),some rw.told,some (.ref rb),some (.ref vl),af]) rfl ?_⟩))))))))));have aR:=Y.IY.same λq u e _=>s3 _ _ e;have aI:=s3 _ _ O;have ar:=s3 _ _ a5;show A8 rfl rfl (Ac rfl ?_);rcases U with⟨no,aX,v,g',bz,U⟩|⟨ho,h,f,b1,cU,v,et,bN,bO,rfl,cY,k1,k2⟩
     . rw[eqS no];show Fd (A:=_) (Ac rfl (Cr x dx _ rfl aI rfl (Ac rfl (Ac rfl (Ac rfl (Ac rfl (Fe r vl lt rw.op rw.told bd (Bb zs g2 v g' rfl av aR bz λG4 ah k4=>?_))))))));have bj:=k4 _ _ aI ac;have bW:=k4 _ _ ar ax;have c9:FQ G4 a2 fr.b:=aF.mono λq us e=>k4 _ _ (s3 _ _ (aP _ _ e)) (Bl (aP _ _ e) Y.IY.hl (by simp));show Fe x dx a1 hd a2 fr.b (B0 fr.i rw (.int v) fr.env rfl bj c9 er bW ⟨Nat.lt_trans aX (by decide),?_⟩);have aH:HR cF cR bd H (upd (upd G4 hd (.dK (Ci fr.env (Sum.inl rw.nm) (.int v)))) x (.ins cF dx (Fn a1 a2 (fr.i+1) hd))) fl r lt (xs++[(x,hd)]) (lo++[fr.put rw.nm v]) g':=
         Y.step st (λq u e n1 n2 n3 n4=>by rw[Ak n1,Ak n2];show k4 _ _ (s3 _ _ e) n4) (ah.same λq u e c=>by
           rcases c with rfl|rfl
           . rw[Ak aO.symm,Ak aa.symm];show e
           . rw[Ak ac.symm,Ak ax.symm];show e) ⟨dx,a1,aC,a2,Ag,by rw[Ak ay.symm];show Ag,a9,aD,aF⟩
       show En (En (A8 rfl aH U))
     . rw[ho];show Cq (B:=_) ?_;obtain⟨bH,be⟩:=aR.run;show Ac rfl (Cr r bH _ rfl be rfl (V9 r lt bd g2 rfl aR (λhb bJ H' s' e=>?_) λhb G4 ah k4=>?_))
       . obtain rfl:=k1 hb;show wt bJ H' g2 ((sG Y.keep).trans (s3.trans s')) rfl rfl (aR.same λq u e _=>s' _ _ e) e
       . have bx:AA H0 G3:=(sG Y.keep).trans s3;have ae:AA H0 G4:=λq u e=>k4 _ _ (bx _ _ e) (Aj e r0);show Am (ap _ _ bN) λc' bL z1=>?_;obtain⟨bG,bw,am,ak,bp,cS,ca,bT,c6,c2,b2,c7,c0⟩:=z1;rw[bO]at b2;obtain⟨rfl,rfl⟩:=List.cons.inj b2;have bu:vl≠r:=(Aj (Y.IY.run.choose_spec) bi).symm;have bh:=k4 _ _ av bu;have b4:G4 fl=_:=k4 _ _ (s3 _ _ ai) (Aj aB ao).symm;have aj:HR cF cR bd H G4 fl r lt (xs++[(x,hd)]) (lo++[fr]) {g2 with tk:=g2.tk+1}:=
           Y.step st (λq u e _ _ n3 _=>k4 _ _ (s3 _ _ e) n3) ah ⟨dx,a1,aC,a2,k4 _ _ aI aO,k4 _ _ ar aa,a9,aD,aF⟩
         show A8 rfl (.inl ⟨rfl,_,AK.of b4⟩) (Ac rfl (Ac rfl (Aw d (.ref c') rfl (by rw[et,← bL];show AX.k (k:=Sum.inr h) (ae _ _ aq)) (Ac rfl λx' aL aY c3 cb=>?_))));have a4:AA G4 (upd (upd G4 aL (.own x')) x' (.ins cF aL [])):=λq u e=>by rw[Ak (Aj e aY),Ak (Aj e c3)];show e
         show Fe x' c' vl aL bG bw (B0 ak am f.p v rfl Ag (a4 _ _ (ae _ _ bT)) (a4 _ _ (ae _ _ c6)) (a4 _ _ bh) λG5 cX c4 k5 bn bX=>⟨rfl,?_⟩);have s5:AA G4 G5:=λq u e=>k5 q u (a4 q u e) (Aj e aY);have bE:=aj.push (fr':=⟨f,b1,0,[(Sum.inl f.p,.int v)]⟩) st s5 aY (a4.free c4) ⟨aL,ak,bp,am,bn,bX,s0 _ _ c2,c0.mono s0.AH,c7.mono s0.AH⟩;show Ny fl _ _ rfl rfl (s5 _ _ b4) ?_ (En (En (A8 rfl bE (k2 hb))));have bb:=L2.Paired.len aj.prs;simp only[JV,MO]at bb;simp only[JR,JV,MO];have h2:(1000000:Nat)<=sizeLine:=by rw[NJ];omega
         omega
   . show Ac rfl (Cr x dx _ rfl O rfl (Fe x dx a1 hd a2 fr.b (Ep fr.i rfl O aS (Ac rfl ?_))));rw[KL (Nat.not_lt.mpr c5)];show Fd (A:=_) ?_;have c8:=aS;show Fs c8 λba y z1 aA _ _ _ he=>?_;subst z1;rcases U with⟨n,v,ef,ev,U⟩|⟨n,l1,l2,v,b',ef,ev,bQ,el,U⟩
     . rw[ef]at he;show Am he λea ee aN=>?_;rw[ee]at aA;show Ac rfl (B8 x cF dx _ _ rfl O G.cl G.n2 rfl (Bb ba _ 3 _ rfl rfl (AC.of aA) rfl (B0 ea _ 0 _ rfl rfl (AC.of aN) rfl rfl (Ac rfl (Cq (B:=_) ?_)))));show Ac rfl (B8 x cF dx _ _ rfl O G.cl G.n4 rfl (Ac rfl (B8 x cF dx _ _ rfl O G.cl G.n2 rfl (Bb ba _ 3 _ rfl rfl (AC.of aA) rfl (Bb ea _ 1 _ rfl rfl (AC.of aN) rfl (Aw hd (.int v) rfl (by rw[← ev];show AX.k (k:=Sum.inl n) a5) (norm (σ':=[some (.ref d),some (.ref a7),some (.ref r),some (.ref fl),some (.ref x),t5,t6,t7,t8,t9,some (.int v)]) rfl (A8 rfl (.inl ⟨rfl,_,AK.of ai⟩) (Ny fl _ (.ref x) rfl rfl ai (by simp) ?_)))))))));rw[show((xs++[(x,hd)]).map λa=>V.ref a.1).dropLast=xs.map λa=>V.ref a.1 from by simp];have a6:=Y.pop st;rcases U with⟨rfl,rfl⟩|⟨cZ,b,rb,rfl,bP,aX,U⟩
       . obtain rfl:xs=[]:=List.eq_nil_of_length_eq_zero (L2.Paired.len a6.prs);show Ac rfl (Br fl [] rfl (.inl (AK.of Ag)) rfl (Ac rfl (Cq (B:=_) (Ac rfl (wt _ g2 (sG a6.keep) rfl rfl a6.IY)))))
       . obtain⟨ag,⟨xb,hb⟩,rfl⟩:∃ag a,xs=ag++[a]:=by
           have hl:=L2.Paired.len a6.prs;rw[JV,MO]at hl
           cases e:xs.reverse with
           | nil=>rw[List.reverse_eq_nil_iff.mp e]at hl;simp at hl
           | cons y b9=>show Jm b9.reverse y (by rw[← List.reverse_reverse xs,e];simp)
         show Lk a6.two.2.ex λaM aU bq aW aZ as bR c1 b5=>?_;have aQ:=a6.x0 (xb,hb) (by simp);show Ac rfl (Br fl _ rfl (.inl (AK.of Ag)) rfl (Ac rfl ?_));rw[show decide (V.int ((List.map (λa=>V.ref a.1) (ag++[(xb,hb)])).length:Int)=V.int 0)=false from KL λz=>by have:=V.int.inj z;simp at this;omega];show Fd (A:=_) ?_;show Ac rfl (Ac rfl (Bb fl _ (-1) (.ref xb) rfl rfl (AK.of Ag) (by rw[MA];show Sd _ _) (Cr xb aM _ rfl aZ rfl (Ac rfl (Fe xb aM aU hb aW b.b (B0 b.i rb (.int v) b.env rfl aZ (b5.mono (st.AH a6.keep)) bP as ⟨Nat.lt_trans aX (by decide),?_⟩))))));have cI:xb≠r:=(Aj aB aQ.1).symm;have cB:hb≠r:=(Aj aB aQ.2).symm;have cH:xb≠lt:=(Aj G0.hl aQ.1).symm;have cA:hb≠lt:=(Aj G0.hl aQ.2).symm;have cD:xb≠hb:=Bl aZ as (by simp)
         have aH:=a6.step (fr':=b.put rb.nm v) (H2:=upd (upd _ hb (.dK (Ci b.env (Sum.inl rb.nm) (.int v)))) xb (.ins cF aM (Fn aU aW (b.i+1) hb))) st (λq u e n1 n2 n3 n4=>by rw[Ak n1,Ak n2];show e) (a6.IY.same λq u e c=>by
           rcases c with rfl|rfl
           . rw[Ak cI.symm,Ak cB.symm];show e
           . rw[Ak cH.symm,Ak cA.symm];show e) ⟨aM,aU,bq,aW,Ag,by rw[Ak cD.symm];show Ag,bR,c1,b5⟩
         show En (En (A8 rfl aH U))
     . rw[ef]at he;have bV:=he;show Gp bV λea eb cW ee aN _=>Am (aD b' bQ) λu eu aw=>?_;rw[ee]at aA;show Ac rfl (B8 x cF dx _ _ rfl O G.cl G.n2 rfl (Bb ba _ 3 _ rfl rfl (AC.of aA) rfl (B0 ea _ 0 _ rfl rfl (AC.of aN) rfl rfl (Ac rfl (Fd (A:=_) ?_)))));show Ac rfl (Cr x dx _ rfl O rfl (Ac rfl (B8 x cF dx _ _ rfl O G.cl G.n2 rfl (Bb ba _ 3 _ rfl rfl (AC.of aA) rfl (Fe x dx a1 hd (.ref ba) (.ref ea) (Fe u fr.i n l1 l2 v (Qh b' aC fr.env rfl O (by rw[← ee];show he) a5 ev (C9 (st.dK Y.keep a9) (by rw[← el];show eu) (aw.mono aP) λG3 k3 aI=>?_))))))))
       have aH:=Y.step (fr':={fr with b:=b',i:=0}) (H2:=G3) st (λq u e n1 _ _ _=>k3 _ _ e n1) (Y.IY.same λq u e c=>by
           rcases c with rfl|rfl
           . show k3 _ _ e aO.symm
           . show k3 _ _ e ac.symm) ⟨dx,a1,aC,u,aI,k3 _ _ a5 ay.symm,a9,aD,aw⟩
       show En (En (A8 rfl aH U))
end
end P2
namespace P2
open PySem PySem.Spec PyProof.Rows L2
noncomputable def lamE:Arguments×Expr×Scope×Pos:=match Ar Cw with
 | [_,.Return (some (.Call _ [_,.Lambda p b s q] _ _)) _]=>(p,b,s,q)
 | _=>(⟨[],[],none,[],[],none,[]⟩,.Name "x" ⟨0,0,0,0⟩,Af Cw,⟨0,0,0,0⟩)
abbrev lamP:Arguments:=lamE.1
abbrev lamB:Expr:=lamE.2.1
abbrev HV:Scope:=lamE.2.2.1
abbrev GC:Pos:=lamE.2.2.2
noncomputable def L9:Str:="middle_run.<locals>.<lambda>"
def teL (cC cR cE:Addr)(E:XK):TE:=Q2 (Jy cC cR cE) [] E (Ia (La 1) (Ia (La 2) (Ia (La 0) Q0)))
noncomputable def Ag5:Res->V
 | .JG _ _ _=>.str "answer"
 | .more _ _=>.str "more"
noncomputable def Ae5:Res->V
 | .JG v _ _=>.int v
 | .more _ _=>.AQ
noncomputable def lsOf:Res->List Int
 | .JG _ l _=>l
 | .more l _=>l
noncomputable def wkOf:Res->Nat
 | .JG _ _ k=>k
 | .more _ k=>k
def Ve (cd:Str->Option MF)(bd v:Int)(res:Res):Prop:=∃f0 b0 bt m,cd "main"=some f0/\f0.bl=b0::bt/\Wu cd bd res m [] ⟨f0,b0,0,[(Sum.inl f0.p,.int v)]⟩ ⟨[],0,0⟩
def L3 (cC:Addr)(cl:List (Str×Addr))(fv:List V):Sp:=λvs H Q _=>∃(f c' d G:Addr) (bd v:Int) (cd:Str->Option MF) (res:Res),vs=[.int bd,.ref f]/\fv=[.ref d,.ref G]/\H f=some (.ext (DK f L9 lamP lamB HV cl c'))/\H c'=some (.ext (BZ c' L9))/\Cds cC H d cd/\H G=some (.lst [.int v])/\Ve cd bd v res /\
 ∀p tl H',AA H H'->H' tl=some (.tup ((lsOf res).map V.int))->H' p=some (.tup [Ag5 res,Ae5 res,.ref tl,.int (wkOf res)])->Q (.ref p) H'
def tsRun (K:A3):TS:=Ah1 (Zo (Ia (W9 K (La 4) "end") (Ia (W9 K (La 4) "value") (Ia (tCB (λxs H Q=>∃p ys,xs=[.ref p]/\((AK K H p ys/\∀l,H l=none->Q (.ref l) (upd H l (.tup ys)))\/(AC K H p ys/\Q (.ref p) H))) (Ia (Xe K (La 2) "letters") Q0)) (Ia (Xe K (La 2) "work") Q0)))))
structure TxW (K:A3)(mg:Bv)(cR:Addr)(dR:FuncData):Prop where
 g_Run:mg "Run"=some (.ref cR)
 b_Run:Binds K dR ["self","bound"] []
structure TxCm (K:A3)(mg:Bv)(cC:Addr)(dC:FuncData):Prop where
 g_Code:mg "Code"=some (.ref cC)
 b_Code:Binds K dC Mb []
noncomputable def Gr (p:List MF)(h:Str):Option MF:=p.find? λf=>decide (f.nm=h)
def Wp (e:Gr p h=some f):f∈p/\f.nm=h:=⟨List.mem_of_find?_eq_some e,by have:=List.find?_some e;show MX this⟩
def Xl (T:Addr):Sp:=λvs H Q _=>∃(v:V) (p:List MF) (G:Addr) (bd n:Int) (res:Res) (ps:Array Value),vs=[v,.ref G,.int bd]/\IsP H v p/\p.length<=10/\(p.map (·.nm)).Nodup/\(∀f∈p,CH (p.map (·.nm)) f)/\H G=some (.lst [.int n])/\Ve (Gr p) bd n res/\H T=some (.FK ps)/\K9 GC L9 ps H /\
 ∀q tl c' H',Kp T H H'->H' T=some (.FK #[rawInt GC.line,rawInt GC.col,.ref c'])->H' c'=some (.ext (BZ c' L9))->H' tl=some (.tup ((lsOf res).map V.int))->H' q=some (.tup [Ag5 res,Ae5 res,.ref tl,.int (wkOf res)])->Q (.ref q) H'
section
variable {P:Program}{w:World}{K:A3}{mg:Bv}{base:Heap}{t1 t2 t3 t4:Tok}{cC cR cE fI fK fC c Tb:Addr}{dI dK dC:FuncData}
theorem Rp:∀{l:List (Str×NameKind)},l.lookup y=some v->(y,v)∈l
 | [],h=>by cases h
 | (z,u)::r,h=>by
  rw[KJ]at h;by_cases e:y=z
  .subst e;simp at h;subst h;show LH
  .rw [show(y==z)=false from by simpa using e]at h;show KO _ (Rp h)
abbrev FD:List Str:=["codes","inputs"]
def Yw (y:Str)(h:(y,NameKind.free)∈HV.names):y∈(FD:List Str):=
 (by decide +kernel:∀z∈HV.names,z.2=NameKind.free->z.1∈(FD:List Str)) _ h rfl
def sc_lam:FP "run" FD HV:=⟨rfl,rfl,rfl,rfl,by decide +kernel,by decide +kernel,λy h=>Yw y (Rp h),by decide +kernel⟩
def lam_fn (O:FnB2 P w K mg base 6 "answer_of" Om (Jy cC cR cE)):LamFn P w K mg base 6 L9 lamP lamB HV "run" FD (teL cC cR cE):=by
 show⟨sc_lam,λcl pm c' ctv u=>rfl,λf c' cl A outer s H E G=>Xz O (Uw S4 rfl) G rfl (Aa (qv 1) (Aa (qv 2) (Aa (qv 0) Ad)))⟩
abbrev Od:List Str:=["bound","answered"]
def DQ:AB ["bound","answered","run","answer","e"] Od (Af Ec):=⟨rfl,rfl,rfl,by decide +kernel,rfl,by decide +kernel,by decide +kernel⟩
def Nl (F:AG K "run_within" "run_within" Ec f fd)(T:BK K mg t1 t2 t3 t4)(TE:TxE K mg cE fI dI)(G:TxR K cR fK dK)(TM:TxW K mg cR dR)(aG:Mk K cR fR)(aF:AD P w K mg base AU 1 fR dR ["self","bound"] (Af3 cR))(L:LamFn P w K mg base 6 L9 lamP lamB HV "run" FD (teL cC cR cE)):FnOkC P w K mg base AU 8 f fd Od FD (L3 cC):=by
 show F.okC DQ (λcl fv vs H Q E h=>?_) (λcdv A outer s H vs Q E cl fv hr cells h=>?_)
 . show Dl h λf c' d a6 bd v z1=>B5 z1 λcd res z2 _=>?_;subst z2;rfl
 . show Dl h λf c' d a6 bd v z1=>Fs z1 λcd res z2 z3 hf aA a8 z4=>B9 z4 λhi z5 k=>?_;subst z2 z3;obtain⟨f0,b0,bt,m,aD,a9,rn⟩:=z5;have nd:=DQ.nd
   show Ac (Ae (A9 (i:=2) nd rfl (Or.inl rfl) (J6 aG aF (rm hr) rfl TM.g_Run TM.b_Run .nil Fk (Aa (qv 0) Ad)))
     (Ae (Zy (ts:=tsRun K) (i:=4) (ja:=1) (jr:=2) (ia:=3) nd rfl rfl rfl rfl rfl L (rm hr) rfl TE.g_E rfl (Or.inl rfl) rfl (Or.inl rfl) rfl (Or.inl rfl) (Or.inr rfl) (λ_ _=>(Ai (A0 (Bq (Aa (Uq (qv 4) rfl) (Aa (Uq (qv 4) rfl) (Aa (Fy Je rfl T.BC NV (Aa (Ic (qv 2) rfl) Ad)) (Aa (Ic (qv 2) rfl) Ad)))))))))
     (Ai (A0 (Bq (Aa Av (Aa (qv 3) (Aa (Fy Je rfl T.BC NV (Aa (Ic (qv 2) rfl) Ad)) (Aa (Ic (qv 2) rfl) Ad))))))))) ?_
   show Ac rfl λx dx hx aB IN=>?_;have a7:AA H (upd (upd H dx (.own x)) x (.ins cR dx [])):=λq u e=>by rw[Ak (Aj e hx),Ak (Aj e aB)];show e
   show Qi x dx bd rfl Ag λH1 lt aC k1 G1=>⟨rfl,?_⟩;have s1:AA H H1:=λq u e=>k1 q u (a7 q u e) (Aj e hx);have flt:H lt=none:=a7.free aC;show B8 f c' cl _ (.ref x) rfl rfl (s1 _ _ hf) (s1 _ _ aA) cells (Ac rfl (Ac rfl (Ac rfl (Fe d a6 x lt H bd (Fe cd f0 b0 bt v m (Jn res rfl s1 hx flt a8 (Qk hi aD a9 G1 rn ?_)))))))
   cases res with
   | JG v ls wk=>
     rintro H3 g keep rfl rfl U;obtain⟨a1,O⟩:=U.run;show Ac rfl (Ac rfl (B8 x cR a1 _ _ rfl O G.cl G.n4 rfl (Ce lt _ rfl (.inl ⟨AK.of U.hl,λtl a2=>?_⟩))));show Ac rfl (B8 x cR a1 _ _ rfl (by rw[Ak (Aj O a2)];show O) G.cl G.n3 rfl ⟨zl 4,λp Y=>k p tl _ ((keep.upd a2).upd Y) ?_ Ag⟩);rw[Ak (Aj Ag Y)];show Ag
   | more ls wk=>
     rintro a4 H3 g keep rfl rfl U he;show⟨TE.mt,λae a5=>?_⟩;obtain⟨a1,O⟩:=U.run;have up:∀y u,H3 y=some u->upd H3 ae (.ext (XD ae (.ref cE) (some a4))) y=some u:=λy u e=>by rw[Ak (Aj e a5)];show e
     show Ac rfl (B8 ae cE a4 _ _ rfl Ag (up _ _ he) TE.xc TE.hd (A6 TE.n1 rfl (Ac rfl (B8 ae cE a4 _ _ rfl Ag (up _ _ he) TE.xc TE.hd (A6 TE.n2 rfl (Ac rfl (B8 x cR a1 _ _ rfl (up _ _ O) G.cl G.n4 rfl (Ce lt _ rfl (.inl ⟨AK.of (up _ _ U.hl),λtl a2=>?_⟩)))))))));show Ac rfl (B8 x cR a1 _ _ rfl (by rw[Ak (Aj (up _ _ O) a2)];show up _ _ O) G.cl G.n3 rfl ⟨zl 4,λp Y=>k p tl _ (((keep.upd a5).upd a2).upd Y) ?_ Ag⟩);rw[Ak (Aj Ag Y)];show Ag
abbrev Oq:List Str:=["program","inputs","bound"]
def DR:AB ["program","inputs","bound","codes"] Oq (Af Cw):=⟨rfl,rfl,rfl,by decide +kernel,rfl,by decide +kernel,by decide +kernel⟩
def Ae1 (h:env.cells=([("codes",a),("inputs",b)]:List (Str×Addr))):closureFor HV env=pure ([("inputs",b),("codes",a)]:List (Str×Addr)):=by
 cases env;dsimp only at h;subst h;rfl
def Nm (F:AG K "middle_run" "middle_run" Cw f fd)(hc:fd.code=.ref c)(C:PySem.W.CodeHd base c Tb)(B:BM mg base)(T:BK K mg t1 t2 t3 t4)(TM:TxCm K mg cC dC)(aQ:Mk K cC fC)(aP:AD P w K mg base AU 2 fC dC Mb (Xo cC))(aR:FnBC P w K mg base 8 "run_within" Od FD (L3 cC)):AD P w K mg base AU 9 f fd Oq (Xl Tb):=by
 show F.okL DR (λvs H Q E h=>?_) (λcdv A outer s H vs Q E aD hr h=>?_)
 .show Dl h λv p a5 bd n res z1=>Am z1 λps z2 _=>?_;subst z2;rfl
 .show Dl h λv p a5 bd n res z1=>Ad7 z1 λps z2 z3 hl EY fk z4=>Js z4 λhi rn hT aJ k=>?_;subst z2;obtain⟨a,fs,rfl,ha,pr⟩:=z3;have nd:=DR.nd;have lv:=L2.Paired.len pr;obtain⟨n1,n2,a7⟩:∃n1 n2,(envOfC "middle_run" (Af Cw) s.heap.objs.size f cdv).cells=([("codes",n1),("inputs",n2)]:List (Str×Addr)):=(Cs rfl);have aC:cdv=.ref c:=aD.symm.trans hc
  show Ac (Ae (A9 (i:=3) nd rfl (Or.inr rfl) (Ig (N':=AO) (n:=1) (AS.nil rfl (by decide) (by decide) (by decide) rfl) rfl (Be K (qv 0)) (λ_ _ _=>(C9 (Al (i:=0) (show List.Nodup (AO:List Str)from by decide +kernel) rfl (Or.inl rfl)) Bm (Ap (AT K) (qv 0) Ah (λ_ _=>rfl)) (J6 aQ aP (rm hr) rfl TM.g_Code TM.b_Code .nil Fk (Aa (qv 0) Ad))))))
   (Ai (A0 (Vs (j1:=3) (j2:=1) (cl:=[("inputs",n2),("codes",n1)]) aR hr rfl (Aa (qv 2) (Aa (qe_lam (c:=c) (T:=Tb) aC C B (Ae1 a7) rfl) Ad)) rfl rfl rfl rfl (λz=>(V3 (by decide) z).trans (LR (List.lookup z) a7).symm))))) ?_
  show Ac rfl (Bc a rfl ⟨_,AC.of ha⟩ λD hD=>?_);show Ga (xs:=fs) (λi ys σ H'=>(∃o1,σ=[o1])/\AA H H'/\H' D=some (.dK ys)/\ys.length<=i/\∀c∈p.take i,∃x,Bt ys (Sum.inr c.nm)=some (.ref x)/\CU cC (Hid D H') x c) (JU (show fs.length<=10 by omega) (by decide)) (Fq ⟨_,rfl⟩ ((AA.refl H).upd hD) Ag (JN _) (by simp))
   (λi ys σ H' hi ⟨_,sm,hd,e,_⟩=>(A6 (AC.of (sm _ _ ha)) hd e)) ?_ ?_
  .rintro i u ys σ H' hu ⟨⟨o1,rfl⟩,sm,hd,le,hm⟩;show Am (L2.Paired.at pr hu) λfn Y a6=>?_;have aN:=a6;show Fw a6 λfa y z1 hf aU _=>?_;subst z1;show Ac rfl (Bb fa _ 0 _ rfl rfl (AC.of (sm _ _ hf)) rfl (Ac rfl λx dx hx aG IN=>?_));have a2:AA H' (upd (upd H' dx (.own x)) x (.ins cC dx [])):=λq u e=>by rw[Ak (Aj e hx),Ak (Aj e aG)];show e
   show Ad3 _ _ fn x dx rfl Ag (aN.mono (sm.trans a2).AH) (fk fn (JJ Y)) λU k5 aS aL=>⟨rfl,(Aq (Sum.inr fn.nm) rfl ?_)⟩;have s5:AA H' U:=λq u e=>k5 q u (a2 q u e) (Aj e hx);have ch:=aL D ys (a2 _ _ hd);have eH:Hid D (upd U D (.dK (Ci ys (Sum.inr fn.nm) (.ref x))))=Hid D U:=by
    funext q;by_cases e:q=D
    .rw [e];unfold Hid;rw[KE rfl,KE rfl]
    .rw [Im e,Im e,Ak e]
   have sH:AA (Hid D H') (Hid D U):=λq u e=>by
    by_cases z:q=D
    .rw [z]at e;unfold Hid at e;rw[KE rfl]at e;cases e
    .rw [Im z]at e ⊢;show s5 _ _ e
   show Qk (s5 _ _ hd) ⟨_,rfl⟩ (Gu (sm.trans s5) hD) Ag ?_ λc hc=>?_
   .have:=Bo ys (Sum.inr fn.nm) (V.ref x);omega
   .rw [Cd,eH];rw[Bx Y,KU]at hc;by_cases e:c.nm=fn.nm
    .rw [KE (LR _ e)];have aF:c∈p:=hc.elim (λz=>List.mem_of_mem_take z) λz=>by rw[JY.mp z];show JJ Y
     rw[Rm EY aF (JJ Y) e];show Ac rfl ch
    .rw [JW λz=>e (Sum.inr.inj z)];show Am (hm c (hc.resolve_right λz=>e (by rw[JY.mp z]))) λx' G O=>Aq x' G (O.same sH)
  .rintro kv σ H2 ⟨_,s2,aA,_,cm⟩;rw[lv,LG]at cm;have sU:AA (Hid D H2) H2:=λq u e=>by
    by_cases z:q=D
    .rw [z]at e;unfold Hid at e;rw[KE rfl]at e;cases e
    .rw [Im z]at e;show e
   have a9:Cds cC H2 D (Gr p):=(Aq kv aA λh f e=>by
    obtain⟨hf,rfl⟩:=Wp e
    show Am (cm f hf) λx G O=>(Aq x G (O.same sU)))
   have aO:K9 GC L9 ps H2:=aJ.imp id λ⟨c,G,O⟩=>(Aq c G (s2 _ _ O));show Ac rfl (Bc ps (s2 _ _ hT) aO λlf c' H3 aW aM a4 aB keep=>?_);have kT:Kp Tb H2 H3:=λq u e n=>keep _ _ e n;have aK:Cds cC H3 D (Gr p):=by
    show Am a9 λaI h1 h2=>Aq aI (kT _ _ h1 (Bl h1 (s2 _ _ hT) (by simp))) λh f e=>?_;show Am (h2 h f e) λx G z1=>?_;obtain⟨dx,pl,bv,a8,kb,b0,bt,g1,g2,g3,g4,g5,g6⟩:=z1;have a1:=s2 _ _ hT;have tp:CI H2 H3:=λq xs e=>kT _ _ e (Bl e a1 (by simp));show Aq x G ⟨dx,pl,bv,a8,kb,b0,bt,kT _ _ g1 (Bl g1 a1 (by simp)),kT _ _ g2 (Bl g2 a1 (by simp)),kT _ _ g3 (Bl g3 a1 (by simp)),g4,g5.mono tp,g6.mono tp⟩
   show Bu rfl rfl (Fe lf c' D a5 bd n (D5 (Gr p) res rfl rfl aM a4 aK (A6 (kT _ _ (s2 _ _ hi) (Bl (s2 _ _ hi) (s2 _ _ hT) (by simp))) rn λq tl H4 s4 aH hq=>k q tl c' H4 (λy u e n=>s4 _ _ (kT _ _ (s2 _ _ e) n)) (s4 _ _ aB) (s4 _ _ a4) aH hq)))
end
end P2
namespace P2
open PySem PySem.Spec PyProof.Rows L2
section
variable {cd:Str->Option MF}{bd:Int}{res:Res}{lo:List Fr}{f:MF}{b:MB}{i:Nat}{env:List (Key×V)}{g:Sg}
def Eu (cd:Str->Option MF)(bd:Int)(res:Res)(lo:List Fr)(fr:Fr)(g:Sg):Prop:=∃m,Wu cd bd res m lo fr g
def RetE (cd:Str->Option MF)(bd:Int)(res:Res)(lo:List Fr)(v:Int)(g:Sg):Prop:=(lo=[]/\res=.JG v g.ls g.wk)\/∃G b r,lo=G++[b]/\b.b.rows[b.i]?=some r/\b.env.length<100/\Eu cd bd res G (b.put r.nm v) g
def Lz (G:b.rows[i]?=some r)(U:r.op≠"call")(hz:r.args.map (λn=>Bt env (Sum.inl n))=zs.map some)(ha:r.args.length<=10)(hl:env.length<100)(O:Val r.op r.told zs {g with wk:=g.wk+1} v {g with wk:=g.wk+1,ls:=ls'})
  (k:Eu cd bd res lo ⟨f,b,i+1,Ci env (Sum.inl r.nm) (.int v)⟩ ⟨ls',g.tk,g.wk+1⟩):Eu cd bd res lo ⟨f,b,i,env⟩ g:=by
 obtain⟨m,k⟩:=k;show⟨m+1,.inl (Br r zs G hz ha (.inl (A6 U hl (Ce v _ O k))))⟩
def Lm (O:b.rows[i]?=some r)(ho:r.op="call")(ht:r.told=.str h)(hc:cd h=some G)(U:G.bl=b0::bt)(hz:r.args.map (λn=>Bt env (Sum.inl n))=[some (.int v)])(a1:lo.length<100000)(Y:(g.tk:Int)<bd)
  (k:Eu cd bd res (lo++[⟨f,b,i,env⟩]) ⟨G,b0,0,[(Sum.inl G.p,.int v)]⟩ ⟨g.ls,g.tk+1,g.wk+1⟩):Eu cd bd res lo ⟨f,b,i,env⟩ g:=by
 obtain⟨m,k⟩:=k;have ha:r.args.length<=10:=by have:=LR List.length hz;simp at this;omega
 show⟨m+1,.inl (Br r [.int v] O hz ha (.inr ⟨ho,(B8 h G b0 bt v ht hc U rfl a1 ⟨λz=>absurd Y (Int.not_lt.mpr z),λ_=>k⟩)⟩))⟩
def Ug (O:b.rows[i]?=some r)(ho:r.op="call")(ht:r.told=.str h)(hc:cd h=some G)(U:G.bl=b0::bt)(hz:r.args.map (λn=>Bt env (Sum.inl n))=[some (.int v)])(a1:lo.length<100000)(Y:bd<=(g.tk:Int))
  (k:res=.more g.ls (g.wk+1)):Eu cd bd res lo ⟨f,b,i,env⟩ g:=by
 have ha:r.args.length<=10:=by have:=LR List.length hz;simp at this;omega
 show⟨1,.inl (Br r [.int v] O hz ha (.inr ⟨ho,(B8 h G b0 bt v ht hc U rfl a1 ⟨λ_=>k,λz=>absurd z (Int.not_lt.mpr Y)⟩)⟩))⟩
def st_br (hl:b.rows.length<=i)(G:b.fin=.br n l1 l2)(ev:Bt env (Sum.inl n)=some (.int v))(U:b'∈f.bl)(O:b'.lb=(if v=0 then l2 else l1))(k:Eu cd bd res lo ⟨f,b',0,env⟩ ⟨g.ls,g.tk,g.wk+1⟩):Eu cd bd res lo ⟨f,b,i,env⟩ g:=by
 obtain⟨m,k⟩:=k;show⟨m+1,.inr ⟨hl,.inr (Ad3 n l1 l2 v b' G ev U O k)⟩⟩
def Xh (hl:b.rows.length<=i)(G:b.fin=.gv n)(ev:Bt env (Sum.inl n)=some (.int v))(k:RetE cd bd res lo v ⟨g.ls,g.tk,g.wk+1⟩):Eu cd bd res lo ⟨f,b,i,env⟩ g:=by
 rcases k with⟨rfl,k⟩|⟨a1,O,r,rfl,U,Y,m,k⟩
 .show⟨1,.inr ⟨hl,.inl (Aw n v G ev (.inl ⟨rfl,k⟩))⟩⟩
 .show⟨m+1,.inr ⟨hl,.inl (Aw n v G ev (.inr (Cr a1 O r rfl U Y k)))⟩⟩
end
structure AN where
 IH:Int
 add:Int
 out:Bool
noncomputable def AN.nm (F:AN)(k:Int):Int:=k*F.IH+F.add
noncomputable def AN.lb (F:AN)(k:Int):Int:=3*F.add+F.IH*k
noncomputable def AN.o (F:AN):Nat:=if F.out then 1 else 0
noncomputable def AN.FL (F:AN):List MR:=[⟨F.nm 1,"num",.int 0,[]⟩,⟨F.nm 2,"=",.AQ,[F.nm 0,F.nm 1]⟩]
noncomputable def AN.CJ (F:AN):List MR:=if F.out then[⟨F.nm 6,"out",.AQ,[F.nm 0]⟩] else[]
noncomputable def AN.EA (F:AN):List MR:=F.CJ++[⟨F.nm 3,"num",.int 1,[]⟩,⟨F.nm 4,"-",.AQ,[F.nm 0,F.nm 3]⟩]++[⟨F.nm 5,"call",.str "g",[F.nm 4]⟩]
noncomputable def AN.bA (F:AN):MB:=⟨F.lb 2,F.FL,.br (F.nm 2) (F.lb 0) (F.lb 1)⟩
noncomputable def AN.bB (F:AN):MB:=⟨F.lb 1,F.EA,.gv (F.nm 5)⟩
noncomputable def AN.bC (F:AN):MB:=⟨F.lb 0,[],.gv (F.nm 0)⟩
noncomputable def AN.g (F:AN):MF:=⟨"g",F.nm 0,[F.bA,F.bB,F.bC]⟩
noncomputable def bM:MB:=⟨7,[⟨2,"call",.str "g",[4]⟩],.gv 2⟩
noncomputable def fM:MF:=⟨"main",4,[bM]⟩
noncomputable def AN.prog (F:AN):List MF:=if F.add%2=0 then[fM,F.g] else[F.g,fM]
structure AN.Ok (F:AN):Prop where
 b1:1<=F.IH
 b3:F.IH<=3
 a0:0<=F.add
 a3:F.add<=3
noncomputable def AN.outs (F:AN):Nat->List Int
 | 0=>[]
 | k+1=>(if F.out then[((k+1:Nat):Int)] else[])++F.outs k
def Ho {env:List (Key×V)}{k:Key}{v:V}{n:Nat}(h:env.length<=n):(Ci env k v).length<=n+1:=JU (Bo _ _ _) (Nat.succ_le_succ h)
def nm_inj {F:AN}(ok:F.Ok){j k:Int}(h:(Sum.inl (F.nm j):Key)=Sum.inl (F.nm k)):j=k:=by
 have:=MI h;unfold AN.nm at this;have h1:=ok.b1;have h2:j*F.IH=k*F.IH:=by omega
 show Int.eq_of_mul_eq_mul_right (by omega) h2
def Ip {env:List (Key×V)}{k:Key}{v:V}:Bt (Ci env k v) k=some v:=by rw[Cd,KE rfl]
def Jv {F:AN}(ok:F.Ok){env:List (Key×V)}{j k:Int}{v:V}(n:j≠k):Bt (Ci env (Sum.inl (F.nm k)) v) (Sum.inl (F.nm j))=Bt env (Sum.inl (F.nm j)):=by rw[Cd,JW λz=>n (nm_inj ok z)]
def lst2 {α:Type}{a b x y:α}(h:a=x)(k:b=y):[a,b]=[x,y]:=by rw[h,k]
def Ac4 {α:Type}{a x:α}(h:a=x):[a]=[x]:=by rw[h]
def AN.ES (F:AN):Gr F.prog "g"=some F.g:=by
 unfold AN.prog Gr;split<;>rfl
def AN.prog_m (F:AN):Gr F.prog "main"=some fM:=by
 unfold AN.prog Gr;split<;>rfl
section
variable {F:AN}{bd:Int}{res:Res}{lo:List Fr}
def Ad4 (ok:F.Ok)(b':MB)(U:b'∈F.g.bl)(O:b'.lb=if k=0 then F.lb 0 else F.lb 1)
  (h:∀env,env.length<=3->Bt env (Sum.inl (F.nm 0))=some (.int k)->Eu (Gr F.prog) bd res lo ⟨F.g,b',0,env⟩ ⟨ls,tk,wk+3⟩):Eu (Gr F.prog) bd res lo ⟨F.g,F.bA,0,[(Sum.inl (F.nm 0),.int k)]⟩ ⟨ls,tk,wk⟩:=by
 have G:Bt [((Sum.inl (F.nm 0):Key),V.int k)] (Sum.inl (F.nm 0))=some (.int k):=C7 rfl;show Lz (zs:=[]) (ls':=ls) (v:=0) rfl (by show("num":Str)≠"call";decide) rfl (by show 0<=10;decide) (by show 1<100;decide) (.inl (A6 rfl rfl rfl)) ?_;show Lz (zs:=[.int k,.int 0]) (ls':=ls) (v:=if k=0 then 1 else 0) rfl (by show("=":Str)≠"call";decide) ?_ (by show 2<=10;decide) (NT (Ho (JN 1)) (by decide)) (.inr (.inr (Br k 0 rfl (.inl rfl) rfl rfl))) ?_
 .show lst2 ((Jv ok (by decide)).trans G) Ip
 .show st_br (b':=b') (v:=if k=0 then 1 else 0) (JN 2) rfl Ip U ?_ ?_
  .rw [O];by_cases e:k=0
   .rw [KE e,KE e];rfl
   .rw [JW e,JW e];rfl
  .show h _ (Ho (Ho (JN 1))) ?_
   show Bt (Ci (Ci _ (Sum.inl (F.nm 1)) _) (Sum.inl (F.nm 2)) _) _=_
   rw[Jv ok (by decide),Jv ok (by decide)];show G
def body (ok:F.Ok)(hk:k<=2500)(hl:env.length<=3)(a1:ls.length<10000)(G:Bt env (Sum.inl (F.nm 0))=some (.int ((k+1:Nat):Int)))
  (h:∀env i,env.length<=6->F.bB.rows[i]?=some ⟨F.nm 5,"call",.str "g",[F.nm 4]⟩->F.bB.rows.length<=i+1->Bt env (Sum.inl (F.nm 4))=some (.int (k:Int))->Eu (Gr F.prog) bd res lo ⟨F.g,F.bB,i,env⟩ ⟨ls++(if F.out then[((k+1:Nat):Int)] else[]),tk,wk+2+F.o⟩):Eu (Gr F.prog) bd res lo ⟨F.g,F.bB,0,env⟩ ⟨ls,tk,wk⟩:=by
 obtain⟨b,a,out⟩:=F;have two:∀(env:List (Key×V)) (ls:List Int) (wk i:Nat),env.length<=4->Bt env (Sum.inl (AN.nm ⟨b,a,out⟩ 0))=some (.int ((k+1:Nat):Int))->(AN.bB ⟨b,a,out⟩).rows[i]?=some ⟨AN.nm ⟨b,a,out⟩ 3,"num",.int 1,[]⟩->(AN.bB ⟨b,a,out⟩).rows[i+1]?=some ⟨AN.nm ⟨b,a,out⟩ 4,"-",.AQ,[AN.nm ⟨b,a,out⟩ 0,AN.nm ⟨b,a,out⟩ 3]⟩ ->
   (∀env,env.length<=6->Bt env (Sum.inl (AN.nm ⟨b,a,out⟩ 4))=some (.int (k:Int))->Eu (Gr (AN.prog ⟨b,a,out⟩)) bd res lo ⟨AN.g ⟨b,a,out⟩,AN.bB ⟨b,a,out⟩,i+2,env⟩ ⟨ls,tk,wk+2⟩)->Eu (Gr (AN.prog ⟨b,a,out⟩)) bd res lo ⟨AN.g ⟨b,a,out⟩,AN.bB ⟨b,a,out⟩,i,env⟩ ⟨ls,tk,wk⟩:=λenv ls wk i hl G U Y h=>by
  show Lz (zs:=[]) (ls':=ls) (v:=1) U (by show("num":Str)≠"call";decide) rfl (by show 0<=10;decide) (by show env.length<100;omega) (.inl (A6 rfl rfl rfl)) ?_;show Lz (zs:=[.int ((k+1:Nat):Int),.int 1]) (ls':=ls) (v:=(k:Int)) Y (by show("-":Str)≠"call";decide) ?_ (by show 2<=10;decide) (NT (Ho hl) (by decide)) (.inr (.inr (Br ((k+1:Nat):Int) 1 rfl (.inr (A6 rfl (by omega) (by omega))) ?_ rfl))) ?_
  .show lst2 ((Jv ok (by decide)).trans G) Ip
  .show (k:Int)=rkv "-" _ _
   unfold rkv;rw[JW (by decide)];omega
  .show h _ (Ho (Ho hl)) Ip
 cases out with
 | false=>
  have:=two env ls wk 0 (by omega) G rfl rfl λenv hl O=>by
   have:=h env 2 hl rfl (JN _) O;simpa [AN.o]using this
  show this
 | true=>
  show Lz (zs:=[.int ((k+1:Nat):Int)]) (ls':=ls++[((k+1:Nat):Int)]) (v:=0) rfl (by show("out":Str)≠"call";decide) ?_ (by show 1<=10;decide) (by show env.length<100;omega) (.inr (.inl ⟨rfl,(jj13 rfl (by show ls.length<100000;omega) rfl rfl)⟩)) ?_
  .show Ac4 G
  .show two _ _ (wk+1) 1 (Ho hl) ?_ rfl rfl λenv hl O=>?_
   .show Bt (Ci env (Sum.inl (AN.nm ⟨b,a,true⟩ 6)) _) _=_
    rw[Jv ok (by decide)];show G
   .have:=h env 3 hl rfl (JN _) O;have e:wk+2+AN.o ⟨b,a,true⟩=wk+1+2:=by show wk+2+1=_;omega
    rw[e]at this;show this
theorem Ag6 (ok:F.Ok):∀(k:Nat) (lo:List Fr) (ls:List Int) (tk wk:Nat),k<=2500->lo.length+k<10000->ls.length+k<10000->((tk+k:Nat):Int)<=bd->RetE (Gr F.prog) bd res lo 0 ⟨ls++F.outs k,tk+k,wk+(7+F.o)*k+4⟩->Eu (Gr F.prog) bd res lo ⟨F.g,F.bA,0,[(Sum.inl (F.nm 0),.int (k:Int))]⟩ ⟨ls,tk,wk⟩
 | 0,lo,ls,tk,wk,_,_,_,_,h=>by
  show Ad4 ok F.bC (by simp[AN.g]) rfl λenv hl G=>Xh (v:=0) (JN 0) rfl G ?_;simpa [AN.outs]using h
 | k+1,lo,ls,tk,wk,hk,a1,a2,hb,h=>by
  show Ad4 ok F.bB (by simp[AN.g]) (by rw[JW (by omega)];rfl) λenv hl G=>body ok (by omega) hl (by omega) G λenv i hl O hi G=>?_;show Lm (v:=(k:Int)) O rfl rfl F.ES rfl (Ac4 G) (by omega) (by show(tk:Int)<bd;omega) ?_;show Ag6 ok k _ _ _ _ (by omega) (by rw[JV];simp;omega) (by rw[JV];show ls.length+_+k<10000;split<;>simp<;>omega) (by show((tk+1+k:Nat):Int)<=bd;omega) ?_;show .inr (Cr lo _ _ rfl O (by show env.length<100;omega) (Xh (n:=F.nm 5) (v:=0) hi rfl Ip ?_));have U:ls++(if F.out then[((k+1:Nat):Int)] else[])++F.outs k=ls++F.outs (k+1):=by rw[No];rfl
  have Y:tk+1+k=tk+(k+1):=by omega
  have e3:wk+3+2+F.o+1+(7+F.o)*k+4+1=wk+(7+F.o)*(k+1)+4:=by rw[Nat.mul_succ];omega
  show RetE _ _ _ lo 0 ⟨ls++(if F.out then[((k+1:Nat):Int)] else[])++F.outs k,tk+1+k,wk+3+2+F.o+1+(7+F.o)*k+4+1⟩
  rw[U,Y,e3];show h
theorem Zh (ok:F.Ok):∀(k:Nat) (lo:List Fr) (ls:List Int) (tk wk:Nat),k+1<=2500->lo.length+k<10000->ls.length+k<9000->((tk+k:Nat):Int)=bd->res=.more (ls++F.outs (k+1)) (wk+(6+F.o)*(k+1))->Eu (Gr F.prog) bd res lo ⟨F.g,F.bA,0,[(Sum.inl (F.nm 0),.int ((k+1:Nat):Int))]⟩ ⟨ls,tk,wk⟩
 | 0,lo,ls,tk,wk,hk,a1,a2,hb,h=>by
  show Ad4 ok F.bB (by simp[AN.g]) (by rw[JW (by omega)];rfl) λenv hl G=>body ok (k:=0) (by omega) hl (by omega) G λenv i hl Y hi G=>?_;show Ug (v:=0) Y rfl rfl F.ES rfl (Ac4 G) (by omega) (by show bd<=(tk:Int);omega) ?_;rw[h];have O:ls++F.outs (0+1)=ls++(if F.out then[((0+1:Nat):Int)] else[]):=by
   show ls++((if F.out then[((0+1:Nat):Int)] else[])++[])=_
   rw[List.append_nil]
  have U:wk+(6+F.o)*(0+1)=wk+3+2+F.o+1:=by omega
  rw[O,U]
 | k+1,lo,ls,tk,wk,hk,a1,a2,hb,h=>by
  show Ad4 ok F.bB (by simp[AN.g]) (by rw[JW (by omega)];rfl) λenv hl G=>body ok (k:=k+1) (by omega) hl (by omega) G λenv i hl Y hi G=>?_;show Lm (v:=((k+1:Nat):Int)) Y rfl rfl F.ES rfl (Ac4 G) (by omega) (by show(tk:Int)<bd;omega) ?_;show Zh ok k _ _ _ _ (by omega) (by rw[JV];simp;omega) (by rw[JV];show ls.length+_+k<9000;split<;>simp<;>omega) (by show((tk+1+k:Nat):Int)=bd;omega) ?_;rw[h];have O:ls++F.outs (k+1+1)=ls++(if F.out then[((k+1+1:Nat):Int)] else[])++F.outs (k+1):=by rw[No];rfl
  have U:wk+(6+F.o)*(k+1+1)=wk+3+2+F.o+1+(6+F.o)*(k+1):=by rw[Nat.mul_succ (6+F.o) (k+1)];omega
  rw[O,U]
def all_of (ok:F.Ok){n:Nat}(hn:n<=2500):Ve (Gr F.prog) ((n:Int)+1) n (.JG 0 (F.outs n) ((7+F.o)*n+6)):=by
 have:Eu (Gr F.prog) ((n:Int)+1) (.JG 0 (F.outs n) ((7+F.o)*n+6)) [] ⟨fM,bM,0,[(Sum.inl 4,.int (n:Int))]⟩ ⟨[],0,0⟩:=by
  show Lm (v:=(n:Int)) rfl rfl rfl F.ES rfl rfl (by show 0<100000;decide) (by show((0:Nat):Int)<_;omega) ?_;show Ag6 ok n _ _ _ _ hn (by show 1+n<10000;omega) (by show 0+n<10000;omega) (by show((0+1+n:Nat):Int)<=_;omega) ?_;show .inr (Cr [] _ _ rfl rfl (by show 1<100;decide) (Xh (n:=2) (v:=0) (JN 1) rfl Ip (.inl ⟨rfl,?_⟩)))
  show Res.JG 0 (F.outs n) ((7+F.o)*n+6)=.JG 0 ([]++F.outs n) (0+1+(7+F.o)*n+4+1)
  rw[List.nil_append,show(7+F.o)*n+6=0+1+(7+F.o)*n+4+1 by omega]
 obtain⟨m,h⟩:=this;show ii42 fM bM [] m F.prog_m rfl h
def Ac2 (ok:F.Ok){n:Nat}(hn:n<=2500):Ve (Gr F.prog) n n (.more (F.outs n) ((6+F.o)*n+1)):=by
 have:Eu (Gr F.prog) n (.more (F.outs n) ((6+F.o)*n+1)) [] ⟨fM,bM,0,[(Sum.inl 4,.int (n:Int))]⟩ ⟨[],0,0⟩:=by
  cases n with
  | zero=>show Ug (v:=0) rfl rfl rfl F.ES rfl rfl (by show 0<100000;decide) (Int.le_refl _) rfl
  | succ n=>
   show Lm (v:=((n+1:Nat):Int)) rfl rfl rfl F.ES rfl rfl (by show 0<100000;decide) (by show((0:Nat):Int)<_;omega) ?_;show Zh ok n _ _ _ _ hn (by show 1+n<10000;omega) (by show 0+n<9000;omega) (by show((0+1+n:Nat):Int)=_;omega) ?_
   show Res.more (F.outs (n+1)) ((6+F.o)*(n+1)+1)=.more ([]++F.outs (n+1)) (0+1+(6+F.o)*(n+1))
   rw[List.nil_append,show(6+F.o)*(n+1)+1=0+1+(6+F.o)*(n+1)by omega]
 obtain⟨m,h⟩:=this;show ii42 fM bM [] m F.prog_m rfl h
end
end P2
namespace L2
open PySem PySem.Spec PyProof.Rows
theorem Rt:∀xs:List Int,PyData.canLayAll0 (xs.map PyData.int)=true
 | []=>rfl
 | x::r=>by simp[PyData.canLayAll0,PyData.canLay0,Rt r]
theorem O8:∀xs:List Int,PyData.depthAll (xs.map PyData.int)=0
 | []=>rfl
 | x::r=>by simp[PyData.depthAll,PyData.depth,O8 r]
theorem Oa:∀xs:List Int,PySem.Spec.sameAll (xs.map PyData.int) (xs.map PyData.int)=true
 | []=>by simp[PySem.Spec.sameAll]
 | a::r=>by simp[PySem.Spec.sameAll,PySem.Spec.same,Oa r]
theorem Mt:∀xs:List Int,SeqAt.noMixAll (xs.map PyData.int) (xs.map PyData.int)=true
 | []=>by simp[SeqAt.noMixAll]
 | a::r=>by simp[SeqAt.noMixAll,SeqAt.noMix,Mt r]
def Yo (O:X.A.units+64<cLine):CO X (compareOp .NotEq) (λx y H Q=>∃d:PyData,PD H x d/\PD H y d/\SeqAt.shaped d=true/\SeqAt.noMix d d=true/\PySem.Spec.same d d=true/\Q (.bl false) H):=by
 intro pins s σ H x y v u Q I U Y h;show Ad7 h λd h1 h2 G nm sm q=>ne_dataH_same (PD.reads I h1 U) (PD.reads I h2 Y) G G O nm ?_;rw[sm];show Aw (.bl false) H I rfl q
theorem Sf:∀xs:List Int,PDs H (xs.map V.int) (xs.map PyData.int)
 | []=>rfl
 | x::r=>(Bu rfl rfl (Sf r))
def tTupS (t:TA):TE:=λσ H Q=>t σ H λxs H1=>xs.length<=sizeLine/\∀p H2,AA H1 H2->H2 p=some (.tup xs)->Q (.ref p) H2
def Ba {Y}(h:QA X es t):QE X (.Tuple es Y pos) (tTupS t):=by
 show⟨λpins s σ H Q I U=>?_⟩;show wpAny_Tuple_spliced (AE (h.go pos pins s σ H _ I U) λus s1 ⟨xs,H1,G,r,z,q⟩=>⟨by rw[← r.length];show z,?_⟩);have O:H1 s1.heap.objs.size=none:=G.AJ.fresh (JN _);show Aw (.ref s1.heap.objs.size) (upd H1 s1.heap.objs.size (.tup xs)) (G.laid (t':=s1.toks) (λb u e=>JI _ e) (JN _) ?_) rfl (q _ _ ((AA.refl H1).upd O) Ag);show⟨⟨z,(Ac (JO _ rfl) rfl)⟩,(Aq us r (A8 (JO _ rfl) rfl ⟨_,rfl⟩))⟩
end L2
namespace P2
open PySem PySem.Spec PyProof.Rows L2
def Sv:Sp:=λvs H Q _=>∃F:AN,vs=[.int F.IH,.int F.add,.bl F.out]/\F.Ok/\∀v H',AA H H'->IsP H' v F.prog->Q v H'
def S1 (K:A3):Sp:=λvs H Q _=>∃(a:Addr) (ns:List Int) (k:Int),vs=[.ref a,.int k]/\AK K H a (ns.map V.int)/\0<=k/\k<1000000/\∀c:Int,Q (.int c) H
def Tx (h1:H r=some (.tup [.int n,.str op,t,.ref a]))(h2:H a=some (.tup (G.map V.int))):GH H (.ref r) ⟨n,op,t,G⟩:=(Aw r a rfl h1 h2)
section
variable {P:Program}{w:World}{K:A3}{mg:Bv}{base:Heap}{t1 t2 t3 t4:Tok}
abbrev Vv:List Str:=["_law_by","_law_add","_law_out"]
def CL:AB ["_law_by","_law_add","_law_out","_law_names","_law_labels","_law_rows","_law_more","_law_first","_law_last","_law_other","_law_main"] Vv (Af Dt):=⟨rfl,rfl,rfl,by decide +kernel,rfl,by decide +kernel,by decide +kernel⟩
abbrev IM:List Str:=["_law_k","_law_by","_law_add"]
def Mn (F':AG K "_law_program" "_law_program" Dt f fd)(T:BK K mg t1 t2 t3 t4):AD P w K mg base AU 1 f fd Vv Sv:=by
 show F'.At CL (λvs H Q E h=>?_) (λcdv A outer s H vs Q E hr h=>?_)
 . show Am h λF z1 _=>?_;subst z1;rfl
 . show Bp h λF z1 ok k=>?_;subst z1;have nd:=CL.nd;obtain⟨b1,b3,a0,a3⟩:=ok
   show Ac (Ae (Ix (i0:=3) nd rfl rfl rfl (N':=IM) (n:=1) (js:=[0,1]) (AS.of rfl rfl (by decide) (by decide) rfl (List.forall_mem_cons.mpr ⟨rfl,(List.forall_mem_cons.mpr ⟨rfl,(KD _)⟩)⟩) ["_law_by","_law_add"] rfl (by decide +kernel) (List.forall_mem_cons.mpr ⟨(A6 rfl rfl (Or.inl rfl)),(List.forall_mem_cons.mpr ⟨(A6 rfl rfl (Or.inl rfl)),(KD _)⟩)⟩)) rfl (Ob rfl T.GN (Aa Ah Ad)) (λ_ _ _=>(A6 (Al (i:=0) (show List.Nodup (IM:List Str)from by decide +kernel) rfl (Or.inl rfl)) Bm (B1 Fb (B1 Hq (qv 0) (qv 1)) (qv 2)))))
     (Ae (Ix (i0:=4) nd rfl rfl rfl (N':=IM) (n:=1) (js:=[0,1]) (AS.of rfl rfl (by decide) (by decide) rfl (List.forall_mem_cons.mpr ⟨rfl,(List.forall_mem_cons.mpr ⟨rfl,(KD _)⟩)⟩) ["_law_by","_law_add"] rfl (by decide +kernel) (List.forall_mem_cons.mpr ⟨(A6 rfl rfl (Or.inl rfl)),(List.forall_mem_cons.mpr ⟨(A6 rfl rfl (Or.inl rfl)),(KD _)⟩)⟩)) rfl (Cc K (G7 (Aa Ah (Aa Ah (Aa Ah Ad))))) (λ_ _ _=>(A6 (Al (i:=0) (show List.Nodup (IM:List Str)from by decide +kernel) rfl (Or.inl rfl)) Bm (B1 Fb (B1 Hq Ah (qv 2)) (B1 Hq (qv 1) (qv 0))))))
     (Ae (A9 (i:=5) nd rfl (Or.inl rfl) (Ba (Aa (Ba (Aa (Ap (EK K) (qv 3) Ah (λ_ _=>rfl)) (Aa Av (Aa Ah (Aa (Ba Ad) Ad))))) (Aa (Ba (Aa (Ap (EK K) (qv 3) Ah (λ_ _=>rfl)) (Aa Av (Aa C6 (Aa (Ba (Aa (Ap (EK K) (qv 3) Ah (λ_ _=>rfl)) (Aa (Ap (EK K) (qv 3) Ah (λ_ _=>rfl)) Ad))) Ad))))) Ad))))
     (Ae (A9 (i:=6) nd rfl (Or.inl rfl) (Ba (Aa (Ba (Aa (Ap (EK K) (qv 3) Ah (λ_ _=>rfl)) (Aa Av (Aa Ah (Aa (Ba Ad) Ad))))) (Aa (Ba (Aa (Ap (EK K) (qv 3) Ah (λ_ _=>rfl)) (Aa Av (Aa C6 (Aa (Ba (Aa (Ap (EK K) (qv 3) Ah (λ_ _=>rfl)) (Aa (Ap (EK K) (qv 3) Ah (λ_ _=>rfl)) Ad))) Ad))))) Ad))))
     (Ae (Bh (Dy (qv 2)) (Ai (A9 (i:=6) nd rfl (Or.inl rfl) (B1 Pz (Ba (Aa (Ba (Aa (Ap (EK K) (qv 3) Ah (λ_ _=>rfl)) (Aa Av (Aa C6 (Aa (Ba (Aa (Ap (EK K) (qv 3) Ah (λ_ _=>rfl)) Ad)) Ad))))) Ad)) (qv 6)))) A4)
     (Ae (A9 (i:=6) nd rfl (Or.inl rfl) (B1 Pz (qv 6) (Ba (Aa (Ba (Aa (Ap (EK K) (qv 3) Ah (λ_ _=>rfl)) (Aa Av (Aa Av (Aa (Ba (Aa (Ap (EK K) (qv 3) Ah (λ_ _=>rfl)) Ad)) Ad))))) Ad))))
     (Ae (A9 (i:=7) nd rfl (Or.inl rfl) (Ba (Aa (Ap (EK K) (qv 4) Ah (λ_ _=>rfl)) (Aa (Ba Ad) (Aa (qv 5) (Aa (Ba (Aa Av (Aa (Ap (EK K) (qv 3) Ah (λ_ _=>rfl)) (Aa (Ap (EK K) (qv 4) Ah (λ_ _=>rfl)) (Aa (Ba Ad) (Aa (Ap (EK K) (qv 4) Ah (λ_ _=>rfl)) (Aa (Ba Ad) Ad))))))) Ad))))))
     (Ae (A9 (i:=8) nd rfl (Or.inl rfl) (Ba (Aa (Ap (EK K) (qv 4) Ah (λ_ _=>rfl)) (Aa (Ba Ad) (Aa (Ba Ad) (Aa (Ba (Aa Av (Aa (Ap (EK K) (qv 3) Ah (λ_ _=>rfl)) Ad))) Ad))))))
     (Ae (A9 (i:=9) nd rfl (Or.inl rfl) (Ba (Aa Av (Aa (Ba (Aa (Ba (Aa (Ap (EK K) (qv 3) Ah (λ_ _=>rfl)) (Aa Ah Ad))) Ad)) (Aa Ah (Aa (Ba (Aa (qv 7) (Aa (Ba (Aa (Ap (EK K) (qv 4) Ah (λ_ _=>rfl)) (Aa (Ba Ad) (Aa (qv 6) (Aa (Ba (Aa Av (Aa (Ap (EK K) (qv 3) Ah (λ_ _=>rfl)) Ad))) Ad))))) (Aa (qv 8) Ad)))) Ad))))))
     (Ae (A9 (i:=10) nd rfl (Or.inl rfl) (Ba (Aa Av (Aa (Ba (Aa (Ba (Aa Ah (Aa Ah Ad))) Ad)) (Aa Ah (Aa (Ba (Aa (Ba (Aa Ah (Aa (Ba Ad) (Aa (Ba (Aa (Ba (Aa Ah (Aa Av (Aa Av (Aa (Ba (Aa Ah Ad)) Ad))))) Ad)) (Aa (Ba (Aa Av (Aa Ah Ad))) Ad))))) Ad)) Ad))))))
     (Ai (A0 (Ap (EK K) (G7 (Aa (Ba (Aa (qv 10) (Aa (qv 9) Ad))) (Aa (Ba (Aa (qv 9) (Aa (qv 10) Ad))) Ad))) (B1 Hr (qv 1) Ah) (λ_ _=>rfl)))))))))))))) ?_
   show Ep 7 rfl (by decide) (by decide) λU aO=>?_;show T5 (n:=7) (λi ys σ H'=>(∃o,σ=[o,some (.int F.IH),some (.int F.add)])/\AA H H'/\H' U=some (.lst ys)/\ys=(List.range i).map λ(j:Nat)=>V.int (F.nm (j:Int))) (by decide) (C9 ⟨_,rfl⟩ ((AA.refl H).upd aO) Ag rfl) (λi ys σ H' hi ⟨_,_,hd,e⟩=>⟨hd,by rw[e];simp⟩) ?_ ?_
   . rintro i ys σ H' hi ⟨⟨o,rfl⟩,sm,hd,rfl⟩;show Ac rfl (Ac rfl (Ex rfl rfl (.inl ⟨by omega,by omega⟩) (Ac rfl (jj25 rfl rfl hd ⟨_,rfl⟩ (Gu sm aO) ⟨Ag,?_⟩))));rw[List.range_succ,MA]
     show _++[V.int ((0+(i:Int))*F.IH+F.add)]=_++[V.int ((i:Int)*F.IH+F.add)]
     rw[Int.zero_add]
   rintro ys σ HA ⟨_,sA,hN,rfl⟩;replace hN:HA U=some (.lst [.int (F.nm 0),.int (F.nm 1),.int (F.nm 2),.int (F.nm 3),.int (F.nm 4),.int (F.nm 5),.int (F.nm 6)]):=hN;show⟨zl 3,λl3 aR=>(Bc l3 rfl ⟨_,AK.of Ag⟩ λL1 aq=>?_)⟩;have sB:=sA.upd (o:=.lst [.int 2,.int 0,.int 1]) aR;have av:upd HA l3 (.lst [.int 2,.int 0,.int 1]) U=some (.lst [.int (F.nm 0),.int (F.nm 1),.int (F.nm 2),.int (F.nm 3),.int (F.nm 4),.int (F.nm 5),.int (F.nm 6)]):=by rw[Ak (Aj hN aR)];show hN
   have aw:upd HA l3 (.lst [.int 2,.int 0,.int 1]) l3=some (.lst [.int 2,.int 0,.int 1]):=Ag;generalize upd HA l3 (.lst [.int 2,.int 0,.int 1])=HB at *;show R9 (λσ=>∃o,σ=[o,some (.int F.IH),some (.int F.add)]) [some (.int (F.lb 2)),some (.int (F.lb 0)),some (.int (F.lb 1))] aw (by simp) (by simp) aq ⟨_,rfl⟩ (λj z o σ H2 R R' hx ho hσ bV k1 k2=>?_) λHC sC hL=>?_
   . obtain⟨_,rfl⟩:=hσ;obtain⟨q,rfl,rfl,q0,q2⟩:∃q:Int,z=.int q/\o=some (.int (F.lb q))/\0<=q/\q<=2:=by
       match j with
       | 0=>simp at hx ho;show Ep 2 hx.symm ho.symm (by decide) (by decide)
       | 1=>simp at hx ho;show Ep 0 hx.symm ho.symm (by decide) (by decide)
       | 2=>simp at hx ho;show Ep 1 hx.symm ho.symm (by decide) (by decide)
       | j+3=>simp at hx
     show Ac rfl (Ex rfl rfl (.inl ⟨by omega,by omega⟩) (Ac rfl (Ac rfl (Ex rfl rfl (.inl ⟨by omega,by omega⟩) (Bu rfl rfl (k1 _ _ _ rfl ⟨_,rfl⟩ (AA.refl _)))))))
   replace hL:HC L1=some (.lst [.int (F.lb 2),.int (F.lb 0),.int (F.lb 1)]):=hL;have sH:=sB.trans sC;have hN:=sC _ _ av;show Ac rfl (B0 U _ 1 _ rfl rfl (AK.of hN) rfl (zl 0) λe0 H1 s1 h1=>⟨zl 4,λr1 H2 s2 h2=>Ac rfl (Bb U _ 2 _ rfl rfl (AK.of (s2 _ _ (s1 _ _ hN))) rfl (Ac rfl (Bb U _ 0 _ rfl rfl (AK.of (s2 _ _ (s1 _ _ hN))) rfl (Ac rfl (B0 U _ 1 _ rfl rfl (AK.of (s2 _ _ (s1 _ _ hN))) rfl (zl 2) λa2 H3 G h3=>⟨zl 4,λr2 H4 O h4=>⟨zl 2,λro H5 s5 h5=>?_⟩⟩)))))⟩);have a6:=(G.trans O).trans s5;have q1:GH H5 (.ref r1) ⟨F.nm 1,"num",.int 0,[]⟩:=Tx (a6 _ _ h2) (a6 _ _ (s2 _ _ h1));have q2:GH H5 (.ref r2) ⟨F.nm 2,"=",.AQ,[F.nm 0,F.nm 1]⟩:=Tx (s5 _ _ h4) (s5 _ _ (O _ _ h3));have Y:=(s1.trans s2).trans a6;have bF:=sH.trans Y;have a9:=Y _ _ hN;have ar:=Y _ _ hL;have pA:Paired (GH H5) [.ref r1,.ref r2] F.FL:=.cons q1 (.cons q2 .nil);show Ac rfl (B0 U _ 3 _ rfl rfl (AK.of a9) rfl (zl 0) λe0 H1 s1 h1=>⟨zl 4,λr1 H2 s2 h2=>Ac rfl (Bb U _ 4 _ rfl rfl (AK.of (s2 _ _ (s1 _ _ a9))) rfl (Ac rfl (Bb U _ 0 _ rfl rfl (AK.of (s2 _ _ (s1 _ _ a9))) rfl (Ac rfl (B0 U _ 3 _ rfl rfl (AK.of (s2 _ _ (s1 _ _ a9))) rfl (zl 2) λa2 H3 G h3=>⟨zl 4,λr2 H4 O h4=>⟨zl 2,λm0 H6 s5 h6=>?_⟩⟩)))))⟩);have a6:=(G.trans O).trans s5;have q1:GH H6 (.ref r1) ⟨F.nm 3,"num",.int 1,[]⟩:=Tx (a6 _ _ h2) (a6 _ _ (s2 _ _ h1));have q2:GH H6 (.ref r2) ⟨F.nm 4,"-",.AQ,[F.nm 0,F.nm 3]⟩:=Tx (s5 _ _ h4) (s5 _ _ (O _ _ h3));have Y:=(s1.trans s2).trans a6;have bG:=bF.trans Y;have aC:=Y _ _ a9;have as:=Y _ _ ar;have b5:=Y _ _ h5;have aS:Paired (GH H6) [.ref r1,.ref r2] [⟨F.nm 3,"num",.int 1,[]⟩,⟨F.nm 4,"-",.AQ,[F.nm 0,F.nm 3]⟩]:=.cons q1 (.cons q2 .nil);have bD:=L2.Paired.CT pA λ_ _ q=>q.mono Y.AH;dsimp only[He];show norm (σ':=[some (.int F.IH),some (.int F.add),some (.bl F.out),some (.ref U),some (.ref L1),some (.ref ro),some (.ref m0),none,none,none,none]) rfl (join (λσ' H'=>∃mo us,σ'=[some (.int F.IH),some (.int F.add),some (.bl F.out),some (.ref U),some (.ref L1),some (.ref ro),some (.ref mo),none,none,none,none]/\AA H6 H'/\H' mo=some (.tup us)/\us.length<=3/\us≠[]/\Paired (GH H') us (F.CJ++[⟨F.nm 3,"num",.int 1,[]⟩,⟨F.nm 4,"-",.AQ,[F.nm 0,F.nm 3]⟩])) (λσ' H7 j=>?_) (λgo=>?_))
   . show Fs j λmo us z1 s7 b2 ay b4 pm=>?_;subst z1;have aD:=s7 _ _ aC;have au:=s7 _ _ as;have b6:=s7 _ _ b5;have b8:=L2.Paired.CT bD λ_ _ q=>q.mono s7.AH;have bH:=bG.trans s7;show Ac rfl (Ac rfl (Bb U _ 5 _ rfl rfl (AK.of aD) rfl (Ac rfl (B0 U _ 4 _ rfl rfl (AK.of aD) rfl (zl 1) λa1 H1 s1 h1=>⟨zl 4,λr1 H2 s2 h2=>⟨zl 1,λaI H3 G h3=>(B0 mo aI us _ rfl rfl (AC.of (G _ _ (s2 _ _ (s1 _ _ b2)))) (AC.of h3) b4 (A6 (JU (Nat.add_le_add_right ay 1) (by decide)) (λz=>absurd z (by simp)) λ_ a4 aJ=>?_))⟩⟩))));have O:AA H3 (upd H3 a4 (.tup (us++[.ref r1]))):=(AA.refl H3).upd aJ;have h4:upd H3 a4 (.tup (us++[.ref r1])) a4=some (.tup (us++[.ref r1])):=Ag;generalize upd H3 a4 (.tup (us++[.ref r1]))=H4 at *;have Y:=((s1.trans s2).trans G).trans O;have q1:GH H4 (.ref r1) ⟨F.nm 5,"call",.str "g",[F.nm 4]⟩:=Tx (O _ _ (G _ _ h2)) (O _ _ (G _ _ (s2 _ _ h1)));have pB:Paired (GH H4) (us++[.ref r1]) F.EA:=L2.Paired.appP (L2.Paired.CT pm λ_ _ q=>q.mono Y.AH) (.cons q1 .nil);have aP:=Y _ _ aD;have aB:=Y _ _ au;have b7:=Y _ _ b6;have b9:=L2.Paired.CT b8 λ_ _ q=>q.mono Y.AH;have bJ:=bH.trans Y;show Ac rfl (B0 L1 _ 0 _ rfl rfl (AK.of aB) rfl (zl 0) λp1 H1 s1 h1=>(Ac rfl (Ac rfl (Bb U _ 2 _ rfl rfl (AK.of (s1 _ _ aP)) rfl (Ac rfl (B0 L1 _ 1 _ rfl rfl (AK.of (s1 _ _ aB)) rfl (zl 0) λp2 H2 s2 h2=>(Ac rfl (B0 L1 _ 2 _ rfl rfl (AK.of (s2 _ _ (s1 _ _ aB))) rfl (zl 0) λp3 H3 G h3=>⟨zl 6,λen H5 s5 h5=>⟨zl 4,λfi H9 s9 h9=>?_⟩⟩))))))));have aG:=(G.trans s5).trans s9;have a5:=(s1.trans s2).trans aG;have bA:FQ H9 (.ref fi) F.bA:=(D5 fi ⟨p1,ro,[.ref _,.ref _],.ref en⟩ rfl h9 (aG _ _ (s2 _ _ h1)) (a5 _ _ b7) (L2.Paired.CT b9 λ_ _ q=>q.mono a5.AH) (Cr en p2 p3 rfl (s9 _ _ h5) (aG _ _ h2) (s9 _ _ (s5 _ _ h3))));have aQ:=a5 _ _ aP;have aN:=a5 _ _ aB;have az:=a5 _ _ h4;have bE:=L2.Paired.CT pB λ_ _ q=>q.mono a5.AH;have bK:=bJ.trans a5;show Ac rfl (B0 L1 _ 1 _ rfl rfl (AK.of aN) rfl (zl 0) λp1 H1 s1 h1=>⟨zl 0,λp2 H2 s2 h2=>(Ac rfl (B0 U _ 0 _ rfl rfl (AK.of (s2 _ _ (s1 _ _ aQ))) rfl (zl 2) λen H3 G h3=>⟨zl 4,λla ak O al=>?_⟩))⟩);have a8:=((s1.trans s2).trans G).trans O;have bC:FQ ak (.ref la) F.bC:=(D5 la ⟨p1,p2,[],.ref en⟩ rfl al (O _ _ (G _ _ (s2 _ _ h1))) (O _ _ (G _ _ h2)) .nil (Aq en rfl (O _ _ h3)));replace bA:=bA.mono a8.AH;have ai:=a8 _ _ aQ;have bL:=a8 _ _ aN;have bN:=a8 _ _ az;have bO:=L2.Paired.CT bE λ_ _ q=>q.mono a8.AH;have bP:=bK.trans a8;show Ac rfl (B0 U _ 0 _ rfl rfl (AK.of ai) rfl (zl 2) λpp H1 s1 h1=>⟨zl 1,λpa H2 s2 h2=>Ac rfl (Ac rfl (B0 L1 _ 2 _ rfl rfl (AK.of (s2 _ _ (s1 _ _ bL))) rfl (zl 0) λp1 H3 G h3=>(Ac rfl (Ac rfl (B0 U _ 5 _ rfl rfl (AK.of (G _ _ (s2 _ _ (s1 _ _ ai)))) rfl (zl 2) λen H4 O h4=>⟨zl 4,λmi H5 s5 h5=>(A8 rfl (zl 3) λbs H7 s7 h7=>⟨zl 4,λot aK s8 am=>?_⟩)⟩)))))⟩);have aa:=s7.trans s8;have aY:=s5.trans aa;have aX:=O.trans aY;have aF:=G.trans aX;have aA:=(s1.trans s2).trans aF;have bB:FQ aK (.ref mi) F.bB:=(D5 mi ⟨p1,a4,us++[.ref r1],.ref en⟩ rfl (aa _ _ h5) (aX _ _ h3) (aA _ _ bN) (L2.Paired.CT bO λ_ _ q=>q.mono aA.AH) (Aq en rfl (aY _ _ h4)));have fG:EW aK (.ref ot) F.g:=(D5 ot ⟨pa,pp,bs,[.ref fi,.ref mi,.ref la]⟩ rfl am (aF _ _ h2) (aF _ _ (s2 _ _ h1)) (s8 _ _ h7) (.cons (bA.mono aA.AH) (.cons bB (.cons (bC.mono aA.AH) .nil))));have bQ:=bP.trans aA;show⟨zl 2,λpp H1 s1 h1=>⟨zl 1,λpa H2 s2 h2=>⟨zl 0,λp1 H3 G h3=>⟨zl 1,λa1 H4 O h4=>⟨zl 4,λr1 H5 s5 h5=>⟨zl 1,λrs bR s6 ap=>⟨zl 2,λen bS s7 h7=>⟨zl 4,λbb bT s8 h8=>⟨zl 1,λbs bU s9 h9=>⟨zl 4,λma aL aU ao=>?_⟩⟩⟩⟩⟩⟩⟩⟩⟩⟩;have ah:=s9.trans aU;have ag:=s8.trans ah;have af:=s7.trans ag;have ae:=s6.trans af;have ac:=s5.trans ae;have aZ:=O.trans ac;have aH:=G.trans aZ;have aW:=(s1.trans s2).trans aH;have qM:GH aL (.ref r1) ⟨2,"call",.str "g",[4]⟩:=Tx (ae _ _ h5) (ac _ _ h4);have aM:EW aL (.ref ma) fM:=(D5 ma ⟨pa,pp,bs,[.ref bb]⟩ rfl ao (aH _ _ h2) (aH _ _ (s2 _ _ h1)) (aU _ _ h9) (.cons (D5 bb ⟨p1,rs,[.ref r1],.ref en⟩ rfl (ah _ _ h8) (aZ _ _ h3) (af _ _ ap) (.cons qM .nil) (Aq en rfl (ag _ _ h7))) .nil));have aj:=bQ.trans aW;replace fG:=fG.mono aW.AH;show Ac rfl (A8 rfl (zl 2) λx1 H1 s1 h1=>(Ac rfl (A8 rfl (zl 2) λx2 H2 s2 h2=>⟨zl 2,λll ax=>?_⟩)));have G:AA H2 (upd H2 ll (.lst [.ref x1,.ref x2])):=(AA.refl H2).upd ax;have a7:=(s1.trans s2).trans G;show Ac rfl (Ex rfl rfl (by show(0:Int)<2;decide) ?_);by_cases e:F.add%2=0
     . show Bb ll _ (F.add%2) (.ref x1) rfl rfl (AK.of Ag) (by rw[e];rfl) (k _ _ (aj.trans a7) (Aw x1 [.ref ma,.ref ot] rfl (G _ _ (s2 _ _ h1)) ?_));rw[show F.prog=[fM,F.g] from KE e];show .cons (aM.mono a7.AH) (.cons (fG.mono a7.AH) .nil)
     . show Bb ll _ (F.add%2) (.ref x2) rfl rfl (AK.of Ag) (by rw[show F.add%2=1 by omega];rfl) (k _ _ (aj.trans a7) (Aw x2 [.ref ot,.ref ma] rfl (G _ _ h2) ?_));rw[show F.prog=[F.g,fM] from JW e];show .cons (fG.mono a7.AH) (.cons (aM.mono a7.AH) .nil)
   . show Ac rfl (Ac rfl ?_)
     cases ho:F.out with
     | false=>
       show Fd (A:=_) (go _ _ (D5 m0 _ (by rw[ho]) (AA.refl _) h6 (by show 2<=3;decide) (by simp) ?_));rw[show F.CJ=[] by unfold AN.CJ;rw[ho];rfl];show aS
     | true=>
       show Cq (B:=_) (Ac rfl (Bb U _ 6 _ rfl rfl (AK.of aC) rfl (Ac rfl (B0 U _ 0 _ rfl rfl (AK.of aC) rfl (zl 1) λa1 H1 s1 h1=>⟨zl 4,λr3 H2 s2 h2=>⟨zl 1,λaI H3 G h3=>(Ac rfl (B0 aI m0 [.ref r3] _ rfl rfl (AC.of h3) (AC.of (G _ _ (s2 _ _ (s1 _ _ h6)))) (by simp) (A6 (zl 3) (λz=>absurd z (by simp)) λ_ a4 aJ=>?_)))⟩⟩))));have O:=(AA.refl H3).upd (o:=.tup ([.ref r3]++[.ref r1,.ref r2])) aJ;have Y:=((s1.trans s2).trans G).trans O;show go _ _ (D5 a4 _ (by rw[ho];rfl) Y Ag (by show 3<=3;decide) (by simp) ?_);rw[show F.CJ=[⟨F.nm 6,"out",.AQ,[F.nm 0]⟩] by unfold AN.CJ;rw[ho];rfl];show .cons (Tx (O _ _ (G _ _ h2)) (O _ _ (G _ _ (s2 _ _ h1)))) (L2.Paired.CT aS λ_ _ q=>q.mono Y.AH)
abbrev Oi:List Str:=["_law_script","_law_k"]
def EB:AB ["_law_script","_law_k","_law_spare"] Oi (Af Gh):=⟨rfl,rfl,rfl,by decide +kernel,rfl,by decide +kernel,by decide +kernel⟩
def Rh (F:AG K "_law_cell" "_law_cell" Gh f fd)(T:BK K mg t1 t2 t3 t4):AD P w K mg base AU 1 f fd Oi (S1 K):=by
 show F.At EB (λvs H Q E h=>?_) (λcdv A outer s H vs Q E hr h=>?_)
 . show Da h λa ns k z1 _=>?_;subst z1;rfl
 . show Qn h λa ns k z1 O Y h1 U=>?_;subst z1;have nd:=EB.nd
   show Ac (Ae (Bh (A2 Yp (qv 1) (Az (Gq K) rfl T.AZ KQ (Aa (qv 0) Ad)) (A1 _)) (Ai (A0 (Ap (EK K) (qv 0) (qv 1) (λ_ _=>rfl)))) A4)
     (Ae (A9 (i:=2) nd rfl (Or.inl rfl) (B1 Fb Ah (B1 Hq (B1 Hq Ah (qv 1)) (qv 1))))
     (Ae (Bh (A2 Uz (Az (Gq K) rfl T.AZ KQ (Aa (qv 0) Ad)) Ah (A1 _)) (Ai (A9 (i:=2) nd rfl (Or.inl rfl) (B1 Fb (qv 2) (B1 Hq (B1 Hr (Ap (EK K) (qv 0) Ah (λ_ _=>rfl)) Ah) (B1 Fb (B1 Hq Ah (qv 1)) Ah))))) A4)
     (Ai (A0 (qv 2)))))) ?_
   show Ac rfl (Ac rfl (Aw a _ rfl (.inl O) (Bu rfl rfl (Ac rfl (Nx (λh=>?_) (λh=>?_))))))
   . have G:=MX h;rw[JR]at G;obtain⟨c,hc⟩:=Vc Y G;show Ac rfl (Ac rfl (Bb a _ _ _ rfl rfl O hc (U c)))
   . show Ac rfl (Ex rfl rfl (.inl ⟨by decide,by decide⟩) (Ac rfl (Ex rfl rfl (.inr ⟨by omega,by omega⟩) (Bu rfl rfl (Ac rfl (Aw a _ rfl (.inl O) (Bu rfl rfl (Ac rfl (Nx (λh=>?_) (λh=>?_))))))))))
     . have G:=MX h;rw[JR]at G;obtain⟨c,hc⟩:=Vc (Int.le_refl 0) G;show Ac rfl (Ac rfl (Bb a _ _ _ rfl rfl O hc (Ex rfl rfl (by show(0:Int)<99991;decide) (Ac rfl (Ex rfl rfl (.inl ⟨by decide,by decide⟩) (Bu rfl rfl (Ex rfl rfl (.inl ⟨by omega,by omega⟩) (Bu rfl rfl (Ac rfl (U _))))))))))
     . show Ac rfl (U _)
end
section
variable {F:AN}
def T0 (F:AN):("main":Str)∈F.prog.map (·.nm)/\("g":Str)∈F.prog.map (·.nm)/\(F.prog.map (·.nm)).Nodup/\F.prog.length<=10:=by
 unfold AN.prog;split<;>show C9 (by simp[fM,AN.g]) (by simp[fM,AN.g]) (by simp[fM,AN.g];decide) (by simp)
theorem main_k (F:AN):CH (F.prog.map (·.nm)) fM where
 IU:=λb G=>by
  obtain rfl:b=bM:=by simpa [fM]using G
  show⟨λr O=>?_,by decide,λi r e x U=>?_,⟨by decide,.inr (Ac LH rfl)⟩,λl hl=>by cases hl⟩
  .obtain rfl:r=⟨2,"call",.str "g",[4]⟩:=by simpa [bM]using O
   show .call 2 4 "g" (by decide) (by decide) (T0 F).2.1
  .have O:=JJ e;obtain rfl:r=⟨2,"call",.str "g",[4]⟩:=by simpa [bM]using O
   show .inl (by simpa [fM]using U)
 ne:=by simp[fM]
 le:=by simp[fM]
 pos:=λl hl=>by
  obtain rfl:l=7:=by simpa [fM,Ew,bM]using hl
  decide
 nd:=by simp[fM,Ew]
 nms:=by simp[fM,B6,bM]
 pp:=by decide
 wd:=.inl rfl
 cnt:=by simp[fM,B6,bM]
 rnk:=⟨λ_=>0,λb G Y=>by
  obtain rfl:b=bM:=by simpa [fM]using G
  show absurd rfl (Y _ LH)⟩
def Yr (ok:F.Ok){k:Int}(h:0<=k):0<=F.nm k:=by
 unfold AN.nm;have:=Int.mul_nonneg h (show 0<=F.IH by have:=ok.b1;omega);have:=ok.a0;omega
theorem g_k (ok:F.Ok):CH (F.prog.map (·.nm)) F.g where
 IU:=λb Y=>by
  have p:=@Yr F ok;rcases(show b=F.bA\/b=F.bB\/b=F.bC by simpa [AN.g]using Y)with rfl|rfl|rfl
  .show⟨λr O=>?_,by simp[AN.bA,AN.FL],λi r e x G=>?_,⟨p (by decide),.inr (Aq ⟨F.nm 2,"=",.AQ,[F.nm 0,F.nm 1]⟩ (by simp[AN.bA,AN.FL]) rfl)⟩,λl hl=>?_⟩
   .rcases (show r=_\/r=_ by simpa [AN.bA,AN.FL]using O)with rfl|rfl
    .show .num _ _ (p (by decide)) (by decide) (by decide)
    .show .eq _ _ _ (p (by decide)) (p (by decide)) (p (by decide))
   .match i with
    | 0=>cases e;cases G
    | 1=>
     cases e;rcases(show x=F.nm 0\/x=F.nm 1 by simpa using G)with rfl|rfl
     .show .inl rfl
     .show .inr (Aw 0 _ (by decide) rfl rfl)
    | i+2=>cases e
   .rcases (show l=F.lb 0\/l=F.lb 1 by simpa [AN.bA,Ja]using hl)with rfl|rfl<;>simp[Ew,AN.g,AN.bB,AN.bC]
  .have a1:(⟨F.nm 5,"call",.str "g",[F.nm 4]⟩:MR)∈F.bB.rows:=by simp[AN.bB,AN.EA]
   show⟨λr O=>?_,?_,λi r e x G=>?_,⟨p (by decide),.inr (Ac a1 rfl)⟩,λl hl=>by cases hl⟩
   .have:(F.out=true/\r=⟨F.nm 6,"out",.AQ,[F.nm 0]⟩)\/r=⟨F.nm 3,"num",.int 1,[]⟩\/r=⟨F.nm 4,"-",.AQ,[F.nm 0,F.nm 3]⟩\/r=⟨F.nm 5,"call",.str "g",[F.nm 4]⟩:=by
     cases ho:F.out<;>simpa [AN.bB,AN.EA,AN.CJ,ho,or_assoc]using O
    rcases this with⟨_,rfl⟩|rfl|rfl|rfl
    .show .out _ _ (p (by decide)) (p (by decide))
    .show .num _ _ (p (by decide)) (by decide) (by decide)
    .show .sub _ _ _ (p (by decide)) (p (by decide)) (p (by decide))
    .show .call _ _ _ (p (by decide)) (p (by decide)) (T0 F).2.1
   .cases ho:F.out<;>simp[AN.bB,AN.EA,AN.CJ,ho]
   .cases ho:F.out with
    | false=>
     have U:F.bB.rows=[⟨F.nm 3,"num",.int 1,[]⟩,⟨F.nm 4,"-",.AQ,[F.nm 0,F.nm 3]⟩,⟨F.nm 5,"call",.str "g",[F.nm 4]⟩]:=by simp[AN.bB,AN.EA,AN.CJ,ho]
     rw[U]at e ⊢
     match i with
     | 0=>cases e;cases G
     | 1=>
      cases e;rcases(show x=F.nm 0\/x=F.nm 3 by simpa using G)with rfl|rfl
      .show .inl rfl
      .show .inr (Aw 0 _ (by decide) rfl rfl)
     | 2=>
      cases e;obtain rfl:x=F.nm 4:=by simpa using G
      show .inr (Aw 1 _ (by decide) rfl rfl)
     | i+3=>cases e
    | true=>
     have U:F.bB.rows=[⟨F.nm 6,"out",.AQ,[F.nm 0]⟩,⟨F.nm 3,"num",.int 1,[]⟩,⟨F.nm 4,"-",.AQ,[F.nm 0,F.nm 3]⟩,⟨F.nm 5,"call",.str "g",[F.nm 4]⟩]:=by simp[AN.bB,AN.EA,AN.CJ,ho]
     rw[U]at e ⊢
     match i with
     | 0=>
      cases e;obtain rfl:x=F.nm 0:=by simpa using G
      show .inl rfl
     | 1=>cases e;cases G
     | 2=>
      cases e;rcases(show x=F.nm 0\/x=F.nm 3 by simpa using G)with rfl|rfl
      .show .inl rfl
      .show .inr (Aw 1 _ (by decide) rfl rfl)
     | 3=>
      cases e;obtain rfl:x=F.nm 4:=by simpa using G
      show .inr (Aw 2 _ (by decide) rfl rfl)
     | i+4=>cases e
  .show⟨λr O=>?_,LD _,λi r e=>?_,⟨p (by decide),.inl rfl⟩,λl hl=>?_⟩
   .simp [AN.bC]at O
   .simp [AN.bC]at e
   .simp [AN.bC,Ja]at hl
 ne:=by simp[AN.g]
 le:=by simp[AN.g]
 pos:=λl hl=>by
  have:=ok.b1;have:=ok.a0;rcases(show l=F.lb 2\/l=F.lb 1\/l=F.lb 0 by simpa [Ew,AN.g,AN.bA,AN.bB,AN.bC]using hl)with rfl|rfl|rfl<;>unfold AN.lb<;>omega
 nd:=by
  have:=ok.b1;simp[Ew,AN.g,AN.bA,AN.bB,AN.bC,AN.lb];omega
 nms:=by
  have:=ok.b1;cases ho:F.out<;>simp[AN.g,B6,AN.bA,AN.bB,AN.bC,AN.FL,AN.EA,AN.CJ,ho,AN.nm]<;>omega
 pp:=Yr ok (by decide)
 wd:=.inr rfl
 cnt:=by cases ho:F.out<;>simp[AN.g,B6,AN.bA,AN.bB,AN.bC,AN.FL,AN.EA,AN.CJ,ho]
 rnk:=⟨λl=>if l=F.lb 2 then 0 else 1,λb Y no k hk=>by
  have h1:=ok.b1;rcases(show b=F.bA\/b=F.bB\/b=F.bC by simpa [AN.g]using Y)with rfl|rfl|rfl
  .show (if F.bA.lb=F.lb 2 then 0 else 1)<(if k=F.lb 2 then 0 else 1)
   rw[KE (show F.bA.lb=F.lb 2 from rfl)];rcases(show k=F.lb 0\/k=F.lb 1 by simpa [AN.bA,Ja]using hk)with rfl|rfl
   .rw [JW (by unfold AN.lb;omega)];decide
   .rw [JW (by unfold AN.lb;omega)];decide
  .cases hk
  .cases hk⟩
def Y7 (ok:F.Ok):∀f∈F.prog,CH (F.prog.map (·.nm)) f:=λf G=>by
 have:f=fM\/f=F.g:=by
  unfold AN.prog at G;split at G<;>simp at G
  .show G
  .show G.symm
 rcases this with rfl|rfl
 .show main_k F
 .show g_k ok
end
end P2
namespace P2
open PySem PySem.Spec PyProof.Rows L2
def Q3 (K:A3)(T:Addr):Sp:=λvs H Q _=>∃(a:Addr) (ns:List Int),vs=[.ref a]/\AK K H a (ns.map V.int)/\ns.length<=63/\H T=some (.FK #[])/\∀H',Q (.bl true) H'
theorem O6:∀(b a:Int) (n:Nat),Jo n n=((AN.mk b a true).outs n).map V.int
 | _,_,0=>rfl
 | b,a,n+1=>by
  show V.int ((n+1:Nat):Int)::Jo (((n+1:Nat):Int)-1) n=_
  rw[show((n+1:Nat):Int)-1=(n:Int)by omega,O6 b a n];rfl
theorem U0:∀(b a:Int) (n:Nat),(AN.mk b a false).outs n=[]
 | _,_,0=>rfl
 | b,a,n+1=>by
  show[]++(AN.mk b a false).outs n=[]
  rw[U0 b a n];rfl
def AK.kp {K:A3}{H H':Hp}{a T:Addr}{xs:List V}{ps:Array Value}(h:AK K H a xs)(k:Kp T H H')(G:H T=some (.FK ps)):AK K H' a xs:=by
 rcases h with(h|⟨o,h⟩)|h
 .show .inl (.inl (k _ _ h (Bl h G (by simp))))
 .show .inl (.inr ⟨o,k _ _ h (Bl h G (by simp))⟩)
 .show .inr h
def AK.sm {K:A3}{H H':Hp}{a:Addr}{xs:List V}(h:AK K H a xs)(k:AA H H'):AK K H' a xs:=by
 rcases h with(h|⟨o,h⟩)|h
 .show .inl (.inl (k _ _ h))
 .show .inl (.inr ⟨o,k _ _ h⟩)
 .show .inr h
def Qz (h:K9 GC L9 ps H)(s:AA H H'):K9 GC L9 ps H':=h.imp id λ⟨c,G,O⟩=>(Aq c G (s _ _ O))
noncomputable def dat (e:Str)(x:PyData)(ls:List Int)(w:Int):PyData:=.tuple [.str e,x,.tuple (ls.map PyData.int),.int w]
def Qo (h1:H q=some (.tup [.str e,v,.ref tl,.int w]))(h2:H tl=some (.tup (ls.map V.int)))(G:PD H v x):PD H (.ref q) (dat e x ls w):=
 (Aw q _ rfl h1 (Bu rfl rfl (Bu rfl G (Bu rfl (Aw tl _ rfl h2 (Sf ls)) (Bu rfl rfl rfl)))))
def Ze (ls:List Int)(w:Int)(G:PyData.strOk e=true)(O:x=.none\/∃i,x=.int i):SeqAt.shaped (dat e x ls w)=true/\SeqAt.noMix (dat e x ls w) (dat e x ls w)=true/\PySem.Spec.same (dat e x ls w) (dat e x ls w)=true:=by
 have l:=Rt ls;have d:=O8 ls;have s:=Oa ls;have n:=Mt ls
 rcases O with rfl|⟨i,rfl⟩<;>show(A6 ?_ ?_ ?_)<;>simp[dat,SeqAt.shaped,PyData.canLay0,PyData.canLayAll0,PyData.depth,PyData.depthAll,SeqAt.noMix,SeqAt.noMixAll,PySem.Spec.same,PySem.Spec.sameAll,G,l,d,s,n]
def Ua (F:AN)(o:Int)(n a b:Nat)(h:(F.o:Int)=o):(((a+F.o)*n+b:Nat):Int)=((a:Int)+o)*n+b:=by
 rw[← h];push_cast;rfl
section
variable {P:Program}{w:World}{K:A3}{mg:Bv}{base:Heap}{t1 t2 t3 t4:Tok}{tb:Addr}
def sc_law:AB ["_law_script","_law_k","_law_cell_here","_law_many","_law_out","_law_program_here","_law_letters","_law_found"] ["_law_script"] (Af Nj):=⟨rfl,rfl,rfl,by decide +kernel,rfl,by decide +kernel,by decide +kernel⟩
def ok_law (F':AG K "law" "law" Nj f fd)(T:BK K mg t1 t2 t3 t4)(aY:AM P w K mg base 1 "_law_cell" Oi (S1 K))(aZ:AM P w K mg base 1 "_law_program" Vv Sv)(aa:AM P w K mg base 8 "look_at_middle" Hy Iu)(aF:AM P w K mg base 9 "middle_run" Oq (Xl tb)):AD P w K mg base AU 10 f fd ["_law_script"] (Q3 K tb):=by
 show F'.At sc_law (λvs H Q E h=>?_) (λcdv A outer s H vs Q E Y h=>?_)
 . show B5 h λa ns z1 _=>?_;subst z1;rfl
 . show Jr h λa ns z1 hS hl U kq=>?_;subst z1;have nd:=sc_law.nd
   show Ac (Ae (Bw JT rfl (Ob rfl T.GN (Aa Ah Ad)) (Al (i:=1) nd rfl (Or.inl rfl)) (Ae (A9 (i:=2) nd rfl (Or.inl rfl) (Ax aY (rm Y) rfl (Aa (qv 0) (Aa (qv 1) Ad))))
     (Ae (A9 (i:=3) nd rfl (Or.inl rfl) (B1 Hr (B1 J9 (qv 2) Ah) Ah))
     (Ae (Bh (QW.pt (Kq (A2 Bs (qv 1) Ah (A1 _)) (Jz (A2 Bs (B1 Hr (qv 2) Ah) Ah (A1 _))))) (Ai (A9 (i:=3) nd rfl (Or.inl rfl) (B1 Hr (B1 J9 (qv 2) Ah) Ah))) A4)
     (Ae (A9 (i:=4) nd rfl (Or.inl rfl) (B1 Hr (B1 J9 (qv 2) Ah) Ah))
     (Ae (A9 (i:=5) nd rfl (Or.inl rfl) (Ax aZ (rm Y) rfl (Aa (B1 Fb Ah (B1 Hr (B1 J9 (qv 2) Ah) Ah)) (Aa (B1 Hr (B1 J9 (qv 2) Ah) Ah) (Aa (Cb Bs (qv 4) Ah (A1 _)) Ad)))))
     (Ae (A7 (Ax aa (rm Y) rfl (Aa (qv 5) Ad)))
     (Ae (A9 (i:=6) nd rfl (Or.inl rfl) (Z2 rfl rfl T.BC rfl T.GN (Aa (qv 3) (Aa Ah (Aa (Gw Es Ah) Ad)))))
     (Ae (Bh (A2 Bs (qv 4) Ah (A1 _)) (Ai (A9 (i:=6) nd rfl (Or.inl rfl) (Bq Ad))) A4)
     (Ae (A9 (i:=7) nd rfl (Or.inl rfl) (Ax aF (rm Y) rfl (Aa (qv 5) (Aa (G7 (Aa (qv 3) Ad)) (Aa (B1 Fb (qv 3) Ah) Ad)))))
     (Ae (Bh (A2 (Yo Y.units) (qv 7) (Bq (Aa Av (Aa Ah (Aa (qv 6) (Aa (B1 Fb (B1 Hq (B1 Fb Ah (qv 4)) (qv 3)) Ah) Ad))))) (A1 _)) (Ai Bd) A4)
     (Ai (Bh (A2 (Yo Y.units) (Ax aF (rm Y) rfl (Aa (qv 5) (Aa (G7 (Aa (qv 3) Ad)) (Aa (qv 3) Ad)))) (Bq (Aa Av (Aa C6 (Aa (qv 6) (Aa (B1 Fb (B1 Hq (B1 Fb Ah (qv 4)) (qv 3)) Ah) Ad))))) (A1 _)) (Ai Bd) A4)))))))))))))
     (Ai (A0 Hd))) ?_
   show Ep 3 rfl (by decide) (by decide) (Wc (n:=3) (λi σ H'=>(∃o1 o2 o3 o4 o5 o6 G,σ=[some (.ref a),o1,o2,o3,o4,o5,o6,G])/\AK K H' a (ns.map V.int)/\∃ps,H' tb=some (.FK ps)/\K9 GC L9 ps H') (A6 (En ⟨_,rfl⟩) hS (Ac U (.inl rfl))) ?_ (λσ H' _=>kq H'));rintro i σ a4 hi ⟨⟨o1,o2,o3,o4,o5,o6,G,rfl⟩,hS,ps,U,a8⟩;show Ac rfl (Ac rfl (Ny a ns _ rfl hS (by omega) (by omega) λc=>?_));show Ac rfl (Ex rfl rfl ⟨by decide,by decide⟩ (Ex rfl rfl (by show(0:Int)<41;decide) ?_));dsimp only[He];show norm (σ':=[some (.ref a),some (.int (0+i)),some (.int c),some (.int (c/64%41)),o4,o5,o6,G]) rfl (join (λσ' H'=>H'=a4/\∃n:Nat,n<=2500/\σ'=[some (.ref a),some (.int (0+i)),some (.int c),some (.int (n:Int)),o4,o5,o6,G]) (λσ' H7 j=>?_) (λgo=>?_))
   . show D7 j λz1 z2=>Am z2 λn hn z3=>?_;subst z1 z3;show Ac rfl (Ex rfl rfl ⟨by decide,by decide⟩ (Ex rfl rfl (by show(0:Int)<2;decide) ?_));show Ac rfl (Ex rfl rfl ⟨by decide,by decide⟩ (Ex rfl rfl (by show(0:Int)<3;decide) (Bu rfl rfl (Ac rfl (Ex rfl rfl ⟨by decide,by decide⟩ (Ex rfl rfl (by show(0:Int)<4;decide) (A8 rfl rfl ?_)))))));have ok:(AN.mk (1+c/16%3) (c/48%4) (decide (V.int (c/8%2)=V.int 1))).Ok:=⟨by show 1<=1+c/16%3;omega,by show 1+c/16%3<=3;omega,by show 0<=c/48%4;omega,by show c/48%4<=3;omega⟩;show Bc (AN.mk (1+c/16%3) (c/48%4) (decide (V.int (c/8%2)=V.int 1))) rfl ok λv H1 s1 a2=>?_;obtain⟨F,hF⟩:∃F:AN,F=AN.mk (1+c/16%3) (c/48%4) (decide (V.int (c/8%2)=V.int 1)):=⟨_,rfl⟩;rw[← hF]at ok a2;have eo:F.out=decide (V.int (c/8%2)=V.int 1):=by rw[hF]
     have aA:(F.o:Int)=c/8%2:=by
       unfold AN.o;rw[eo];by_cases e:c/8%2=1
       . rw[KH (LR V.int e),KE rfl,e];rfl
       . rw[KL λz=>e (V.int.inj z),JW (by decide),show c/8%2=0 by omega];rfl
     show N0 (T0 F) λf1 f2 f3 f4=>Ac rfl (D5 v F.prog rfl a2 f4 f3 f1 ⟨Y7 ok,λH2 s2=>Ac rfl (Ac rfl (Bc n rfl (by omega) λp hp=>?_))⟩);have s3:=(AA.refl H2).upd (o:=.tup (Jo n n)) hp;have e3:=Ag (H:=H2) (a:=p) (o:=.tup (Jo n n));generalize upd H2 p (.tup (Jo n n))=H3 at *;dsimp only[He];show norm (σ':=[some (.ref a),some (.int (0+i)),some (.int c),some (.int (n:Int)),some (.int (c/8%2)),some v,some (.ref p),G]) rfl (join (λσ' H'=>∃lt,AA H3 H'/\H' lt=some (.tup ((F.outs n).map V.int))/\σ'=[some (.ref a),some (.int (0+i)),some (.int c),some (.int (n:Int)),some (.int (c/8%2)),some v,some (.ref lt),G]) (λσ' H4 j=>?_) (λgo=>?_))
     . show Bp j λlt s4 aL z1=>?_;subst z1;have a7:=((s1.trans s2).trans s3).trans s4;replace a2:=a2.mono ((s2.trans s3).trans s4).AH;replace hS:=AK.sm hS a7;replace U:=a7 _ _ U;replace a8:=Qz a8 a7;show Ac rfl (A8 rfl (zl 1) λa1 a9=>(Ac rfl (Bu rfl rfl ?_)));have O:=(AA.refl H4).upd (o:=.lst [.int (n:Int)]) a9;have e5:=Ag (H:=H4) (a:=a1) (o:=.lst [.int (n:Int)]);generalize upd H4 a1 (.lst [.int (n:Int)])=H5 at *;show Fe v F.prog a1 _ n _ (Jn ps rfl (a2.mono O.AH) f4 f3 (Y7 ok) (Fq e5 (all_of ok hn) (O _ _ U) (Qz a8 O) λq tl c' H6 k6 a5 aJ aQ hq=>?_));have aC:CI H5 H6:=λb xs e=>k6 _ _ e (Bl e (O _ _ U) (by simp));have aD:=aC _ _ (O _ _ aL);have aW:=(a2.mono O.AH).mono aC;have aG:=AK.kp (AK.sm hS O) k6 (O _ _ U);show Ac rfl (Ac rfl (Ac rfl (Bu rfl rfl (Ac rfl (Ex rfl rfl (.inr ⟨by omega,by omega⟩) (Ex rfl rfl (zl 4) λp2 a6=>?_))))));have s7:=(AA.refl H6).upd (o:=.tup [.str "answer",.int 0,.ref lt,.int ((7+c/8%2)*n+6)]) a6;have e7:=Ag (H:=H6) (a:=p2) (o:=.tup [.str "answer",.int 0,.ref lt,.int ((7+c/8%2)*n+6)]);generalize upd H6 p2 (.tup [.str "answer",.int 0,.ref lt,.int ((7+c/8%2)*n+6)])=H7 at *;show B9 (Ze (e:="answer") (x:=.int 0) (F.outs n) ((7+c/8%2)*n+6) (by decide +kernel) (.inr ⟨_,rfl⟩)) λsh nm sa=>?_;have aN:H7 q=some (.tup [.str "answer",.int 0,.ref tl,.int ((7+c/8%2)*n+6)]):=by
         rw[s7 _ _ hq]
         show some (HO.tup [.str "answer",.int 0,.ref tl,.int (((7+F.o)*n+6:Nat):Int)])=_
         rw[Ua F _ n 7 6 aA];rfl
       show Jn (dat "answer" (.int 0) (F.outs n) ((7+c/8%2)*n+6)) (Qo aN (s7 _ _ aQ) rfl) (Qo e7 (s7 _ _ aD) rfl) sh nm sa (Ac rfl (Fd (A:=_) (Ac rfl (A8 rfl (zl 1) λa1 a9=>(Ac rfl ?_)))));have s8:=s7.upd (o:=.lst [.int (n:Int)]) a9;have e8:=Ag (H:=H7) (a:=a1) (o:=.lst [.int (n:Int)]);generalize upd H7 a1 (.lst [.int (n:Int)])=H8 at *;have aX:K9 GC L9 #[rawInt GC.line,rawInt GC.col,.ref c'] H8:=.inr (Aq c' rfl (s8 _ _ aJ));show Fe v F.prog a1 _ n _ (jj15 rfl (aW.mono s8.AH) f4 f3 (Y7 ok) (Fq e8 (Ac2 ok hn) (s8 _ _ a5) aX λq2 aB c2 H9 k9 aI aK aU aO=>?_));have aR:CI H8 H9:=λb xs e=>k9 _ _ e (Bl e (s8 _ _ a5) (by simp));have aS:=aR _ _ (s8 _ _ aD);have aH:=AK.kp (AK.sm aG s8) k9 (s8 _ _ a5);show Ac rfl (Ac rfl (Bu rfl rfl (Ac rfl (Ex rfl rfl (.inr ⟨by omega,by omega⟩) (Ex rfl rfl (zl 4) λp3 aM=>?_)))));have sA:=(AA.refl H9).upd (o:=.tup [.str "more",.AQ,.ref lt,.int ((6+c/8%2)*n+1)]) aM;have eA:=Ag (H:=H9) (a:=p3) (o:=.tup [.str "more",.AQ,.ref lt,.int ((6+c/8%2)*n+1)]);generalize upd H9 p3 (.tup [.str "more",.AQ,.ref lt,.int ((6+c/8%2)*n+1)])=HA at *;show B9 (Ze (e:="more") (x:=.none) (F.outs n) ((6+c/8%2)*n+1) (by decide +kernel) (.inl rfl)) λsh nm sa=>?_;have aP:HA q2=some (.tup [.str "more",.AQ,.ref aB,.int ((6+c/8%2)*n+1)]):=by
         rw[sA _ _ aO]
         show some (HO.tup [.str "more",.AQ,.ref aB,.int (((6+F.o)*n+1:Nat):Int)])=_
         rw[Ua F _ n 6 1 aA];rfl
       show Jn (dat "more" .none (F.outs n) ((6+c/8%2)*n+1)) (Qo aP (sA _ _ aU) rfl) (Qo eA (sA _ _ aS) rfl) sh nm sa (Ac rfl (Fd (A:=_) (A6 (En ⟨_,rfl⟩) (AK.sm aH sA) (Ac (sA _ _ aI) (.inr (Aq c2 rfl (sA _ _ aK)))))))
     . show A8 rfl rfl (Ac rfl ?_);by_cases e:c/8%2=0
       . rw[KH (LR V.int e)];show Cq (B:=_) ⟨zl 0,λp2 a6=>go _ _ (Bc p2 ((AA.refl H3).upd a6) ?_ rfl)⟩;have hf:F.out=false:=by rw[eo,e];decide
         have ho:F.outs n=[]:=by
           obtain⟨b,a,out⟩:=F;obtain rfl:out=false:=hf;show U0 _ _ n
         rw[ho];show Ag
       . rw[KL λz=>e (V.int.inj z)];show Fd (A:=_) (go _ _ (Bc p (AA.refl _) ?_ rfl));have hf:F.out=true:=by rw[eo,show c/8%2=1 by omega];decide
         have ho:(F.outs n).map V.int=Jo n n:=by
           obtain⟨b,a,out⟩:=F;obtain rfl:out=true:=hf;show(O6 _ _ n).symm
         rw[ho];show e3
   . have n1:∃n:Nat,n<=2500/\c/64%41=(n:Int):=(Aq ((c/64%41).toNat) (by omega) (by omega));have n2:∃n:Nat,n<=2500/\c/64%2501=(n:Int):=(Aq ((c/64%2501).toNat) (by omega) (by omega));obtain⟨n1,l1,e1⟩:=n1;obtain⟨n2,l2,e2⟩:=n2;have g1:=go [some (.ref a),some (.int (0+i)),some (.int c),some (.int (c/64%41)),o4,o5,o6,G] a4 ⟨rfl,(Aq n1 l1 (by rw[e1]))⟩;show A8 rfl rfl (Ac rfl (Nx (λ_=>(Ac rfl (jj24 rfl rfl (by show(0:Int)<8;decide) rfl (Ac rfl (Nx (λ_=>?_) (λ_=>g1)))))) (λ_=>g1)));show Ac rfl (Ex rfl rfl ⟨by decide,by decide⟩ (Ex rfl rfl (by show(0:Int)<2501;decide) (go [some (.ref a),some (.int (0+i)),some (.int c),some (.int (c/64%2501)),o4,o5,o6,G] a4 ⟨rfl,(Aq n2 l2 (by rw[e2]))⟩)))
end
end P2
namespace P2
open PySem PySem.Spec PyProof.Rows L2
def Ae2 {P:Program}{w:World}{K:A3}{mg:Bv}{base:Heap}{t1 t2 t3 t4 t5 t6 tS:Tok}{kT:List (Str×V)}{aT aE aV cG cE cR cF cC c tb fl aY b4 aC aB am a9 aW ac ar aZ aF ak aD aJ aI aH aq aA ax b7 ae az aw bE av aG aO al aL ap aQ af b2 aM bD ah b5 ag au ao b9 b8 ay b6 aK aX aN aP a5 a4 aR aU aj ai as aS cO d1 cM bh d2 d0 c5 cr d8 c4 cq cN c3:Addr}{dl c0 cx bO bN cT bG bx cB cX c1 bQ cQ bP bU bT bS cW bH cj d4 cD cm cc d9 cb bR bc cS bY cV bf cH cn bZ d7 cJ cy cI ca cU d6 d5 ck cz bV bz bb be cL c2 bg bw cK aa cZ bu cA cu c8 bX cw cs bq ci d3 bp cg c9 bo:FuncData}
  (fJ:AG K "is_number" "is_number" E3 aY c0)(fk:mg "is_number"=some (.ref aY))(fc:PySem.W.keepIn K (.ref aY)=true)(fV:Binds K c0 B2 [])
  (iC:AG K "is_of_language" "is_of_language" C2 b4 cx)(iO:mg "is_of_language"=some (.ref b4))(iL:PySem.W.keepIn K (.ref b4)=true)(iI:Binds K cx B2 [])
  (di:AG K "is_name" "is_name" Hl aC bO)(eE:mg "is_name"=some (.ref aC))(e5:PySem.W.keepIn K (.ref aC)=true)(dv:Binds K bO B2 [])
  (dh:AG K "is_kind" "is_kind" Hm aB bN)(eD:mg "is_kind"=some (.ref aB))(e4:PySem.W.keepIn K (.ref aB)=true)(du:Binds K bN B2 [])
  (gh:AG K "is_tuple_of" "is_tuple_of" Ef am cT)(h7:mg "is_tuple_of"=some (.ref am))(gy:PySem.W.keepIn K (.ref am)=true)(gp:Binds K cT Jc [])
  (dM:AG K "want" "want" L7 a9 bG)(dQ:mg "want"=some (.ref a9))(dP:PySem.W.keepIn K (.ref a9)=true)(dO:Binds K bG J7 [])
  (fE:AG K "are_names" "are_names" E9 aW bx)(fi:mg "are_names"=some (.ref aW))(fa:PySem.W.keepIn K (.ref aW)=true)(fS:Binds K bx B2 [])
  (g2:AG K "are_params" "are_params" El ac cB)(gT:mg "are_params"=some (.ref ac))(gL:PySem.W.keepIn K (.ref ac)=true)(gC:Binds K cB B2 [])
  (gl:AG K "param_names" "param_names" Dp ar cX)(hB:mg "param_names"=some (.ref ar))(h4:PySem.W.keepIn K (.ref ar)=true)(gu:Binds K cX ["params"] [])
  (fL:AG K "row_names" "row_names" Ez aZ c1)(fo:mg "row_names"=some (.ref aZ))(fe:PySem.W.keepIn K (.ref aZ)=true)(fW:Binds K c1 ["rows"] [])
  (dk:AG K "is_word" "is_word" Hj aF bQ)(eG:mg "is_word"=some (.ref aF))(e7:PySem.W.keepIn K (.ref aF)=true)(dy:Binds K bQ B2 [])
  (gf:AG K "first_again" "first_again" Dw ak cQ)(h5:mg "first_again"=some (.ref ak))(gw:PySem.W.keepIn K (.ref ak)=true)(gm:Binds K cQ ["things"] [])
  (dj:AG K "is_told" "is_told" Hk aD bP)(eF:mg "is_told"=some (.ref aD))(e6:PySem.W.keepIn K (.ref aD)=true)(dw:Binds K bP ["op","told"] [])
  (dr:AG K "word_of" "word_of" Hg aJ bU)(eK:mg "word_of"=some (.ref aJ))(eB:PySem.W.keepIn K (.ref aJ)=true)(e2:Binds K bU D9 [])
  (dq:AG K "ways_of" "ways_of" Hh aI bT)(eJ:mg "ways_of"=some (.ref aI))(eA:PySem.W.keepIn K (.ref aI)=true)(e1:Binds K bT D9 [])
  (dn:AG K "used_by" "used_by" Hi aH bS)(eI:mg "used_by"=some (.ref aH))(e9:PySem.W.keepIn K (.ref aH)=true)(e0:Binds K bS D9 [])
  (gk:AG K "look_at_row" "look_at_row" Ed aq cW)(hA:mg "look_at_row"=some (.ref aq))(h3:PySem.W.keepIn K (.ref aq)=true)(gs:Binds K cW ["row","place"] [])
  (dV:AG K "is_end" "is_end" Jg aA bH)(db:mg "is_end"=some (.ref aA))(dZ:PySem.W.keepIn K (.ref aA)=true)(dY:Binds K bH D9 [])
  (he:AG K "look_at_block" "look_at_block" De ax cj)(hy:mg "look_at_block"=some (.ref ax))(hu:PySem.W.keepIn K (.ref ax)=true)(hk:Binds K cj ["name","block"] [])
  (iW:AG K "functions_wrong" "functions_wrong" Cg b7 d4)(im:mg "functions_wrong"=some (.ref b7))(ii:PySem.W.keepIn K (.ref b7)=true)(ic:Binds K d4 ["functions"] [])
  (g3:AG K "give_names" "give_names" Ei ae cD)(gU:mg "give_names"=some (.ref ae))(gM:PySem.W.keepIn K (.ref ae)=true)(gD:Binds K cD Ol [])
  (hg:AG K "look_at_names" "look_at_names" Dc az cm)(i4:mg "look_at_names"=some (.ref az))(hw:PySem.W.keepIn K (.ref az)=true)(hq:Binds K cm AO [])
  (hI:AG K "look_at_uses" "look_at_uses" Dq aw cc)(hU:mg "look_at_uses"=some (.ref aw))(hQ:PySem.W.keepIn K (.ref aw)=true)(hM:Binds K cc Og [])
  (iu:AG K "look_at_function" "look_at_function" Cf bE d9)(ix:mg "look_at_function"=some (.ref bE))(iw:PySem.W.keepIn K (.ref bE)=true)(iv:Binds K d9 AO [])
  (hH:AG K "look_at_form" "look_at_form" Dr av cb)(hT:mg "look_at_form"=some (.ref av))(hP:PySem.W.keepIn K (.ref av)=true)(hL:Binds K cb Hy [])
  (dm:AG K "reached" "reached" Gf aG bR)(eH:mg "reached"=some (.ref aG))(e8:PySem.W.keepIn K (.ref aG)=true)(dz:Binds K bR Mh [])
  (eW:AG K "leads_of" "leads_of" Gg aO bc)(ew:mg "leads_of"=some (.ref aO))(el:PySem.W.keepIn K (.ref aO)=true)(ee:Binds K bc AO [])
  (gg:AG K "first_label" "first_label" Dv al cS)(h6:mg "first_label"=some (.ref al))(gx:PySem.W.keepIn K (.ref al)=true)(gn:Binds K cS AO [])
  (eT:AG K "above_of" "above_of" Gj aL bY)(er:mg "above_of"=some (.ref aL))(ei:PySem.W.keepIn K (.ref aL)=true)(eb:Binds K bY AO [])
  (gj:AG K "leads_round" "leads_round" Ds ap cV)(h9:mg "leads_round"=some (.ref ap))(h0:PySem.W.keepIn K (.ref ap)=true)(gr:Binds K cV Ks [])
  (eY:AG K "ring_end" "ring_end" Ge aQ bf)(ez:mg "ring_end"=some (.ref aQ))(en:PySem.W.keepIn K (.ref aQ)=true)(eg:Binds K bf Ks [])
  (g4:AG K "is_counted" "is_counted" Eg af cH)(gV:mg "is_counted"=some (.ref af))(gN:PySem.W.keepIn K (.ref af)=true)(gE:Binds K cH BE [])
  (hh:AG K "look_at_rings" "look_at_rings" Db b2 cn)(i5:mg "look_at_rings"=some (.ref b2))(hx:PySem.W.keepIn K (.ref b2)=true)(hr:Binds K cn AO [])
  (eU:AG K "block_of" "block_of" Gi aM bZ)(et:mg "block_of"=some (.ref aM))(ej:PySem.W.keepIn K (.ref aM)=true)(ec:Binds K bZ Oe [])
  (iZ:AG K "look_at_visible" "look_at_visible" Cn bD d7)(iq:mg "look_at_visible"=some (.ref bD))(il:PySem.W.keepIn K (.ref bD)=true)(ih:Binds K d7 AO [])
  (g6:AG K "kind_given" "kind_given" Ee ah cJ)(gX:mg "kind_given"=some (.ref ah))(gP:PySem.W.keepIn K (.ref ah)=true)(gH:Binds K cJ Mc [])
  (iD:AG K "look_at_copies" "look_at_copies" Cz b5 cy)(iP:mg "look_at_copies"=some (.ref b5))(iM:PySem.W.keepIn K (.ref b5)=true)(iJ:Binds K cy AO [])
  (g5:AG K "is_of_kind" "is_of_kind" E2 ag cI)(gW:mg "is_of_kind"=some (.ref ag))(gO:PySem.W.keepIn K (.ref ag)=true)(gG:Binds K cI Me [])
  (hG:AG K "are_of_kinds" "are_of_kinds" Dx au ca)(hS:mg "are_of_kinds"=some (.ref au))(hO:PySem.W.keepIn K (.ref au)=true)(hK:Binds K ca Q8 [])
  (gi:AG K "kinds_given" "kinds_given" Du ao cU)(h8:mg "kinds_given"=some (.ref ao))(gz:PySem.W.keepIn K (.ref ao)=true)(gq:Binds K cU Lb [])
  (iY:AG K "is_row_of_kinds" "is_row_of_kinds" C0 b9 d6)(ip:mg "is_row_of_kinds"=some (.ref b9))(ik:PySem.W.keepIn K (.ref b9)=true)(ig:Binds K d6 Oj [])
  (iX:AG K "is_end_of_kinds" "is_end_of_kinds" C3 b8 d5)(io:mg "is_end_of_kinds"=some (.ref b8))(ij:PySem.W.keepIn K (.ref b8)=true)(ie:Binds K d5 Oo [])
  (hf:AG K "look_at_kinds" "look_at_kinds" Dd ay ck)(i3:mg "look_at_kinds"=some (.ref ay))(hv:PySem.W.keepIn K (.ref ay)=true)(hp:Binds K ck Lb [])
  (iE:AG K "look_at_middle" "look_at_middle" Cy b6 cz)(iQ:mg "look_at_middle"=some (.ref b6))(iN:PySem.W.keepIn K (.ref b6)=true)(iK:Binds K cz Hy [])
  (dt:AG K "wrapped" "wrapped" Gb aK bV)(eL:mg "wrapped"=some (.ref aK))(eC:PySem.W.keepIn K (.ref aK)=true)(e3:Binds K bV ["number"] [])
  (fH:AG K "as_number" "as_number" E8 aX bz)(fj:mg "as_number"=some (.ref aX))(fb:PySem.W.keepIn K (.ref aX)=true)(fU:Binds K bz ["truth"] [])
  (eV:AG K "compared" "compared" E6 aN bb)(eu:mg "compared"=some (.ref aN))(ek:PySem.W.keepIn K (.ref aN)=true)(ed:Binds K bb Mg [])
  (eX:AG K "reckoned" "reckoned" E1 aP be)(ey:mg "reckoned"=some (.ref aP))(em:PySem.W.keepIn K (.ref aP)=true)(ef:Binds K be ["op","args"] [])
  (g9:AG K "value_kept" "value_kept" Eb a5 cL)(iz:mg "value_kept"=some (.ref a5))(gS:PySem.W.keepIn K (.ref a5)=true)(gK:Binds K cL J8 [])
  (fN:AG K "value_out" "value_out" Ey a4 c2)(iy:mg "value_out"=some (.ref a4))(ff:PySem.W.keepIn K (.ref a4)=true)(fX:Binds K c2 J8 [])
  (eZ:AG K "value_of" "value_of" Gc aR bg)(f3:mg "value_of"=some (.ref aR))(eo:PySem.W.keepIn K (.ref aR)=true)(eh:Binds K bg Op [])
  (fD:AG K "answer_of" "answer_of" Fa aU bw)(fh:mg "answer_of"=some (.ref aU))(fZ:PySem.W.keepIn K (.ref aU)=true)(fR:Binds K bw Om [])
  (g8:AG K "run_within" "run_within" Ec aj cK)(gZ:mg "run_within"=some (.ref aj))(gR:PySem.W.keepIn K (.ref aj)=true)(gJ:Binds K cK Od [])
  (g7:AG K "middle_run" "middle_run" Cw ai aa)(gY:mg "middle_run"=some (.ref ai))(gQ:PySem.W.keepIn K (.ref ai)=true)(gI:Binds K aa Oq [])
  (hF:AG K "_law_program" "_law_program" Dt as cZ)(hR:mg "_law_program"=some (.ref as))(hN:PySem.W.keepIn K (.ref as)=true)(hJ:Binds K cZ Vv [])
  (fB:AG K "_law_cell" "_law_cell" Gh aS bu)(fg:mg "_law_cell"=some (.ref aS))(fY:PySem.W.keepIn K (.ref aS)=true)(fQ:Binds K bu Oi [])
  (g1:AG K "__init__" "Given.__init__" Eh cO cA)
  (iA:AG K "is_ahead" "Given.is_ahead" C4 d1 cu)
  (fz:AG K "__init__" "Ended.__init__" Ek cM c8)
  (eS:AG K "__init__" "Run.__init__" Gd bh bX)
  (iB:AG K "count_tick" "Run.count_tick" Cv d2 cw)
  (i9:AG K "has_rows" "Frame.has_rows" C5 d0 cs)
  (f9:AG K "row" "Frame.row" E4 c5 bq)
  (hb:AG K "held_by" "Frame.held_by" Df cr ci)
  (iV:AG K "row_ended" "Frame.row_ended" Co d8 d3)
  (f8:AG K "led" "Frame.led" E5 c4 bp)
  (hZ:AG K "end_run" "Frame.end_run" Dg cq cg)
  (g0:AG K "__init__" "Frame.__init__" Ej cN c9)
  (f7:AG K "__init__" "Code.__init__" E7 c3 bo)
  (Fl:AG K "law" "law" Nj fl dl)(T:BK K mg t1 t2 t3 t4)(TT:TxT K w mg aT aE kT)(TK:TxK mg t5 t6)(TS:TxS mg tS)(a8:TxG K cG d1 cu)(dH:TxGm K mg cG cA)(dX:Mk K cG cO)(TE:TxE K mg cE cM c8)(Y:TxR K cR d2 cw)(dJ:TxW K mg cR bX)(dN:Mk K cR bh)(TV:TxV K w mg aV a5 a4)
  (O:TxF K cF d0 c5 cr d8 c4 cq cs bq ci d3 bp cg)(dD:TxA K mg cF c9)(dW:Mk K cF cN)(bF:TxC K cC)(dE:TxCm K mg cC bo)(dS:Mk K cC c3)
  (hc:aa.code=.ref c)(C:PySem.W.CodeHd base c tb)(dB:BM mg base):AD P w K mg base AU 10 fl dl ["_law_script"] (Q3 K tb):=by
 have a2:AM P w K mg base 1 "is_number" B2 L5:=⟨_,_,P4 fJ T,fk,fc,fV⟩;have i6:AM P w K mg base 2 "is_of_language" B2 Xm:=⟨_,_,Kc iC T a2,iO,iL,iI⟩;have a1:AM P w K mg base 2 "is_name" B2 Jf:=⟨_,_,Tj di a2,eE,e5,dv⟩;have bJ:AM P w K mg base 2 "is_kind" B2 Pk:=⟨_,_,Tk dh a2,eD,e4,du⟩;have a6:AM P w K mg base 1 "is_tuple_of" Jc Ir:=⟨_,_,Mp gh T,h7,gy,gp⟩;have G:AM P w K mg base 1 "want" J7 G6:=⟨_,_,Ab8 dM,dQ,dP,dO⟩;have bi:AM P w K mg base 3 "are_names" B2 Ln:=⟨_,_,P6 fE T a1,fi,fa,fS⟩;have c6:AM P w K mg base 3 "are_params" B2 Jx:=⟨_,_,Nt g2 T a6 a1 bJ,gT,gL,gC⟩;have a7:AM P w K mg base 1 "param_names" ["params"] Vp:=⟨_,_,Mj gl,hB,h4,gu⟩;have bj:AM P w K mg base 1 "row_names" ["rows"] Zq:=⟨_,_,P3 fL,fo,fe,fW⟩;have de:AM P w K mg base 1 "is_word" B2 So:=⟨_,_,Tg dk T,eG,e7,dy⟩;have cP:AM P w K mg base 1 "first_again" ["things"] Ui:=⟨_,_,Mr gf T,h5,gw,gm⟩;have dc:AM P w K mg base 3 "is_told" ["op","told"] Sr:=⟨_,_,Ti dj T a2 i6,eF,e6,dw⟩;have df:AM P w K mg base 1 "word_of" D9 Xi:=⟨_,_,Tc dr T,eK,eB,e2⟩;have U:AM P w K mg base 1 "ways_of" D9 Ib:=⟨_,_,Td dq,eJ,eA,e1⟩;have bL:AM P w K mg base 1 "used_by" D9 Pi:=⟨_,_,Te dn,eI,e9,e0⟩;have ge:AM P w K mg base 4 "look_at_row" ["row","place"] Sw:=⟨_,_,Ml gk T TT G a6 a1 dc bi,hA,h3,gs⟩;have dU:AM P w K mg base 4 "is_end" D9 Pl:=⟨_,_,Vz dV T TT df a2 U a1 bi,db,dZ,dY⟩;have hV:AM P w K mg base 5 "look_at_block" ["name","block"] Sx:=⟨_,_,Kw he T G c6 ge dU,hy,hu,hk⟩;have iR:AM P w K mg base 2 "functions_wrong" ["functions"] spFw:=⟨_,_,Jk iW T a6 cP,im,ii,ic⟩;have fq:AM P w K mg base 2 "give_names" Ol Sz:=⟨_,_,Nr g3 G,gU,gM,gD⟩;have hX:AM P w K mg base 3 "look_at_names" AO Dk:=⟨_,_,Ku hg T G fq a7 bj,i4,hw,hq⟩;have hE:AM P w K mg base 2 "look_at_uses" Og Sq:=⟨_,_,Lc hI T G U,hU,hQ,hM⟩;have ir:AM P w K mg base 6 "look_at_function" AO Dk:=⟨_,_,I0 iu T G de c6 bJ a6 a1 hV cP hX,ix,iw,iv⟩;have hD:AM P w K mg base 7 "look_at_form" Hy Iu:=⟨_,_,Ld hH T iR ir hE,hT,hP,hL⟩;have bK:AM P w K mg base 1 "reached" Mh Uj:=⟨_,_,Tf dm T,eH,e8,dz⟩;have bW:AM P w K mg base 2 "leads_of" AO Lo:=⟨_,_,Rg eW U,ew,el,ee⟩;have gb:AM P w K mg base 1 "first_label" AO spFl:=⟨_,_,Mq gg,h6,gx,gn⟩;have eM:AM P w K mg base 3 "above_of" AO Pn:=⟨_,_,Rk eT T bW gb bK,er,ei,eb⟩;have gd:AM P w K mg base 2 "leads_round" Ks spLr:=⟨_,_,Mm gj T bK,h9,h0,gr⟩;have eQ:AM P w K mg base 3 "ring_end" Ks spRe:=⟨_,_,Re eY T gd,ez,en,eg⟩;have ft:AM P w K mg base 1 "is_counted" BE Xp:=⟨_,_,Nq g4 T,gV,gN,gE⟩;have hY:AM P w K mg base 4 "look_at_rings" AO Dk:=⟨_,_,Kt hh ft bW eQ,i5,hx,hr⟩;have gB:=Nu (P:=P) (w:=w) (mg:=mg) (base:=base) g1 T a8 eM a7 bj;have iG:=Ke (P:=P) (w:=w) (mg:=mg) (base:=base) iA a8;have eN:AM P w K mg base 1 "block_of" Oe Pm:=⟨_,_,Rj eU,et,ej,ec⟩;have iU:AM P w K mg base 6 "look_at_visible" AO Dk:=⟨_,_,Jh iZ T a8 dH dX gB iG G bL U,iq,il,ih⟩;have fw:AM P w K mg base 1 "kind_given" Mc spKG:=⟨_,_,Nn g6 T,gX,gP,gH⟩;have i7:AM P w K mg base 1 "look_at_copies" AO spLC:=⟨_,_,Kb iD T,iP,iM,iJ⟩;have fu:AM P w K mg base 1 "is_of_kind" Me spOK:=⟨_,_,Np g5 T TK,gW,gO,gG⟩;have cY:AM P w K mg base 2 "are_of_kinds" Q8 (Ul K):=⟨_,_,Le hG T fu,hS,hO,hK⟩;have gc:AM P w K mg base 2 "kinds_given" Lb Pj:=⟨_,_,Mo gi T i7 fw,h8,gz,gq⟩;have iT:AM P w K mg base 3 "is_row_of_kinds" Oj Xk:=⟨_,_,Ji iY T TT cY,ip,ik,ig⟩;have iS:AM P w K mg base 3 "is_end_of_kinds" Oo Xn:=⟨_,_,Jj iX T cY bL U eN,io,ij,ie⟩;have hW:AM P w K mg base 4 "look_at_kinds" Lb L4:=⟨_,_,Kv hf T G gc iT iS,i3,hv,hp⟩;have i8:AM P w K mg base 8 "look_at_middle" Hy Iu:=⟨_,_,Ka iE T hD iU hW hY,iQ,iN,iK⟩;have dg:AM P w K mg base 1 "wrapped" ["number"] spWr:=⟨_,_,Ta dt T TS,eL,eC,e3⟩;have f6:AM P w K mg base 1 "as_number" ["truth"] spAs:=⟨_,_,P5 fH,fj,fb,fU⟩;have eO:AM P w K mg base 2 "compared" Mg S0:=⟨_,_,Ri eV f6,eu,ek,ed⟩;have eP:AM P w K mg base 3 "reckoned" ["op","args"] Su:=⟨_,_,Rf eX dg eO,ey,em,ef⟩;have c7:=Nw (P:=P) (w:=w) (mg:=mg) (base:=base) fz TE;have ea:=Rl (P:=P) (w:=w) (mg:=mg) (base:=base) eS Y;have iH:=Kd (P:=P) (w:=w) (mg:=mg) (base:=base) iB TE c7 Y;have dL:∀h g,MVF a5 a4 h g->∃fd,AD P w K mg base (HS P w) 4 g fd J8 (Uh cR h)/\PySem.W.keepIn K (.ref g)=true/\Binds K fd J8 []:=by
  rintro h g (⟨rfl,rfl⟩|⟨rfl,rfl⟩)
  .show A8 ((Nk g9).up.mono (by decide)) gS gK
  .show A8 ((P0 fN Y).up.mono (by decide)) ff fX
 have eR:FnB2 P w K mg base 5 "value_of" Op (Ph cR):=⟨_,_,Rc eZ TE c7 TV eP dL,f3,eo,eh⟩;have iF:=Kf (P:=P) (w:=w) (mg:=mg) (base:=base) i9 T O;have bn:=P8 (P:=P) (w:=w) (mg:=mg) (base:=base) f9 O;have ce:=Kx (P:=P) (w:=w) (mg:=mg) (base:=base) hb O;have ib:=Jl (P:=P) (w:=w) (mg:=mg) (base:=base) iV O bn;have fP:=P9 (P:=P) (w:=w) (mg:=mg) (base:=base) f8 T O ce a7;have hj:=Ky (P:=P) (w:=w) (mg:=mg) (base:=base) hZ T O fP U;have gA:=Nv (P:=P) (w:=w) (mg:=mg) (base:=base) g0 T bF O;have fO:=Qa (P:=P) (w:=w) (mg:=mg) (base:=base) f7 T bF a7;have f5:FnB2 P w K mg base 6 "answer_of" Om (Jy cC cR cE):=⟨_,_,P7 fD T O Y dD dW gA iF bn ce ib hj iH eR,fh,fZ,fR⟩;have fy:FnBC P w K mg base 8 "run_within" Od FD (L3 cC):=⟨_,_,Nl g8 T TE Y dJ dN ea (lam_fn f5),gZ,gR,gJ⟩;have fx:AM P w K mg base 9 "middle_run" Oq (Xl tb):=⟨_,_,Nm g7 hc C dB T dE dS fO fy,gY,gQ,gI⟩;have hC:AM P w K mg base 1 "_law_program" Vv Sv:=⟨_,_,Mn hF T,hR,hN,hJ⟩;have f4:AM P w K mg base 1 "_law_cell" Oi (S1 K):=⟨_,_,Rh fB T,fg,fY,fQ⟩;show ok_law Fl T f4 hC i8 fx
end P2
namespace L2
open PySem PySem.Spec PyProof.Rows
def Ac5 {P:Program}{w:World}{K:A3}{mg mb:Bv}{k:Nat}{fa a c T:Addr}{fd:FuncData}{x:Str}{sp:Sp}{s:Shared}{vs:List Value}{ns:List Int}
  (KX:K.In s.heap)(tb:s.heap.get? T=some (PySem.W.tabObj #[]))(hc:PySem.W.codeHdIn K c T=true)(a7:K.lookup T=none)(B:BM mg s.heap)(gl:s.heap.Ns mainGlobals mg)(bl:s.heap.Ns builtinsNs mb)
  (bb:∀y:Str,y≠"__name__"->mb y=bootBuiltins y)(a6:s.heap.NoLimit)(gn:s.gens=#[])(at_:s.heap.get? a=some {cls:=.type "list",data:=.seq vs.toArray})(ia:IntsAre vs ns)(le:ns.length<=sizeLine)(a9:AV k callerA)
  (F:∀base:Heap,K.In base->base.Ns mainGlobals mg->BM mg base->AD P w K mg base AU k fa fd [x] sp)(bd:∀(t:Shared) (u:Value),BindsTo t fd ⟨[u],[]⟩ [(x,u)])
  (go:∀H:Hp,AK K H a (ns.map V.int)->H T=some (.FK #[])->sp [.ref a] H (λv _=>v=.bl true) λ_ _ _=>False) :
  codeAny (model P w) callerA (.call (.ref fa) ⟨[.ref a],[]⟩) (λr t=>r=.ok (.ret (.bool true))/\OldK s.heap t.heap/\t.os=s.os/\AllBare t.gens) s:=by
 have rv:=N7 ia;have aT:a≠T:=λz=>by
  rw[z,tb]at at_;have:=LR Obj.cls (KC at_);cases this
 let O:Option HO:=if K.lookup a=none then some (.EM {cls:=.type "list",data:=.seq vs.toArray} (.lst (ns.map V.int)))else none
 let H:Hp:=λb=>if b=T then some (.FK #[])else if b=a then O else none
 have hT:H T=some (.FK #[]):=KE rfl;have U:H a=O:=(JW aT).trans (KE rfl);have Y:∀b,b≠T->b≠a->H b=none:=λb n1 n2=>(JW n1).trans (JW n2);have a2:∀o,O=some o->o=.EM {cls:=.type "list",data:=.seq vs.toArray} (.lst (ns.map V.int))/\K.lookup a=none:=λo e=>by
  by_cases q:K.lookup a=none
  .have e:(if K.lookup a=none then some _ else none)=some o:=e;rw[KE q]at e;cases e;show⟨rfl,q⟩
  .have e:(if K.lookup a=none then some _ else none)=some o:=e;rw[JW q]at e;cases e
 have sq:AK K H a (ns.map V.int):=by
  cases q:K.lookup a with
  | none=>show .inl (.inr ⟨_,U.trans (KE q)⟩)
  | some o=>
   have e:=KX a o q;rw[at_]at e;cases e;show .inr (Qh _ vs.toArray _ q rfl rfl rfl (by rw[JZ,ia.length];show le) (by simpa using rv))
 have AJ:BH P w H s.heap:=λb o e=>by
  by_cases b1:b=T
  .subst b1;rw[hT]at e;cases e;show tb
  .by_cases G:b=a
   .subst G;rw[U]at e;obtain⟨rfl,_⟩:=a2 o e;show A6 at_ (by rw[JR];show le) (Ce vs _ rv at_)
   .rw [Y b b1 G]at e;cases e
 have aB:∀{b:Addr} {o:Obj},s.heap.get? b=some o->o.cls≠.none->o.cls≠.type "list"->H b=none:=fun {b o} e n1 n2=>by
  by_cases b1:b=T
  .rw [b1,tb]at e;cases e;show absurd rfl n1
  .by_cases G:b=a
   .rw [G,at_]at e;cases e;show absurd rfl n2
   .show Y b b1 G
 have aA:∀{b:Addr} {o:Obj} {es:Array DictEntry} {ep:Nat},s.heap.get? b=some o->o.data=.dict es ep->H b=none:=fun {b o es ep} e d=>by
  by_cases b1:b=T
  .rw [b1,tb]at e;cases e;cases d
  .by_cases G:b=a
   .rw [G,at_]at e;cases e;cases d
   .show Y b b1 G
 have a1:∀{b:Addr} {m:Bv},s.heap.Ns b m->(Ql s.heap H).Ns b m:=fun {b m} ⟨o,es,ep,e,d,r⟩=>(Qi o es ep (M2 e (aA e d)) d r)
 have kB:K.In (Ql s.heap H):=λb o e=>M2 (KX b o e) (by
  by_cases b1:b=T
  .rw [b1,a7]at e;cases e
  .by_cases G:b=a
   .subst G;rw[U]
    cases q:O with
    | none=>rfl
    | some o'=>rw[(a2 o' q).2]at e;cases e
   .show Y b b1 G)
 have bB:BM mg (Ql s.heap H):=by
  show Fs B λbm o b1 G b3 b4 b5 b6=>?_;show D5 bm o b1 G b3 (M2 b4 (aB b4 (λz=>by rw[b5]at z;cases z) (λz=>by rw[b5]at z;injection z with z;show absurd z (by decide)))) b5 b6
 have md:Mod K mg (Ql s.heap H):=⟨kB,a1 gl,(Aq mb (a1 bl) bb),let ⟨mc,l1,l2⟩:=a6;(Aq mc (a1 l1) l2)⟩;have en:GO P w K mg (Ql s.heap H) callerA [] s H:=⟨rfl,md,λb o e=>Ab9 e,Nat.le_of_eq (Wa _ _),trivial,λb z=>absurd (show b∈([]:List Addr)from z) (by simp),AJ,.of_eq gn⟩;have C:=PySem.W.codeHd_of_K KX hc;show MH ((F _ kB (a1 gl) bB).run callerA [] s H ⟨[.ref a],[]⟩ [.ref a] [.ref a] _ _ a9 en (bd s (.ref a)) (.cons rfl .nil) (go H sq hT)) λr t h=>?_
 cases r with
 | error e=>show False.elim h
 | ok fl=>
  cases fl with
  | next=>show False.elim h
  | brk=>show False.elim h
  | cont=>show False.elim h
  | ret u=>
   show Fs h λv H' os bare un a5 a8 q=>?_;have q':v=.bl true:=q;subst q';obtain rfl:u=Value.bool true:=a8;have a4:∀b o,b≠T->s.heap.get? b=some o->t.heap.get? b=some o:=λb o n e=>by
    by_cases G:b=a
    .subst G
     cases z:O with
     | none=>show un.keep b o e (U.trans z) (by intro z;show absurd (show b∈([]:List Addr)from z) (by simp)) (by simp)
     | some o'=>
      obtain⟨rfl,_⟩:=a2 o' z;obtain⟨e1,_⟩:=a5 b _ (un.DI b _ _ (U.trans z));rw[at_]at e;cases e;show e1
    .show un.keep b o e (Y b n G) (by intro z;show absurd (show b∈([]:List Addr)from z) (by simp)) (by simp)
   obtain⟨more,hm⟩:=un.DJ T _ hT;have tT:t.heap.get? T=some {cls:=.none,data:=.fields (#[]++more)}:=a5 T _ hm;show C9 rfl ⟨λb o e=>?_,λb o e=>?_⟩ os bare
   .by_cases b1:b=T
    .subst b1;rw[tb]at e;cases e;show .inr (.inl (A6 ((C.tab tb).isCodeTable) rfl (Ce (#[]) more rfl tT)))
    .show .inl (a4 b o b1 e)
   .by_cases b1:b=T
    .subst b1;show⟨_,tT⟩
    .show⟨o,a4 b o b1 e⟩
def walk_tab {l:PySem.W.OpenLaw}{n k:Nat}{q:Program}{aB:List Str}{XP:(Str->Option Value)->Heap->Prop}{Y:World->Heap->Prop}{d:DefRec}{K:Params->PySem.W.Frag}{sp:World->Sp}{x:Str}{c T:Addr}
   (hn:l.most=some n)(a6:n<=sizeLine)(a4:d.params.defaults=[])(a9:AV k callerA)(hY:∀(w:World) (h:Heap),Y w h->(K w.params).In h/\h.get? T=some (PySem.W.tabObj #[]))
   (hc:∀w:World,PySem.W.codeHdIn (K w.params) c T=true)(a7:∀w:World,(K w.params).lookup T=none)
   (F:∀(w:World) (mg:Bv) (O:Addr) (h:Heap),(K w.params).In h->h.Ns mainGlobals mg->mg d.name=some (.ref O) ->
     ∃fd:FuncData,(∀(s:Shared) (u:Value),BindsTo s fd ⟨[u],[]⟩ [(x,u)])/\∀base:Heap,(K w.params).In base->base.Ns mainGlobals mg->BM mg base->AD l.prog w (K w.params) mg base AU k O fd [x] (sp w))
   (go:∀(w:World) (H:Hp) (a:Addr) (ns:List Int),ns.length<=n->AK (K w.params) H a (ns.map V.int)->H T=some (.FK #[])->sp w [.ref a] H (λv _=>v=.bl true) λ_ _ _=>False) :
   PySem.W.WalkO q aB XP Y l.row.toRowW d [] (λf vs=>PySem.call f vs):=by
 show Att.HJ hn a4 λw s₀ s₁ mg mb O o pm cd doc a vs ns G a2 ho hd aC a5 a8 aA a1 hg=>?_;obtain⟨U,tb⟩:=hY w _ a2;show Am (F w mg O _ U G.T.g a5) λfd hb hF=>?_;have B:BM mg s₁.heap:=by
   show Fs G.T.bmain λbm ob b1 b2 b3 b4 b5 b6=>D5 bm ob b1 b2 (λz=>(Gp G.T.g λo2 es ep e dd _=>?_)) b3 b4 ⟨b5,b6⟩;rw[← z,b3]at e;cases e;rw[b6]at dd;cases dd
 show Ac5 U tb (hc w) (a7 w) B G.T.g G.T.b G.T.builtins G.T.nolimit hg a8 aA (JU a1 a6) a9 hF hb λH sq hT=>go w H a ns a1 sq hT
end L2
namespace P2
open PySem PySem.Spec PyProof.Rows L2
def all_mk {l:PySem.W.OpenLaw}{w:World}{K:A3}{h:Heap}{mg:Bv}{fa c tb cE aT aE aV b0 b1 b2 b3 cG cR cF cC f0 f1 f2 f3 f4 f5 f6 f7 f8 f9 aN aO aP aQ aR aS aU aW aX aY aZ aa ac ae af ag ah ai aj ak al am ao ap aq ar as au av aw ax ay az b4 b5 b6 b7 b8 U Y b9 bD bE bF bG bH bJ aG aK O aA aL aJ aD aI aM aC aH aF aB:Addr}(X:K.In h)(G:h.Ns mainGlobals mg)(ir:mg "law"=some (.ref fa))
  {kN gg kO gh kP gi kQ gj kR gk kS gl kU gm kW gn kX gp kY gq rx m9 ry mB rz mC s0 mD s3 mE s4 mF s5 mG s6 mH s7 mJ s8 mK s9 mL sA mM sB mN sC mO sD mP sE mQ sF mR sG mS sH mT sI mU sJ mV sK mW sL mX sM mY sN mZ sO ma sP mc sQ md sR me sS mf sT mh sU mi sV mj sW mk sX ml sY mm sZ mn sb mo sd mp se mq sf mr sg mu sh mv si mw sj mx sk my so dm wF vp xP ww wD vn v8 ux xQ wx xO wv vg vD wo wP xj xX vf vC wn wO wE vo ve vB ke kf kg kh:Option Addr}{lK lL lM lN lO lP lQ lR lS lU u1 u2 u3 u4 u5 u6 u7 u8 u9 uA uB uC uD uE uF uG uH uI uJ uK uL uM uN uO uP uQ uR uS uT uU uV uW uX uY uZ ua ub uc ud ue uf ug uh ui uj uk ul wL xV wJ vA xW xU vm wu xl vl wt wK vk kx ky kz lA:Array (Option Value)}{kC j4 iU ki cZ iK kD j5 iV kj ca iL kF j6 FJ kk cb iM kG j7 iW kl cc iN kH j8 iX km ce iO kI j9 iY kn cg iP kJ jA iZ ko ci iQ kK jB ib kq cj iR kL jC ic kr ck iS kM jD ie ks cm iT qz qE pI sr dn oP r3 qF pJ su dq oQ r4 qG pK sv dr oR r5 qH pL sw dt oS r6 qI pM sx du oU r7 qJ pN sy dv oW r8 qK pO t0 dw oX r9 qL pP t7 dy oY rA qM pQ t8 dz oZ rB qN pR t9 e0 oa rC qO pS tD e1 ob rD qP pT tE e2 oe rE qQ pU tF e3 og rF qR pV tG e4 oh rG qS pW tH e5 oi rH qT pX tI e6 oj rJ qU pY tJ e7 ol rK qV pZ tK e8 om rL qW pb tL e9 on rM qX pe tM eA oo rN qY pf tO eB oq rO qZ ph tP eC or rP qa pi tQ eD ot rQ qb pj tR eF ou rR qc pk tT eG ov rS qd pq tU eH ow rT qe pr tV eI ox rV qf pu tW eJ oy rW qg pw tX eK oz rX qh px tY eL p0 rY qi py tZ eM p1 rZ qj pz tc eN p3 rb qk q0 td eO p4 rd ql q1 tf eP p5 re qm q2 ti eQ p6 rf qn q3 tj eR p7 rg qo q4 tm eS p8 rh qp q5 tp eU p9 ri qq q6 tq eW pA rj qr q7 tr eX pB rl qs q8 tu eY pC rn qt q9 tv eZ pD ro qu qA tw ea pE rp qw qB tx pF rq qx qC tz eb pG rr qy qD u0 ec pH ru ef ee eg bP ed wC w3 w0 wI fD vx xM xG x7 xS fV x4 wA w1 vy wG ez vv v7 v4 v3 v9 el v2 xN xH x8 xT fW x5 xL xF x6 xR fU x3 vd vW vP vj eu vM wm wh wY ws fP wW xi xg xa xk fb xZ vc vV vO vi et vL wl wg wX wp fO wV wB w2 vz wH fB vw vb vU vN vh er vK:Value}{t1 t2 t3 t4 t5 t6 tS lW lX lY lZ:Tok}{eV eT eE:Array DictEntry}{nV nT nE kt ku kv kw:Nat}{bK bL bN bO:Array Value}{cd:ClassData}
  (a0:PySem.W.nsIn K mainGlobals "is_number"=some (some (.ref f0)))(l0:K.lookup f0=some ⟨kC,kN,.func (PySem.W.fnOf "is_number" "is_number" (Au E3) (Ar E3) (Af E3) .none j4 iU ki gg cZ iK),lK⟩)(c0:PySem.W.codeIn K cZ "is_number"=true)(k0:PySem.W.keepIn K (.ref f0)=true)
  (a1:PySem.W.nsIn K mainGlobals "is_of_language"=some (some (.ref f1)))(l1:K.lookup f1=some ⟨kD,kO,.func (PySem.W.fnOf "is_of_language" "is_of_language" (Au C2) (Ar C2) (Af C2) .none j5 iV kj gh ca iL),lL⟩)(c1:PySem.W.codeIn K ca "is_of_language"=true)(k1:PySem.W.keepIn K (.ref f1)=true)
  (a2:PySem.W.nsIn K mainGlobals "is_name"=some (some (.ref f2)))(l2:K.lookup f2=some ⟨kF,kP,.func (PySem.W.fnOf "is_name" "is_name" (Au Hl) (Ar Hl) (Af Hl) .none j6 FJ kk gi cb iM),lM⟩)(c2:PySem.W.codeIn K cb "is_name"=true)(k2:PySem.W.keepIn K (.ref f2)=true)
  (a3:PySem.W.nsIn K mainGlobals "is_kind"=some (some (.ref f3)))(l3:K.lookup f3=some ⟨kG,kQ,.func (PySem.W.fnOf "is_kind" "is_kind" (Au Hm) (Ar Hm) (Af Hm) .none j7 iW kl gj cc iN),lN⟩)(c3:PySem.W.codeIn K cc "is_kind"=true)(k3:PySem.W.keepIn K (.ref f3)=true)
  (a4:PySem.W.nsIn K mainGlobals "is_tuple_of"=some (some (.ref f4)))(l4:K.lookup f4=some ⟨kH,kR,.func (PySem.W.fnOf "is_tuple_of" "is_tuple_of" (Au Ef) (Ar Ef) (Af Ef) .none j8 iX km gk ce iO),lO⟩)(c4:PySem.W.codeIn K ce "is_tuple_of"=true)(k4:PySem.W.keepIn K (.ref f4)=true)
  (a5:PySem.W.nsIn K mainGlobals "want"=some (some (.ref f5)))(l5:K.lookup f5=some ⟨kI,kS,.func (PySem.W.fnOf "want" "want" (Au L7) (Ar L7) (Af L7) .none j9 iY kn gl cg iP),lP⟩)(c5:PySem.W.codeIn K cg "want"=true)(k5:PySem.W.keepIn K (.ref f5)=true)
  (a6:PySem.W.nsIn K mainGlobals "are_names"=some (some (.ref f6)))(l6:K.lookup f6=some ⟨kJ,kU,.func (PySem.W.fnOf "are_names" "are_names" (Au E9) (Ar E9) (Af E9) .none jA iZ ko gm ci iQ),lQ⟩)(c6:PySem.W.codeIn K ci "are_names"=true)(k6:PySem.W.keepIn K (.ref f6)=true)
  (a7:PySem.W.nsIn K mainGlobals "are_params"=some (some (.ref f7)))(l7:K.lookup f7=some ⟨kK,kW,.func (PySem.W.fnOf "are_params" "are_params" (Au El) (Ar El) (Af El) .none jB ib kq gn cj iR),lR⟩)(c7:PySem.W.codeIn K cj "are_params"=true)(k7:PySem.W.keepIn K (.ref f7)=true)
  (a8:PySem.W.nsIn K mainGlobals "param_names"=some (some (.ref f8)))(l8:K.lookup f8=some ⟨kL,kX,.func (PySem.W.fnOf "param_names" "param_names" (Au Dp) (Ar Dp) (Af Dp) .none jC ic kr gp ck iS),lS⟩)(c8:PySem.W.codeIn K ck "param_names"=true)(k8:PySem.W.keepIn K (.ref f8)=true)
  (a9:PySem.W.nsIn K mainGlobals "row_names"=some (some (.ref f9)))(l9:K.lookup f9=some ⟨kM,kY,.func (PySem.W.fnOf "row_names" "row_names" (Au Ez) (Ar Ez) (Af Ez) .none jD ie ks gq cm iT),lU⟩)(c9:PySem.W.codeIn K cm "row_names"=true)(k9:PySem.W.keepIn K (.ref f9)=true)
  (fj:PySem.W.nsIn K mainGlobals "is_word"=some (some (.ref aN)))(jE:K.lookup aN=some ⟨qz,rx,.func (PySem.W.fnOf "is_word" "is_word" (Au Hj) (Ar Hj) (Af Hj) .none qE pI sr m9 dn oP),u1⟩)(h5:PySem.W.codeIn K dn "is_word"=true)(cn:PySem.W.keepIn K (.ref aN)=true)
  (fk:PySem.W.nsIn K mainGlobals "first_again"=some (some (.ref aO)))(jF:K.lookup aO=some ⟨r3,ry,.func (PySem.W.fnOf "first_again" "first_again" (Au Dw) (Ar Dw) (Af Dw) .none qF pJ su mB dq oQ),u2⟩)(h6:PySem.W.codeIn K dq "first_again"=true)(cq:PySem.W.keepIn K (.ref aO)=true)
  (fo:PySem.W.nsIn K mainGlobals "is_told"=some (some (.ref aP)))(jG:K.lookup aP=some ⟨r4,rz,.func (PySem.W.fnOf "is_told" "is_told" (Au Hk) (Ar Hk) (Af Hk) .none qG pK sv mC dr oR),u3⟩)(h7:PySem.W.codeIn K dr "is_told"=true)(cr:PySem.W.keepIn K (.ref aP)=true)
  (fq:PySem.W.nsIn K mainGlobals "word_of"=some (some (.ref aQ)))(jH:K.lookup aQ=some ⟨r5,s0,.func (PySem.W.fnOf "word_of" "word_of" (Au Hg) (Ar Hg) (Af Hg) .none qH pL sw mD dt oS),u4⟩)(h8:PySem.W.codeIn K dt "word_of"=true)(cs:PySem.W.keepIn K (.ref aQ)=true)
  (ft:PySem.W.nsIn K mainGlobals "ways_of"=some (some (.ref aR)))(jI:K.lookup aR=some ⟨r6,s3,.func (PySem.W.fnOf "ways_of" "ways_of" (Au Hh) (Ar Hh) (Af Hh) .none qI pM sx mE du oU),u5⟩)(h9:PySem.W.codeIn K du "ways_of"=true)(cu:PySem.W.keepIn K (.ref aR)=true)
  (fu:PySem.W.nsIn K mainGlobals "used_by"=some (some (.ref aS)))(jJ:K.lookup aS=some ⟨r7,s4,.func (PySem.W.fnOf "used_by" "used_by" (Au Hi) (Ar Hi) (Af Hi) .none qJ pN sy mF dv oW),u6⟩)(hA:PySem.W.codeIn K dv "used_by"=true)(cw:PySem.W.keepIn K (.ref aS)=true)
  (fw:PySem.W.nsIn K mainGlobals "look_at_row"=some (some (.ref aU)))(jK:K.lookup aU=some ⟨r8,s5,.func (PySem.W.fnOf "look_at_row" "look_at_row" (Au Ed) (Ar Ed) (Af Ed) .none qK pO t0 mG dw oX),u7⟩)(hB:PySem.W.codeIn K dw "look_at_row"=true)(cx:PySem.W.keepIn K (.ref aU)=true)
  (fx:PySem.W.nsIn K mainGlobals "is_end"=some (some (.ref aW)))(jL:K.lookup aW=some ⟨r9,s6,.func (PySem.W.fnOf "is_end" "is_end" (Au Jg) (Ar Jg) (Af Jg) .none qL pP t7 mH dy oY),u8⟩)(hC:PySem.W.codeIn K dy "is_end"=true)(cy:PySem.W.keepIn K (.ref aW)=true)
  (fy:PySem.W.nsIn K mainGlobals "look_at_block"=some (some (.ref aX)))(jM:K.lookup aX=some ⟨rA,s7,.func (PySem.W.fnOf "look_at_block" "look_at_block" (Au De) (Ar De) (Af De) .none qM pQ t8 mJ dz oZ),u9⟩)(hD:PySem.W.codeIn K dz "look_at_block"=true)(cz:PySem.W.keepIn K (.ref aX)=true)
  (fz:PySem.W.nsIn K mainGlobals "functions_wrong"=some (some (.ref aY)))(jN:K.lookup aY=some ⟨rB,s8,.func (PySem.W.fnOf "functions_wrong" "functions_wrong" (Au Cg) (Ar Cg) (Af Cg) .none qN pR t9 mK e0 oa),uA⟩)(hE:PySem.W.codeIn K e0 "functions_wrong"=true)(d0:PySem.W.keepIn K (.ref aY)=true)
  (g0:PySem.W.nsIn K mainGlobals "give_names"=some (some (.ref aZ)))(jO:K.lookup aZ=some ⟨rC,s9,.func (PySem.W.fnOf "give_names" "give_names" (Au Ei) (Ar Ei) (Af Ei) .none qO pS tD mL e1 ob),uB⟩)(hF:PySem.W.codeIn K e1 "give_names"=true)(d1:PySem.W.keepIn K (.ref aZ)=true)
  (g1:PySem.W.nsIn K mainGlobals "look_at_names"=some (some (.ref aa)))(jP:K.lookup aa=some ⟨rD,sA,.func (PySem.W.fnOf "look_at_names" "look_at_names" (Au Dc) (Ar Dc) (Af Dc) .none qP pT tE mM e2 oe),uC⟩)(hG:PySem.W.codeIn K e2 "look_at_names"=true)(d2:PySem.W.keepIn K (.ref aa)=true)
  (g2:PySem.W.nsIn K mainGlobals "look_at_uses"=some (some (.ref ac)))(jQ:K.lookup ac=some ⟨rE,sB,.func (PySem.W.fnOf "look_at_uses" "look_at_uses" (Au Dq) (Ar Dq) (Af Dq) .none qQ pU tF mN e3 og),uD⟩)(hH:PySem.W.codeIn K e3 "look_at_uses"=true)(d3:PySem.W.keepIn K (.ref ac)=true)
  (g3:PySem.W.nsIn K mainGlobals "look_at_function"=some (some (.ref ae)))(jR:K.lookup ae=some ⟨rF,sC,.func (PySem.W.fnOf "look_at_function" "look_at_function" (Au Cf) (Ar Cf) (Af Cf) .none qR pV tG mO e4 oh),uE⟩)(hI:PySem.W.codeIn K e4 "look_at_function"=true)(d4:PySem.W.keepIn K (.ref ae)=true)
  (g4:PySem.W.nsIn K mainGlobals "look_at_form"=some (some (.ref af)))(jS:K.lookup af=some ⟨rG,sD,.func (PySem.W.fnOf "look_at_form" "look_at_form" (Au Dr) (Ar Dr) (Af Dr) .none qS pW tH mP e5 oi),uF⟩)(hJ:PySem.W.codeIn K e5 "look_at_form"=true)(d5:PySem.W.keepIn K (.ref af)=true)
  (g5:PySem.W.nsIn K mainGlobals "reached"=some (some (.ref ag)))(jT:K.lookup ag=some ⟨rH,sE,.func (PySem.W.fnOf "reached" "reached" (Au Gf) (Ar Gf) (Af Gf) .none qT pX tI mQ e6 oj),uG⟩)(hK:PySem.W.codeIn K e6 "reached"=true)(d6:PySem.W.keepIn K (.ref ag)=true)
  (g6:PySem.W.nsIn K mainGlobals "leads_of"=some (some (.ref ah)))(jU:K.lookup ah=some ⟨rJ,sF,.func (PySem.W.fnOf "leads_of" "leads_of" (Au Gg) (Ar Gg) (Af Gg) .none qU pY tJ mR e7 ol),uH⟩)(hL:PySem.W.codeIn K e7 "leads_of"=true)(d7:PySem.W.keepIn K (.ref ah)=true)
  (g7:PySem.W.nsIn K mainGlobals "first_label"=some (some (.ref ai)))(jV:K.lookup ai=some ⟨rK,sG,.func (PySem.W.fnOf "first_label" "first_label" (Au Dv) (Ar Dv) (Af Dv) .none qV pZ tK mS e8 om),uI⟩)(hM:PySem.W.codeIn K e8 "first_label"=true)(d8:PySem.W.keepIn K (.ref ai)=true)
  (g8:PySem.W.nsIn K mainGlobals "above_of"=some (some (.ref aj)))(jW:K.lookup aj=some ⟨rL,sH,.func (PySem.W.fnOf "above_of" "above_of" (Au Gj) (Ar Gj) (Af Gj) .none qW pb tL mT e9 on),uJ⟩)(hN:PySem.W.codeIn K e9 "above_of"=true)(d9:PySem.W.keepIn K (.ref aj)=true)
  (g9:PySem.W.nsIn K mainGlobals "leads_round"=some (some (.ref ak)))(jX:K.lookup ak=some ⟨rM,sI,.func (PySem.W.fnOf "leads_round" "leads_round" (Au Ds) (Ar Ds) (Af Ds) .none qX pe tM mU eA oo),uK⟩)(hO:PySem.W.codeIn K eA "leads_round"=true)(dB:PySem.W.keepIn K (.ref ak)=true)
  (gA:PySem.W.nsIn K mainGlobals "ring_end"=some (some (.ref al)))(jY:K.lookup al=some ⟨rN,sJ,.func (PySem.W.fnOf "ring_end" "ring_end" (Au Ge) (Ar Ge) (Af Ge) .none qY pf tO mV eB oq),uL⟩)(hP:PySem.W.codeIn K eB "ring_end"=true)(dD:PySem.W.keepIn K (.ref al)=true)
  (gB:PySem.W.nsIn K mainGlobals "is_counted"=some (some (.ref am)))(jZ:K.lookup am=some ⟨rO,sK,.func (PySem.W.fnOf "is_counted" "is_counted" (Au Eg) (Ar Eg) (Af Eg) .none qZ ph tP mW eC or),uM⟩)(hQ:PySem.W.codeIn K eC "is_counted"=true)(dE:PySem.W.keepIn K (.ref am)=true)
  (gC:PySem.W.nsIn K mainGlobals "look_at_rings"=some (some (.ref ao)))(jb:K.lookup ao=some ⟨rP,sL,.func (PySem.W.fnOf "look_at_rings" "look_at_rings" (Au Db) (Ar Db) (Af Db) .none qa pi tQ mX eD ot),uN⟩)(hR:PySem.W.codeIn K eD "look_at_rings"=true)(dH:PySem.W.keepIn K (.ref ao)=true)
  (gD:PySem.W.nsIn K mainGlobals "block_of"=some (some (.ref ap)))(jc:K.lookup ap=some ⟨rQ,sM,.func (PySem.W.fnOf "block_of" "block_of" (Au Gi) (Ar Gi) (Af Gi) .none qb pj tR mY eF ou),uO⟩)(hS:PySem.W.codeIn K eF "block_of"=true)(dJ:PySem.W.keepIn K (.ref ap)=true)
  (gG:PySem.W.nsIn K mainGlobals "look_at_visible"=some (some (.ref aq)))(jd:K.lookup aq=some ⟨rR,sN,.func (PySem.W.fnOf "look_at_visible" "look_at_visible" (Au Cn) (Ar Cn) (Af Cn) .none qc pk tT mZ eG ov),uP⟩)(hT:PySem.W.codeIn K eG "look_at_visible"=true)(dL:PySem.W.keepIn K (.ref aq)=true)
  (gH:PySem.W.nsIn K mainGlobals "kind_given"=some (some (.ref ar)))(je:K.lookup ar=some ⟨rS,sO,.func (PySem.W.fnOf "kind_given" "kind_given" (Au Ee) (Ar Ee) (Af Ee) .none qd pq tU ma eH ow),uQ⟩)(hU:PySem.W.codeIn K eH "kind_given"=true)(dM:PySem.W.keepIn K (.ref ar)=true)
  (gI:PySem.W.nsIn K mainGlobals "look_at_copies"=some (some (.ref as)))(jf:K.lookup as=some ⟨rT,sP,.func (PySem.W.fnOf "look_at_copies" "look_at_copies" (Au Cz) (Ar Cz) (Af Cz) .none qe pr tV mc eI ox),uR⟩)(hV:PySem.W.codeIn K eI "look_at_copies"=true)(dN:PySem.W.keepIn K (.ref as)=true)
  (gJ:PySem.W.nsIn K mainGlobals "is_of_kind"=some (some (.ref au)))(jg:K.lookup au=some ⟨rV,sQ,.func (PySem.W.fnOf "is_of_kind" "is_of_kind" (Au E2) (Ar E2) (Af E2) .none qf pu tW md eJ oy),uS⟩)(hW:PySem.W.codeIn K eJ "is_of_kind"=true)(dO:PySem.W.keepIn K (.ref au)=true)
  (gK:PySem.W.nsIn K mainGlobals "are_of_kinds"=some (some (.ref av)))(jh:K.lookup av=some ⟨rW,sR,.func (PySem.W.fnOf "are_of_kinds" "are_of_kinds" (Au Dx) (Ar Dx) (Af Dx) .none qg pw tX me eK oz),uT⟩)(hX:PySem.W.codeIn K eK "are_of_kinds"=true)(dP:PySem.W.keepIn K (.ref av)=true)
  (gL:PySem.W.nsIn K mainGlobals "kinds_given"=some (some (.ref aw)))(ji:K.lookup aw=some ⟨rX,sS,.func (PySem.W.fnOf "kinds_given" "kinds_given" (Au Du) (Ar Du) (Af Du) .none qh px tY mf eL p0),uU⟩)(hY:PySem.W.codeIn K eL "kinds_given"=true)(dQ:PySem.W.keepIn K (.ref aw)=true)
  (gM:PySem.W.nsIn K mainGlobals "is_row_of_kinds"=some (some (.ref ax)))(jj:K.lookup ax=some ⟨rY,sT,.func (PySem.W.fnOf "is_row_of_kinds" "is_row_of_kinds" (Au C0) (Ar C0) (Af C0) .none qi py tZ mh eM p1),uV⟩)(hZ:PySem.W.codeIn K eM "is_row_of_kinds"=true)(dS:PySem.W.keepIn K (.ref ax)=true)
  (gN:PySem.W.nsIn K mainGlobals "is_end_of_kinds"=some (some (.ref ay)))(jk:K.lookup ay=some ⟨rZ,sU,.func (PySem.W.fnOf "is_end_of_kinds" "is_end_of_kinds" (Au C3) (Ar C3) (Af C3) .none qj pz tc mi eN p3),uW⟩)(hb:PySem.W.codeIn K eN "is_end_of_kinds"=true)(dU:PySem.W.keepIn K (.ref ay)=true)
  (gO:PySem.W.nsIn K mainGlobals "look_at_kinds"=some (some (.ref az)))(jl:K.lookup az=some ⟨rb,sV,.func (PySem.W.fnOf "look_at_kinds" "look_at_kinds" (Au Dd) (Ar Dd) (Af Dd) .none qk q0 td mj eO p4),uX⟩)(he:PySem.W.codeIn K eO "look_at_kinds"=true)(dV:PySem.W.keepIn K (.ref az)=true)
  (gP:PySem.W.nsIn K mainGlobals "look_at_middle"=some (some (.ref b4)))(jm:K.lookup b4=some ⟨rd,sW,.func (PySem.W.fnOf "look_at_middle" "look_at_middle" (Au Cy) (Ar Cy) (Af Cy) .none ql q1 tf mk eP p5),uY⟩)(hf:PySem.W.codeIn K eP "look_at_middle"=true)(dW:PySem.W.keepIn K (.ref b4)=true)
  (gQ:PySem.W.nsIn K mainGlobals "wrapped"=some (some (.ref b5)))(jn:K.lookup b5=some ⟨re,sX,.func (PySem.W.fnOf "wrapped" "wrapped" (Au Gb) (Ar Gb) (Af Gb) .none qm q2 ti ml eQ p6),uZ⟩)(hg:PySem.W.codeIn K eQ "wrapped"=true)(dX:PySem.W.keepIn K (.ref b5)=true)
  (gR:PySem.W.nsIn K mainGlobals "as_number"=some (some (.ref b6)))(jo:K.lookup b6=some ⟨rf,sY,.func (PySem.W.fnOf "as_number" "as_number" (Au E8) (Ar E8) (Af E8) .none qn q3 tj mm eR p7),ua⟩)(hh:PySem.W.codeIn K eR "as_number"=true)(dY:PySem.W.keepIn K (.ref b6)=true)
  (gS:PySem.W.nsIn K mainGlobals "compared"=some (some (.ref b7)))(jp:K.lookup b7=some ⟨rg,sZ,.func (PySem.W.fnOf "compared" "compared" (Au E6) (Ar E6) (Af E6) .none qo q4 tm mn eS p8),ub⟩)(hj:PySem.W.codeIn K eS "compared"=true)(dZ:PySem.W.keepIn K (.ref b7)=true)
  (gU:PySem.W.nsIn K mainGlobals "reckoned"=some (some (.ref b8)))(jq:K.lookup b8=some ⟨rh,sb,.func (PySem.W.fnOf "reckoned" "reckoned" (Au E1) (Ar E1) (Af E1) .none qp q5 tp mo eU p9),uc⟩)(hk:PySem.W.codeIn K eU "reckoned"=true)(db:PySem.W.keepIn K (.ref b8)=true)
  (gW:PySem.W.nsIn K mainGlobals "value_kept"=some (some (.ref U)))(jt:K.lookup U=some ⟨ri,sd,.func (PySem.W.fnOf "value_kept" "value_kept" (Au Eb) (Ar Eb) (Af Eb) .none qq q6 tq mp eW pA),ud⟩)(hp:PySem.W.codeIn K eW "value_kept"=true)(dc:PySem.W.keepIn K (.ref U)=true)
  (gX:PySem.W.nsIn K mainGlobals "value_out"=some (some (.ref Y)))(ju:K.lookup Y=some ⟨rj,se,.func (PySem.W.fnOf "value_out" "value_out" (Au Ey) (Ar Ey) (Af Ey) .none qr q7 tr mq eX pB),ue⟩)(hq:PySem.W.codeIn K eX "value_out"=true)(de:PySem.W.keepIn K (.ref Y)=true)
  (gY:PySem.W.nsIn K mainGlobals "value_of"=some (some (.ref b9)))(jv:K.lookup b9=some ⟨rl,sf,.func (PySem.W.fnOf "value_of" "value_of" (Au Gc) (Ar Gc) (Af Gc) .none qs q8 tu mr eY pC),uf⟩)(hr:PySem.W.codeIn K eY "value_of"=true)(df:PySem.W.keepIn K (.ref b9)=true)
  (gZ:PySem.W.nsIn K mainGlobals "answer_of"=some (some (.ref bD)))(jw:K.lookup bD=some ⟨rn,sg,.func (PySem.W.fnOf "answer_of" "answer_of" (Au Fa) (Ar Fa) (Af Fa) .none qt q9 tv mu eZ pD),ug⟩)(hu:PySem.W.codeIn K eZ "answer_of"=true)(dg:PySem.W.keepIn K (.ref bD)=true)
  (gb:PySem.W.nsIn K mainGlobals "run_within"=some (some (.ref bE)))(jx:K.lookup bE=some ⟨ro,sh,.func (PySem.W.fnOf "run_within" "run_within" (Au Ec) (Ar Ec) (Af Ec) .none qu qA tw mv ea pE),uh⟩)(hv:PySem.W.codeIn K ea "run_within"=true)(dh:PySem.W.keepIn K (.ref bE)=true)
  (gc:PySem.W.nsIn K mainGlobals "middle_run"=some (some (.ref bF)))(jy:K.lookup bF=some ⟨rp,si,.func (PySem.W.fnOf "middle_run" "middle_run" (Au Cw) (Ar Cw) (Af Cw) .none qw qB tx mw (.ref c) pF),ui⟩)(hw:PySem.W.codeIn K (.ref c) "middle_run"=true)(di:PySem.W.keepIn K (.ref bF)=true)
  (gd:PySem.W.nsIn K mainGlobals "_law_program"=some (some (.ref bG)))(jz:K.lookup bG=some ⟨rq,sj,.func (PySem.W.fnOf "_law_program" "_law_program" (Au Dt) (Ar Dt) (Af Dt) .none qx qC tz mx eb pG),uj⟩)(hx:PySem.W.codeIn K eb "_law_program"=true)(dj:PySem.W.keepIn K (.ref bG)=true)
  (ge:PySem.W.nsIn K mainGlobals "_law_cell"=some (some (.ref bH)))(kA:K.lookup bH=some ⟨rr,sk,.func (PySem.W.fnOf "_law_cell" "_law_cell" (Au Gh) (Ar Gh) (Af Gh) .none qy qD u0 my ec pH),uk⟩)(hy:PySem.W.codeIn K ec "_law_cell"=true)(dk:PySem.W.keepIn K (.ref bH)=true)
  (gf:PySem.W.nsIn K mainGlobals "law"=some (some (.ref bJ)))(kB:K.lookup bJ=some ⟨ru,so,.func (PySem.W.fnOf "law" "law" (Au Nj) (Ar Nj) (Af Nj) .none ef ee eg dm bP ed),ul⟩)(i3:PySem.W.codeIn K bP "law"=true)(j3:PySem.W.keepIn K (.ref bJ)=true)
  (iu:PySem.W.nsIn K mainGlobals "LEAST"=some (some (.int (-32768) t1)))
  (iv:PySem.W.nsIn K mainGlobals "MOST"=some (some (.int (32767) t2)))
  (iw:PySem.W.nsIn K mainGlobals "NUMBER"=some (some (.int (0) t3)))
  (ix:PySem.W.nsIn K mainGlobals "LIST"=some (some (.int (-1) t4)))
  (j0:PySem.W.nsIn K mainGlobals "SPAN"=some (some (.int (65536) tS)))
  (iy:PySem.W.nsIn K mainGlobals "ANY"=some (some (.str "any" t5)))
  (iz:PySem.W.nsIn K mainGlobals "RECORD"=some (some (.str "record" t6)))
  (z0:PySem.W.nsIn K mainGlobals "len"=some none)
  (z1:PySem.W.nsIn K mainGlobals "isinstance"=some none)
  (z2:PySem.W.nsIn K mainGlobals "int"=some none)
  (z3:PySem.W.nsIn K mainGlobals "bool"=some none)
  (z4:PySem.W.nsIn K mainGlobals "str"=some none)
  (z5:PySem.W.nsIn K mainGlobals "tuple"=some none)
  (z6:PySem.W.nsIn K mainGlobals "list"=some none)
  (z7:PySem.W.nsIn K mainGlobals "dict"=some none)
  (z8:PySem.W.nsIn K mainGlobals "all"=some none)
  (z9:PySem.W.nsIn K mainGlobals "any"=some none)
  (m6:PySem.W.nsIn K mainGlobals "range"=some none)
  (m7:PySem.W.nsIn K mainGlobals "zip"=some none)
  (m8:PySem.W.nsIn K mainGlobals "enumerate"=some none)
  (io:PySem.W.nsIn K mainGlobals "Given"=some (some (.ref cG)))
  (iC:PySem.W.plainGet K cG Str.empty=true)
  (iD:PySem.W.hasDictIn K cG=true)
  (iE:PySem.W.plainOver K cG=true)
  (iF:PySem.W.findIn K (.ref cG) "__setattr__"=some (some (.builtin "object.__setattr__")))
  (oF:PySem.W.findIn K (.ref cG) "above"=some none)
  (oG:PySem.W.findIn K (.ref cG) "places"=some none)
  (oA:PySem.W.makesIn K cG=true)
  (oB:PySem.W.findIn K (.ref cG) "__init__"=some (some (.ref aG)))
  (oC:PySem.W.isFn K (.ref aG)=true)
  (oD:PySem.W.keepIn K (.ref cG)=true)
  (ip:PySem.W.nsIn K mainGlobals "Run"=some (some (.ref cR)))
  (iG:PySem.W.plainGet K cR Str.empty=true)
  (iH:PySem.W.hasDictIn K cR=true)
  (iI:PySem.W.plainOver K cR=true)
  (iJ:PySem.W.findIn K (.ref cR) "__setattr__"=some (some (.builtin "object.__setattr__")))
  (oL:PySem.W.findIn K (.ref cR) "bound"=some none)
  (oM:PySem.W.findIn K (.ref cR) "ticks"=some none)
  (oN:PySem.W.findIn K (.ref cR) "work"=some none)
  (oO:PySem.W.findIn K (.ref cR) "letters"=some none)
  (oH:PySem.W.makesIn K cR=true)
  (oI:PySem.W.findIn K (.ref cR) "__init__"=some (some (.ref aA)))
  (oJ:PySem.W.isFn K (.ref aA)=true)
  (oK:PySem.W.keepIn K (.ref cR)=true)
  (im:PySem.W.nsIn K mainGlobals "Frame"=some (some (.ref cF)))
  (i8:PySem.W.plainGet K cF Str.empty=true)
  (i9:PySem.W.hasDictIn K cF=true)
  (iA:PySem.W.plainOver K cF=true)
  (iB:PySem.W.findIn K (.ref cF) "__setattr__"=some (some (.builtin "object.__setattr__")))
  (o6:PySem.W.findIn K (.ref cF) "blocks"=some none)
  (o7:PySem.W.findIn K (.ref cF) "block"=some none)
  (o8:PySem.W.findIn K (.ref cF) "next_row"=some none)
  (o9:PySem.W.findIn K (.ref cF) "held"=some none)
  (o2:PySem.W.makesIn K cF=true)
  (o3:PySem.W.findIn K (.ref cF) "__init__"=some (some (.ref aF)))
  (o4:PySem.W.isFn K (.ref aF)=true)
  (o5:PySem.W.keepIn K (.ref cF)=true)
  (ik:PySem.W.nsIn K mainGlobals "Code"=some (some (.ref cC)))
  (i4:PySem.W.plainGet K cC Str.empty=true)
  (i5:PySem.W.hasDictIn K cC=true)
  (i6:PySem.W.plainOver K cC=true)
  (i7:PySem.W.findIn K (.ref cC) "__setattr__"=some (some (.builtin "object.__setattr__")))
  (nz:PySem.W.findIn K (.ref cC) "params"=some none)
  (o0:PySem.W.findIn K (.ref cC) "first"=some none)
  (o1:PySem.W.findIn K (.ref cC) "blocks"=some none)
  (nu:PySem.W.makesIn K cC=true)
  (nv:PySem.W.findIn K (.ref cC) "__init__"=some (some (.ref aB)))
  (nw:PySem.W.isFn K (.ref aB)=true)
  (ny:PySem.W.keepIn K (.ref cC)=true)
  (xB:PySem.W.findIn K (.ref cG) "is_ahead"=some (some (.ref aK)))
  (xC:PySem.W.isFn K (.ref aK)=true)
  (xD:PySem.W.findIn K (.ref cR) "count_tick"=some (some (.ref aL)))
  (xE:PySem.W.isFn K (.ref aL)=true)
  (x9:PySem.W.findIn K (.ref cF) "has_rows"=some (some (.ref aJ)))
  (xA:PySem.W.isFn K (.ref aJ)=true)
  (vS:PySem.W.findIn K (.ref cF) "row"=some (some (.ref aD)))
  (vT:PySem.W.isFn K (.ref aD)=true)
  (wc:PySem.W.findIn K (.ref cF) "held_by"=some (some (.ref aI)))
  (we:PySem.W.isFn K (.ref aI)=true)
  (xb:PySem.W.findIn K (.ref cF) "row_ended"=some (some (.ref aM)))
  (xf:PySem.W.isFn K (.ref aM)=true)
  (vQ:PySem.W.findIn K (.ref cF) "led"=some (some (.ref aC)))
  (vR:PySem.W.isFn K (.ref aC)=true)
  (wZ:PySem.W.findIn K (.ref cF) "end_run"=some (some (.ref aH)))
  (wa:PySem.W.isFn K (.ref aH)=true)
  (il:PySem.W.nsIn K mainGlobals "Ended"=some (some (.ref cE)))
  (xn:PySem.W.findIn K (.ref cE) "__init__"=some (some (.ref O)))
  (lp:K2 K cE [.type "Exception",.type "BaseException",.type "object"] "Exception.__new__" O=true)
  (lq:PySem.W.isFn K (.ref O)=true)
  (lm:PySem.W.clsIn K cE=some cd)
  (lz:BF cd.mro)
  (lw:cd.hasDict=true)
  (m4:PySem.W.findIn K (.ref cE) "__setattr__"=some (some (.builtin "object.__setattr__")))
  (m1:PySem.W.findIn K (.ref cE) "end"=some none)
  (m2:PySem.W.findIn K (.ref cE) "value"=some none)
  (lu:PySem.W.findIn K (.ref cE) "__getattribute__"=some (some (.builtin "BaseException.__getattribute__")))
  (lv:PySem.W.findIn K (.ref cE) "__getattr__"=some none)
  (ln:PySem.W.findIn K (.ref cE) "__class__"=some (some (.builtin "object.__class__")))
  (m5:PySem.W.subIn K (.ref cE) (.type "BaseException")=some true)
  (m3:PySem.W.subIn K (.ref cE) (.type "object")=some true)
  (ly:PySem.W.isClsIn K cE=true)
  (lx:PySem.W.hasDictIn K cE=true)
  (m0:PySem.W.exmOne K (.ref cE) (.ref cE)=some true)
  (w9:K.lookup aG=some ⟨wC,wF,.func (PySem.W.fnOf "__init__" "Given.__init__" (Au Eh) (Ar Eh) (Af Eh) .none w3 w0 wI vp fD vx),wL⟩)
  (vu:PySem.W.codeIn K fD "Given.__init__"=true)
  (w6:PySem.W.keepIn K (.ref aG)=true)
  (xJ:K.lookup aK=some ⟨xM,xP,.func (PySem.W.fnOf "is_ahead" "Given.is_ahead" (Au C4) (Ar C4) (Af C4) .none xG x7 xS ww fV x4),xV⟩)
  (x1:PySem.W.codeIn K fV "Given.is_ahead"=true)
  (fY:PySem.W.keepIn K (.ref aK)=true)
  (w7:K.lookup O=some ⟨wA,wD,.func (PySem.W.fnOf "__init__" "Ended.__init__" (Au Ek) (Ar Ek) (Af Ek) .none w1 vy wG vn ez vv),wJ⟩)
  (vq:PySem.W.codeIn K ez "Ended.__init__"=true)
  (w4:PySem.W.keepIn K (.ref O)=true)
  (v6:K.lookup aA=some ⟨v7,v8,.func (PySem.W.fnOf "__init__" "Run.__init__" (Au Gd) (Ar Gd) (Af Gd) .none v4 v3 v9 ux el v2),vA⟩)
  (v1:PySem.W.codeIn K el "Run.__init__"=true)
  (v5:PySem.W.keepIn K (.ref aA)=true)
  (xK:K.lookup aL=some ⟨xN,xQ,.func (PySem.W.fnOf "count_tick" "Run.count_tick" (Au Cv) (Ar Cv) (Af Cv) .none xH x8 xT wx fW x5),xW⟩)
  (x2:PySem.W.codeIn K fW "Run.count_tick"=true)
  (fZ:PySem.W.keepIn K (.ref aL)=true)
  (xI:K.lookup aJ=some ⟨xL,xO,.func (PySem.W.fnOf "has_rows" "Frame.has_rows" (Au C5) (Ar C5) (Af C5) .none xF x6 xR wv fU x3),xU⟩)
  (wz:PySem.W.codeIn K fU "Frame.has_rows"=true)
  (fX:PySem.W.keepIn K (.ref aJ)=true)
  (va:K.lookup aD=some ⟨vd,vg,.func (PySem.W.fnOf "row" "Frame.row" (Au E4) (Ar E4) (Af E4) .none vW vP vj vD eu vM),vm⟩)
  (vJ:PySem.W.codeIn K eu "Frame.row"=true)
  (ey:PySem.W.keepIn K (.ref aD)=true)
  (wj:K.lookup aI=some ⟨wm,wo,.func (PySem.W.fnOf "held_by" "Frame.held_by" (Au Df) (Ar Df) (Af Df) .none wh wY ws wP fP wW),wu⟩)
  (wU:PySem.W.codeIn K fP "Frame.held_by"=true)
  (fR:PySem.W.keepIn K (.ref aI)=true)
  (xh:K.lookup aM=some ⟨xi,xj,.func (PySem.W.fnOf "row_ended" "Frame.row_ended" (Au Co) (Ar Co) (Af Co) .none xg xa xk xX fb xZ),xl⟩)
  (xY:PySem.W.codeIn K fb "Frame.row_ended"=true)
  (fc:PySem.W.keepIn K (.ref aM)=true)
  (vZ:K.lookup aC=some ⟨vc,vf,.func (PySem.W.fnOf "led" "Frame.led" (Au E5) (Ar E5) (Af E5) .none vV vO vi vC et vL),vl⟩)
  (vI:PySem.W.codeIn K et "Frame.led"=true)
  (ew:PySem.W.keepIn K (.ref aC)=true)
  (wi:K.lookup aH=some ⟨wl,wn,.func (PySem.W.fnOf "end_run" "Frame.end_run" (Au Dg) (Ar Dg) (Af Dg) .none wg wX wp wO fO wV),wt⟩)
  (wT:PySem.W.codeIn K fO "Frame.end_run"=true)
  (fQ:PySem.W.keepIn K (.ref aH)=true)
  (w8:K.lookup aF=some ⟨wB,wE,.func (PySem.W.fnOf "__init__" "Frame.__init__" (Au Ej) (Ar Ej) (Af Ej) .none w2 vz wH vo fB vw),wK⟩)
  (vt:PySem.W.codeIn K fB "Frame.__init__"=true)
  (w5:PySem.W.keepIn K (.ref aF)=true)
  (vY:K.lookup aB=some ⟨vb,ve,.func (PySem.W.fnOf "__init__" "Code.__init__" (Au E7) (Ar E7) (Af E7) .none vU vN vh vB er vK),vk⟩)
  (vH:PySem.W.codeIn K er "Code.__init__"=true)
  (vX:PySem.W.keepIn K (.ref aB)=true)
  (gV:PySem.W.nsIn K mainGlobals "VALUES"=some (some (.ref aV)))
  (lV:K.lookup aV=some ⟨.type "dict",none,.dict eV nV,#[]⟩)
  (kV:PySem.W.KeysLit w.params eV.toList)
  (oV:(aV==sysModules)=false)
  (gT:PySem.W.nsIn K mainGlobals "TAKES"=some (some (.ref aT)))
  (lT:K.lookup aT=some ⟨.type "dict",none,.dict eT nT,#[]⟩)
  (kT:PySem.W.KeysLit w.params eT.toList)
  (oT:(aT==sysModules)=false)
  (gE:PySem.W.nsIn K mainGlobals "END_LENGTHS"=some (some (.ref aE)))
  (lE:K.lookup aE=some ⟨.type "dict",none,.dict eE nE,#[]⟩)
  (kE:PySem.W.KeysLit w.params eE.toList)
  (oE:(aE==sysModules)=false)
  (lh:PySem.W.nsIn K aV "num"=some (some (.ref U)))
  (li:PySem.W.nsIn K aV "out"=some (some (.ref Y)))
  (lj:PySem.W.nsIn K aV "="=some none)
  (ll:PySem.W.nsIn K aV "-"=some none)
  (la:PySem.W.nsIn K aT "num"=some (some (.ref b0)))
  (kZ:K.lookup b0=some ⟨.type "tuple",ke,.seq bK kt,kx⟩)
  (lB:AF (List.replicate 0 (V.int 0)) bK.toList)
  (lG:bK.size<=1000)
  (lc:PySem.W.nsIn K aT "="=some (some (.ref b1)))
  (ka:K.lookup b1=some ⟨.type "tuple",kf,.seq bL ku,ky⟩)
  (lC:AF (List.replicate 2 (V.int 0)) bL.toList)
  (lH:bL.size<=1000)
  (lf:PySem.W.nsIn K aT "-"=some (some (.ref b2)))
  (kc:K.lookup b2=some ⟨.type "tuple",kg,.seq bN kv,kz⟩)
  (lD:AF (List.replicate 2 (V.int 0)) bN.toList)
  (lI:bN.size<=1000)
  (lg:PySem.W.nsIn K aT "out"=some (some (.ref b3)))
  (kd:K.lookup b3=some ⟨.type "tuple",kh,.seq bO kw,lA⟩)
  (lF:AF (List.replicate 1 (V.int 0)) bO.toList)
  (lJ:bO.size<=1000)
  (ig:PySem.W.nsIn K aE "jump"=some (some (.int 3 lW)))
  (ih:PySem.W.nsIn K aE "branch"=some (some (.int 6 lX)))
  (ii:PySem.W.nsIn K aE "give"=some (some (.int 2 lY)))
  (ij:PySem.W.nsIn K aE "fail"=some (some (.int 2 lZ)))
  (iq:PySem.W.codeHdIn K c tb=true)
  : ∃fd:FuncData,(∀(s:Shared) (v:Value),BindsTo s fd ⟨[v],[]⟩ [("_law_script",v)])/\∀base:Heap,K.In base->base.Ns mainGlobals mg->BM mg base->AD l.prog w K mg base AU 10 fa fd ["_law_script"] (Q3 K tb):=by
 have e:=ir.symm.trans (JM X G gf);cases e;have T:BK K mg t1 t2 t3 t4:=⟨JM X G iu,JM X G iv,JM X G iw,JM X G ix,KY X G z0,KY X G z1,KY X G z2,KY X G z3,KY X G z4,KY X G z5,KY X G z6,KY X G z7,KY X G z8,KY X G z9,KY X G m6,KY X G m7,KY X G m8⟩;have TK:TxK mg t5 t6:=⟨JM X G iy,JM X G iz⟩;have TS:TxS mg tS:=⟨JM X G j0⟩;have F0:=A5 (st:=E3) l0 c0 k0;have gr:=F0.binds (ps:=B2) λ_ _ _ _ _ _ us hl=>match us,hl with|[_],_=>rfl
 have F1:=A5 (st:=C2) l1 c1 k1;have gs:=F1.binds (ps:=B2) λ_ _ _ _ _ _ us hl=>match us,hl with|[_],_=>rfl
 have F2:=A5 (st:=Hl) l2 c2 k2;have gu:=F2.binds (ps:=B2) λ_ _ _ _ _ _ us hl=>match us,hl with|[_],_=>rfl
 have F3:=A5 (st:=Hm) l3 c3 k3;have gw:=F3.binds (ps:=B2) λ_ _ _ _ _ _ us hl=>match us,hl with|[_],_=>rfl
 have F4:=A5 (st:=Ef) l4 c4 k4;have gx:=F4.binds (ps:=Jc) λ_ _ _ _ _ _ us hl=>match us,hl with|[_,_],_=>rfl
 have F5:=A5 (st:=L7) l5 c5 k5;have gy:=F5.binds (ps:=J7) λ_ _ _ _ _ _ us hl=>match us,hl with|[_,_,_],_=>rfl
 have F6:=A5 (st:=E9) l6 c6 k6;have gz:=F6.binds (ps:=B2) λ_ _ _ _ _ _ us hl=>match us,hl with|[_],_=>rfl
 have F7:=A5 (st:=El) l7 c7 k7;have h0:=F7.binds (ps:=B2) λ_ _ _ _ _ _ us hl=>match us,hl with|[_],_=>rfl
 have F8:=A5 (st:=Dp) l8 c8 k8;have h3:=F8.binds (ps:=["params"]) λ_ _ _ _ _ _ us hl=>match us,hl with|[_],_=>rfl
 have F9:=A5 (st:=Ez) l9 c9 k9;have h4:=F9.binds (ps:=["rows"]) λ_ _ _ _ _ _ us hl=>match us,hl with|[_],_=>rfl
 have bQ:=A5 (st:=Hj) jE h5 cn;have mz:=bQ.binds (ps:=B2) λ_ _ _ _ _ _ us hl=>match us,hl with|[_],_=>rfl
 have bR:=A5 (st:=Dw) jF h6 cq;have n0:=bR.binds (ps:=["things"]) λ_ _ _ _ _ _ us hl=>match us,hl with|[_],_=>rfl
 have bS:=A5 (st:=Hk) jG h7 cr;have n5:=bS.binds (ps:=["op","told"]) λ_ _ _ _ _ _ us hl=>match us,hl with|[_,_],_=>rfl
 have bT:=A5 (st:=Hg) jH h8 cs;have n6:=bT.binds (ps:=D9) λ_ _ _ _ _ _ us hl=>match us,hl with|[_],_=>rfl
 have bU:=A5 (st:=Hh) jI h9 cu;have n7:=bU.binds (ps:=D9) λ_ _ _ _ _ _ us hl=>match us,hl with|[_],_=>rfl
 have bV:=A5 (st:=Hi) jJ hA cw;have n8:=bV.binds (ps:=D9) λ_ _ _ _ _ _ us hl=>match us,hl with|[_],_=>rfl
 have bW:=A5 (st:=Ed) jK hB cx;have n9:=bW.binds (ps:=["row","place"]) λ_ _ _ _ _ _ us hl=>match us,hl with|[_,_],_=>rfl
 have bX:=A5 (st:=Jg) jL hC cy;have nA:=bX.binds (ps:=D9) λ_ _ _ _ _ _ us hl=>match us,hl with|[_],_=>rfl
 have bY:=A5 (st:=De) jM hD cz;have nB:=bY.binds (ps:=["name","block"]) λ_ _ _ _ _ _ us hl=>match us,hl with|[_,_],_=>rfl
 have bZ:=A5 (st:=Cg) jN hE d0;have nC:=bZ.binds (ps:=["functions"]) λ_ _ _ _ _ _ us hl=>match us,hl with|[_],_=>rfl
 have bb:=A5 (st:=Ei) jO hF d1;have nD:=bb.binds (ps:=Ol) λ_ _ _ _ _ _ us hl=>match us,hl with|[_,_,_],_=>rfl
 have bc:=A5 (st:=Dc) jP hG d2;have nF:=bc.binds (ps:=AO) λ_ _ _ _ _ _ us hl=>match us,hl with|[_],_=>rfl
 have be:=A5 (st:=Dq) jQ hH d3;have nG:=be.binds (ps:=Og) λ_ _ _ _ _ _ us hl=>match us,hl with|[_,_],_=>rfl
 have bf:=A5 (st:=Cf) jR hI d4;have nH:=bf.binds (ps:=AO) λ_ _ _ _ _ _ us hl=>match us,hl with|[_],_=>rfl
 have bg:=A5 (st:=Dr) jS hJ d5;have nI:=bg.binds (ps:=Hy) λ_ _ _ _ _ _ us hl=>match us,hl with|[_],_=>rfl
 have bh:=A5 (st:=Gf) jT hK d6;have nJ:=bh.binds (ps:=Mh) λ_ _ _ _ _ _ us hl=>match us,hl with|[_,_,_],_=>rfl
 have bi:=A5 (st:=Gg) jU hL d7;have nK:=bi.binds (ps:=AO) λ_ _ _ _ _ _ us hl=>match us,hl with|[_],_=>rfl
 have bj:=A5 (st:=Dv) jV hM d8;have nL:=bj.binds (ps:=AO) λ_ _ _ _ _ _ us hl=>match us,hl with|[_],_=>rfl
 have bn:=A5 (st:=Gj) jW hN d9;have nM:=bn.binds (ps:=AO) λ_ _ _ _ _ _ us hl=>match us,hl with|[_],_=>rfl
 have bo:=A5 (st:=Ds) jX hO dB;have nN:=bo.binds (ps:=Ks) λ_ _ _ _ _ _ us hl=>match us,hl with|[_,_],_=>rfl
 have bp:=A5 (st:=Ge) jY hP dD;have nO:=bp.binds (ps:=Ks) λ_ _ _ _ _ _ us hl=>match us,hl with|[_,_],_=>rfl
 have bq:=A5 (st:=Eg) jZ hQ dE;have nP:=bq.binds (ps:=BE) λ_ _ _ _ _ _ us hl=>match us,hl with|[_],_=>rfl
 have bu:=A5 (st:=Db) jb hR dH;have nQ:=bu.binds (ps:=AO) λ_ _ _ _ _ _ us hl=>match us,hl with|[_],_=>rfl
 have bw:=A5 (st:=Gi) jc hS dJ;have nR:=bw.binds (ps:=Oe) λ_ _ _ _ _ _ us hl=>match us,hl with|[_,_],_=>rfl
 have bx:=A5 (st:=Cn) jd hT dL;have nS:=bx.binds (ps:=AO) λ_ _ _ _ _ _ us hl=>match us,hl with|[_],_=>rfl
 have bz:=A5 (st:=Ee) je hU dM;have nU:=bz.binds (ps:=Mc) λ_ _ _ _ _ _ us hl=>match us,hl with|[_,_],_=>rfl
 have cA:=A5 (st:=Cz) jf hV dN;have nW:=cA.binds (ps:=AO) λ_ _ _ _ _ _ us hl=>match us,hl with|[_],_=>rfl
 have cB:=A5 (st:=E2) jg hW dO;have nX:=cB.binds (ps:=Me) λ_ _ _ _ _ _ us hl=>match us,hl with|[_,_],_=>rfl
 have cD:=A5 (st:=Dx) jh hX dP;have nY:=cD.binds (ps:=Q8) λ_ _ _ _ _ _ us hl=>match us,hl with|[_,_,_],_=>rfl
 have cH:=A5 (st:=Du) ji hY dQ;have nZ:=cH.binds (ps:=Lb) λ_ _ _ _ _ _ us hl=>match us,hl with|[_,_],_=>rfl
 have cI:=A5 (st:=C0) jj hZ dS;have na:=cI.binds (ps:=Oj) λ_ _ _ _ _ _ us hl=>match us,hl with|[_,_,_],_=>rfl
 have cJ:=A5 (st:=C3) jk hb dU;have nb:=cJ.binds (ps:=Oo) λ_ _ _ _ _ _ us hl=>match us,hl with|[_,_,_],_=>rfl
 have cK:=A5 (st:=Dd) jl he dV;have nc:=cK.binds (ps:=Lb) λ_ _ _ _ _ _ us hl=>match us,hl with|[_,_],_=>rfl
 have cL:=A5 (st:=Cy) jm hf dW;have nf:=cL.binds (ps:=Hy) λ_ _ _ _ _ _ us hl=>match us,hl with|[_],_=>rfl
 have cM:=A5 (st:=Gb) jn hg dX;have ng:=cM.binds (ps:=["number"]) λ_ _ _ _ _ _ us hl=>match us,hl with|[_],_=>rfl
 have cN:=A5 (st:=E8) jo hh dY;have nh:=cN.binds (ps:=["truth"]) λ_ _ _ _ _ _ us hl=>match us,hl with|[_],_=>rfl
 have cO:=A5 (st:=E6) jp hj dZ;have ni:=cO.binds (ps:=Mg) λ_ _ _ _ _ _ us hl=>match us,hl with|[_,_,_],_=>rfl
 have cP:=A5 (st:=E1) jq hk db;have nj:=cP.binds (ps:=["op","args"]) λ_ _ _ _ _ _ us hl=>match us,hl with|[_,_],_=>rfl
 have cQ:=A5 (st:=Eb) jt hp dc;have nk:=cQ.binds (ps:=J8) λ_ _ _ _ _ _ us hl=>match us,hl with|[_,_,_],_=>rfl
 have cS:=A5 (st:=Ey) ju hq de;have nl:=cS.binds (ps:=J8) λ_ _ _ _ _ _ us hl=>match us,hl with|[_,_,_],_=>rfl
 have cT:=A5 (st:=Gc) jv hr df;have nn:=cT.binds (ps:=Op) λ_ _ _ _ _ _ us hl=>match us,hl with|[_,_,_,_],_=>rfl
 have cU:=A5 (st:=Fa) jw hu dg;have no:=cU.binds (ps:=Om) λ_ _ _ _ _ _ us hl=>match us,hl with|[_,_,_],_=>rfl
 have cV:=A5 (st:=Ec) jx hv dh;have np:=cV.binds (ps:=Od) λ_ _ _ _ _ _ us hl=>match us,hl with|[_,_],_=>rfl
 have cW:=A5 (st:=Cw) jy hw di;have nq:=cW.binds (ps:=Oq) λ_ _ _ _ _ _ us hl=>match us,hl with|[_,_,_],_=>rfl
 have cX:=A5 (st:=Dt) jz hx dj;have nr:=cX.binds (ps:=Vv) λ_ _ _ _ _ _ us hl=>match us,hl with|[_,_,_],_=>rfl
 have cY:=A5 (st:=Gh) kA hy dk;have nt:=cY.binds (ps:=Oi) λ_ _ _ _ _ _ us hl=>match us,hl with|[_,_],_=>rfl
 have fe:=A5 (st:=Nj) kB i3 j3;have eo:=A5 (st:=Eh) w9 vu w6;have vG:=eo.binds (ps:=Mb) λ_ _ _ _ _ _ us hl=>match us,hl with|[_,_],_=>rfl
 have fL:=A5 (st:=C4) xJ x1 fY;have wR:=fL.binds (ps:=Ra) λ_ _ _ _ _ _ us hl=>match us,hl with|[_,_,_,_],_=>rfl
 have em:=A5 (st:=Ek) w7 vq w4;have vE:=em.binds (ps:=Mf) λ_ _ _ _ _ _ us hl=>match us,hl with|[_,_,_],_=>rfl
 have eh:=A5 (st:=Gd) v6 v1 v5;have uw:=eh.binds (ps:=["self","bound"]) λ_ _ _ _ _ _ us hl=>match us,hl with|[_,_],_=>rfl
 have fN:=A5 (st:=Cv) xK x2 fZ;have wS:=fN.binds (ps:=Eo) λ_ _ _ _ _ _ us hl=>match us,hl with|[_],_=>rfl
 have fJ:=A5 (st:=C5) xI wz fX;have wQ:=fJ.binds (ps:=Eo) λ_ _ _ _ _ _ us hl=>match us,hl with|[_],_=>rfl
 have ek:=A5 (st:=E4) va vJ ey;have v0:=ek.binds (ps:=Eo) λ_ _ _ _ _ _ us hl=>match us,hl with|[_],_=>rfl
 have fH:=A5 (st:=Df) wj wU fR;have wN:=fH.binds (ps:=Md) λ_ _ _ _ _ _ us hl=>match us,hl with|[_,_],_=>rfl
 have fS:=A5 (st:=Co) xh xY fc;have wy:=fS.binds (ps:=["self","value"]) λ_ _ _ _ _ _ us hl=>match us,hl with|[_,_],_=>rfl
 have ej:=A5 (st:=E5) vZ vI ew;have uz:=ej.binds (ps:=Q9) λ_ _ _ _ _ _ us hl=>match us,hl with|[_,_,_],_=>rfl
 have fE:=A5 (st:=Dg) wi wT fQ;have wM:=fE.binds (ps:=["self","end"]) λ_ _ _ _ _ _ us hl=>match us,hl with|[_,_],_=>rfl
 have en:=A5 (st:=Ej) w8 vt w5;have vF:=en.binds (ps:=Oh) λ_ _ _ _ _ _ us hl=>match us,hl with|[_,_,_],_=>rfl
 have ei:=A5 (st:=E7) vY vH vX;have uy:=ei.binds (ps:=Mb) λ_ _ _ _ _ _ us hl=>match us,hl with|[_,_],_=>rfl
 have uv:Mk K cG aG:=⟨oA,oB,oC,oD⟩;have ur:Mk K cR aA:=⟨oH,oI,oJ,oK⟩;have uu:Mk K cF aF:=⟨o2,o3,o4,o5⟩;have ut:Mk K cC aB:=⟨nu,nv,nw,ny⟩;have TG:TxG K cG aK _:=⟨⟨iC,iD,iE,iF⟩,oF,oG,⟨xB,xC,fY⟩,wR⟩;have fh:TxGm K mg cG _:=⟨JM X G io,vG⟩;have TR:TxR K cR aL _:=⟨⟨iG,iH,iI,iJ⟩,oL,oM,oN,oO,⟨xD,xE,fZ⟩,wS⟩;have fi:TxW K mg cR _:=⟨JM X G ip,uw⟩;have TF:TxF K cF aJ aD aI aM aC aH _ _ _ _ _ _:=⟨⟨i8,i9,iA,iB⟩,o6,o7,o8,o9,⟨x9,xA,fX⟩,wQ,⟨vS,vT,ey⟩,v0,⟨wc,we,fR⟩,wN,⟨xb,xf,fc⟩,wy,⟨vQ,vR,ew⟩,uz,⟨wZ,wa,fQ⟩,wM⟩;have ff:TxA K mg cF _:=⟨JM X G im,vF⟩;have TC:TxC K cC:=⟨⟨i4,i5,i6,i7⟩,nz,o0,o1⟩;have fg:TxCm K mg cC _:=⟨JM X G ik,uy⟩;have TE:TxE K mg cE O _:=⟨JM X G il,lp,lq,vE,⟨(Bc cd lm lz lw),m4⟩,m1,m2,⟨lu,lv,ln,m5,m3,ly⟩,lx,m0⟩;have uq:EO K w aV ([("num",.ref U),("out",.ref Y)]:List (Str×V)):=by
  show⟨(Ce eV nV lV kV),oV,λx v m=>?_⟩;simp only[JS,Prod.mk.injEq,KI,MC]at m;rcases m with⟨rfl,rfl⟩|⟨rfl,rfl⟩
  .show Ac rfl lh
  .show Ac rfl li
 have uo:EO K w aT ([("num",.ref b0),("=",.ref b1),("-",.ref b2),("out",.ref b3)]:List (Str×V)):=by
  show⟨(Ce eT nT lT kT),oT,λx v m=>?_⟩;simp only[JS,Prod.mk.injEq,KI,MC]at m;rcases m with⟨rfl,rfl⟩|⟨rfl,rfl⟩|⟨rfl,rfl⟩|⟨rfl,rfl⟩
  .show Ac rfl la
  .show Ac rfl lc
  .show Ac rfl lf
  .show Ac rfl lg
 have um:EO K w aE ([("jump",.int 3),("branch",.int 6),("give",.int 2),("fail",.int 2)]:List (Str×V)):=by
  show⟨(Ce eE nE lE kE),oE,λx v m=>?_⟩;simp only[JS,Prod.mk.injEq,KI,MC]at m;rcases m with⟨rfl,rfl⟩|⟨rfl,rfl⟩|⟨rfl,rfl⟩|⟨rfl,rfl⟩
  .show Ac ⟨_,rfl⟩ ig
  .show Ac ⟨_,rfl⟩ ih
  .show Ac ⟨_,rfl⟩ ii
  .show Ac ⟨_,rfl⟩ ij
 have TV:TxV K w mg aV _ _:=⟨JM X G gV,uq,λop m=>by
  simp only[JS,KI,MC]at m
  rcases m with rfl|rfl
  .show lj
  .show ll⟩
 have TT:TxT K w mg aT aE _:=⟨JM X G gT,JM X G gE,uo,um,λop m hm=>by
  simp only[JF,JS,Prod.mk.injEq,KI,MC]at hm;rcases hm with⟨rfl,rfl⟩|⟨rfl,rfl⟩|⟨rfl,rfl⟩|⟨rfl,rfl⟩
  .show Aq b0 (by simp) λH=>.inr (Ac9 kZ rfl rfl (JU lG (by decide)) lB)
  .show Aq b1 (by simp) λH=>.inr (Ac9 ka rfl rfl (JU lH (by decide)) lC)
  .show Aq b2 (by simp) λH=>.inr (Ac9 kc rfl rfl (JU lI (by decide)) lD)
  .show (Aq b3 (by simp) λH=>.inr (Ac9 kd rfl rfl (JU lJ (by decide)) lF))⟩
 show Aq (PySem.W.fnOf "law" "law" (Au Nj) (Ar Nj) (Af Nj) .none ef ee eg dm bP ed) (λs v=>.of_eq rfl) λbase KB _ B=>Ae2 F0 (JM X G a0) k0 gr F1 (JM X G a1) k1 gs F2 (JM X G a2) k2 gu F3 (JM X G a3) k3 gw F4 (JM X G a4) k4 gx F5 (JM X G a5) k5 gy F6 (JM X G a6) k6 gz F7 (JM X G a7) k7 h0 F8 (JM X G a8) k8 h3 F9 (JM X G a9) k9 h4 bQ (JM X G fj) cn mz bR (JM X G fk) cq n0 bS (JM X G fo) cr n5 bT (JM X G fq) cs n6 bU (JM X G ft) cu n7 bV (JM X G fu) cw n8 bW (JM X G fw) cx n9 bX (JM X G fx) cy nA bY (JM X G fy) cz nB bZ (JM X G fz) d0 nC bb (JM X G g0) d1 nD bc (JM X G g1) d2 nF be (JM X G g2) d3 nG bf (JM X G g3) d4 nH bg (JM X G g4) d5 nI bh (JM X G g5) d6 nJ bi (JM X G g6) d7 nK bj (JM X G g7) d8 nL bn (JM X G g8) d9 nM bo (JM X G g9) dB nN bp (JM X G gA) dD nO bq (JM X G gB) dE nP bu (JM X G gC) dH nQ bw (JM X G gD) dJ nR bx (JM X G gG) dL nS bz (JM X G gH) dM nU cA (JM X G gI) dN nW cB (JM X G gJ) dO nX cD (JM X G gK) dP nY cH (JM X G gL) dQ nZ cI (JM X G gM) dS na cJ (JM X G gN) dU nb cK (JM X G gO) dV nc cL (JM X G gP) dW nf cM (JM X G gQ) dX ng cN (JM X G gR) dY nh cO (JM X G gS) dZ ni cP (JM X G gU) db nj cQ (JM X G gW) dc nk cS (JM X G gX) de nl cT (JM X G gY) df nn cU (JM X G gZ) dg no cV (JM X G gb) dh np cW (JM X G gc) di nq cX (JM X G gd) dj nr cY (JM X G ge) dk nt eo fL em eh fN fJ ek fH fS ej fE en ei fe T TT TK TS TG fh uv TE TR fi ur TV TF ff uu TC fg ut rfl (PySem.W.codeHd_of_K KB iq) B
def walk {l:PySem.W.OpenLaw}{q:Program}{a4:List Str}{U:(Str->Option Value)->Heap->Prop}{G:World->Heap->Prop}{d:DefRec}{K:Params->PySem.W.Frag}{c T:Addr}(hn:l.most=some 63)(a1:d.params.defaults=[])
   (hY:∀(w:World) (h:Heap),G w h->(K w.params).In h/\h.get? T=some (PySem.W.tabObj #[]))
   (hc:∀w:World,PySem.W.codeHdIn (K w.params) c T=true)(a2:∀w:World,(K w.params).lookup T=none)
   (F:∀(w:World) (mg:Bv) (O:Addr) (h:Heap),(K w.params).In h->h.Ns mainGlobals mg->mg d.name=some (.ref O) ->
     ∃fd:FuncData,(∀(s:Shared) (u:Value),BindsTo s fd ⟨[u],[]⟩ [("_law_script",u)])/\∀base:Heap,(K w.params).In base->base.Ns mainGlobals mg->BM mg base->AD l.prog w (K w.params) mg base AU 10 O fd ["_law_script"] (Q3 (K w.params) T)) :
   PySem.W.WalkO q a4 U G l.row.toRowW d [] (λf vs=>PySem.call f vs):=
 L2.walk_tab (n:=63) (k:=10) (x:="_law_script") (sp:=λw=>Q3 (K w.params) T) hn (by decide) a1 ⟨rfl,by decide,by decide⟩ hY hc a2 F (λ_ _ a ns hl Y hT=>(Ct a ns rfl Y hl hT λ_=>rfl))
end P2
end
def PySem.W.Fast.tw18161169643087976204:Unit:=()
set_option genSizeOf false
set_option genInjectivity false
structure PySem.W.Fast where(tw15326854836519762336 tw7829911678194654008 tw16095220972797186840 tw9241459084351577191 tw9967587068713818258 tw12828306259678613789 tw8062158764834309723 tw5706456469105007284 tw5762066067239670694 tw17898496864322116925 tw14232856073500686893 tw17674894534807858083 tw5780714247634157466 tw13095589267317355226 tw14320242904281748491 tw7123751019497241047 tw9825167981277837809 tw12462466245255039002 tw6868069854600390554 tw5191636933705753699 tw6311616519454382386 tw11196094209891978114 tw15265936049989034886 tw13217994555609921906 tw14971817540371844579 tw4823346650412977597 tw8729105960887701717 tw17034238696448763926 tw8201465262674738209 tw11546154935670538283 tw17426776742139849332 tw668313796315987455 tw2282582442828946751 tw16032449743812074587 tw10800026646251948517 tw12519123509011659818 tw5243538140944528417 tw2612941600614324802 tw14772984838745672082 tw3953318279231860176 tw11358328220557277010 tw11069037471903338420 tw1194747511800125755 tw11628350336721806356 tw2561230754826127536 tw9772533898509738373 tw17249822427424323295 tw10827166886852809732 tw6143683962233979582 tw2171130565501032807 tw16730325741234161672 tw12119780096652147372 tw10724363364116136692 tw14589907112044018698 tw4158184831712755044 tw9092187064192743940 tw12414898010192600954 tw2149584908538774153 tw5199182639112519199 tw11053493346723999586 tw11039627474110857339 tw5277091971425604222 tw2031218737881554962 tw255036739105692145 tw15163955798613866853 tw734075247729558761 tw2954557907664265602 tw12104218266723018950 tw7484236853533132640 tw14620414417285278792 tw14547641872250655230 tw8013518421476510797 tw9871031666271967003 tw5944882380032123918 tw2129774904234851849 tw17288260865642969978 tw2748105752460884385 tw7481307469857889173 tw1496718715638674190 tw4152179990915492882 tw6108697930447330433 tw17675999374487571388 tw17848678322891498588 tw5492051059863490479 tw9279825290457705348 tw9181424067568705254 tw8495011267139890796 tw7626819707020141113 tw11765513674643709725 tw698499978723509244 tw8246438213167892877 tw14609810865481877728 tw14742201027368511569 tw11873055365779232742 tw9495596803631938639 tw2775765817450703458 tw16663197522336746337 tw1023132275456122477 tw1730442811740284635 tw17549884767829708448 tw5843137954813788804 tw17736052715130632671 tw15185770040099290563 tw2287396957171504691 tw12886270840658803460 tw3983874208576917524 tw12904338769003906375 tw2373422098970969875 tw13276066388799703400 tw9526712807089124700 tw10098866573257601178 tw6845488805173671595 tw3211629364313281922 tw12050782830266423660 tw8677703324901501433 tw4715317579149169607 tw9915337561516758514 tw11795112621165454348 tw7719662660370559221 tw2533259091123948257 tw7354533319734305133 tw7336929475314171454 tw7620560347319516962 tw8127465065215643702 tw267349538593444259 tw1949758444031585193 tw5328403810600865802 tw15029841507354010847 tw6951112037065382302 tw10300856589453387650 tw17956928055666812848 tw15134964169281098057 tw4284054010664006569 tw17750359062944619134 tw7115729376912774104 tw18007825507478376705 tw10123900561372880048 tw2213276832091671827 tw16771501546023374406 tw6379130721583664791 tw1757733653795287775 tw5040064413410429485 tw17500027624102912786 tw7465676513099837660 tw16464034019864728745 tw5541810858177700351 tw9485592563054475067 tw14552770936632505233 tw16436496163456962561 tw325801502500619269 tw949734453253315199 tw4945878102311961980 tw1597246427115294425 tw8879360317195068890 tw14344610366711551465 tw15178206837586767805 tw2283075133450841725 tw18071683466397255670 tw12013426041653026769 tw8943883832090719441 tw12679933445907369412 tw14495211465641011574 tw17925204817363127949 tw9929201573391347884 tw7252961888107860392 tw2748986995612364570 tw15299406318923933336 tw12947721727337714939 tw17335246241078392039 tw1374139306494184291 tw10194532006955507553 tw4229452651742744842 tw4130000290471589945 tw4211648392124636181 tw4899355938395061798 tw9549190199700134771 tw14532787412258155616 tw9035316531376669580 tw7717747136814548148 tw7382129995030460860 tw8405460344481944370 tw10960223948220489449 tw15769201220036446517 tw5740184832073510349 tw16994225740906110815 tw14096331850703700242 tw12951798764662167245 tw13355491256664220765 tw1673906573258950316 tw5804655882931354825 tw57204027255734133 tw10306767338826527432 tw4823218813601942732 tw9138351326388430999 tw4211307871597577446 tw18261403803082980376 tw4825229868842103300 tw6056321538804064492 tw9213724560850570428 tw1254164628593796288 tw3041724140210996528 tw5845244557795008384 tw1735964962435672725 tw5836744157390082491 tw13367126415452721143 tw7675169079915433741 tw6166429748598737043 tw8659476018153834064 tw17976489020349872469 tw2861458492394155625 tw14758875008018691848 tw4427031461149968205 tw16904834350717625096 tw12877872638215678253 tw11487928542455136894 tw2556596501467982561 tw17324253212424372309 tw17762083623453407650 tw16931754827463749215 tw2549357094808189750 tw16222851067253171736 tw16908607461398204183 tw5171874720341542401 tw13221906815036122838 tw17677335317587783839 tw8115086769899892935 tw13789370881791563393 tw132760615691070852 tw14608098389867291903 tw1378491492109135133 tw3019513710754146142 tw10865685967683384509 tw4959767475678122136 tw126904881360740761 tw14466663679311506628 tw10362168532021507374 tw10028619343957988933 tw901522978306652035 tw13187453632073154239 tw14794251247707562029 tw3677274651787646526 tw9486509300869506208 tw11021383222471821133 tw7289965172508322579 tw12592582274243084376 tw6863395210148398043 tw10207670318556029371 tw18287596770863604020 tw5935760012660776240 tw11586957593943682908 tw12162952109012895023 tw2449711412840452708 tw8743831303206097193 tw10129666859650370821 tw9685286840813281962 tw675076951499560229 tw1427600799707977293 tw17447404844870112165 tw15544032254330124302 tw17207690629158693962 tw3170435024649923619 tw9710664673875408714 tw8873166346761657607 tw8353090970849181610 tw16523103681565616651 tw12998904576259463962 tw12506348130401774810 tw6577847944922432255 tw3780139232130354 tw6536476843919394888 tw1896464984827223720 tw17019686872479052168 tw7669882490017425106 tw3838484815591326960 tw10960000411888716781 tw11060878517410874121 tw16207524491186037493 tw12480818251729499404 tw674805291642431166 tw1166171788704422120 tw18311301132489733115 tw10560085154685866419 tw6830505230918228346 tw8761583525959046934 tw15864914129545586411 tw13621130505235771974 tw15471394224172040623 tw2462632673495522125 tw7815098686343381967 tw805343530629150509 tw3689672016992134000 tw13608057844885084452 tw15802173007557733013 tw1734112134873884754 tw14444857515609385605 tw10316365556693113620 tw18029615960511295930 tw8658375771287727454 tw2165199289412176003 tw7124745682700062008 tw1431232629925412046 tw11072913207065620608 tw16939206528586650019 tw2098981820491143355 tw8344791963815839595 tw15507539306633206636 tw17484203079462924063 tw7395741346828853198 tw16076087929970238149 tw11424711697179765579 tw9673328341878680728 tw6439166326360437402 tw6825734033091089315 tw17978330303693541640 tw17182017234647138264 tw665451781893411622 tw1344290000145848245 tw16955014675810294654 tw11852070090222325066 tw1007567817921655476 tw5469039026706681697 tw12111625652834770403 tw1772354973588130261 tw18103910536985214160 tw7114526655526568323 tw7596121188503604564 tw12433397627965321992 tw188700146023254741 tw8387085336596189686 tw15384554675789822795 tw9836928158421071900 tw7917253651033527322 tw1281063585252475349 tw13940617916540857119 tw8509601144912671928 tw3750408268072876158 tw2531864308455744559 tw17710972370458384026 tw6838857333340303130 tw12029488260794726445 tw2445737226861584681 tw10763244528530508580 tw10881157674506855325 tw7683985365754380875 tw16720510571252025498 tw16305134183171974625 tw5780467437120552641 tw5537306149097007111:Unit)
open PySem PySem.W PyProof.Rows
set_option maxRecDepth 100000 in
set_option maxHeartbeats 0 in
theorem PySem.Challenge.cw_passpapers_k20_calls_deep_holds : PySem.Challenge.rw_passpapers_k20_calls_deep.Holds := by
 w_on;o_law;k_head;(case hw=>w_witness2)
 k_fill
 refine P2.walk (l:=PySem.Challenge.rw_passpapers_k20_calls_deep) (c:=330) (T:=328) rfl rfl (fun w h Y=>⟨PySem.W.km_in_of Y,PySem.W.km_tabs_of Y 328 (by decide)⟩) ?yhc ?ynoT ?yF
 case yF =>
  intro w mg fa h KX G hmg
  refine' P2.all_mk (c:=330) KX G hmg ?a0 ?l0 ?c0 ?k0 ?a1 ?l1 ?c1 ?k1 ?a2 ?l2 ?c2 ?k2 ?a3 ?l3 ?c3 ?k3 ?a4 ?l4 ?c4 ?k4 ?a5 ?l5 ?c5 ?k5 ?a6 ?l6 ?c6 ?k6 ?a7 ?l7 ?c7 ?k7 ?a8 ?l8 ?c8 ?k8 ?a9 ?l9 ?c9 ?k9 ?a10 ?l10 ?c10 ?k10 ?a11 ?l11 ?c11 ?k11 ?a12 ?l12 ?c12 ?k12 ?a13 ?l13 ?c13 ?k13 ?a14 ?l14 ?c14 ?k14 ?a15 ?l15 ?c15 ?k15 ?a16 ?l16 ?c16 ?k16 ?a17 ?l17 ?c17 ?k17 ?a18 ?l18 ?c18 ?k18 ?a19 ?l19 ?c19 ?k19 ?a20 ?l20 ?c20 ?k20 ?a21 ?l21 ?c21 ?k21 ?a22 ?l22 ?c22 ?k22 ?a23 ?l23 ?c23 ?k23 ?a24 ?l24 ?c24 ?k24 ?a25 ?l25 ?c25 ?k25 ?a26 ?l26 ?c26 ?k26 ?a27 ?l27 ?c27 ?k27 ?a28 ?l28 ?c28 ?k28 ?a29 ?l29 ?c29 ?k29 ?a30 ?l30 ?c30 ?k30 ?a31 ?l31 ?c31 ?k31 ?a32 ?l32 ?c32 ?k32 ?a33 ?l33 ?c33 ?k33 ?a34 ?l34 ?c34 ?k34 ?a35 ?l35 ?c35 ?k35 ?a36 ?l36 ?c36 ?k36 ?a37 ?l37 ?c37 ?k37 ?a38 ?l38 ?c38 ?k38 ?a39 ?l39 ?c39 ?k39 ?a40 ?l40 ?c40 ?k40 ?a41 ?l41 ?c41 ?k41 ?a42 ?l42 ?c42 ?k42 ?a43 ?l43 ?c43 ?k43 ?a44 ?l44 ?c44 ?k44 ?a45 ?l45 ?c45 ?k45 ?a46 ?l46 ?c46 ?k46 ?a47 ?l47 ?c47 ?k47 ?a48 ?l48 ?c48 ?k48 ?a49 ?l49 ?c49 ?k49 ?a50 ?l50 ?c50 ?k50 ?a51 ?l51 ?c51 ?k51 ?a52 ?l52 ?c52 ?k52 ?a53 ?l53 ?c53 ?k53 ?a54 ?l54 ?c54 ?k54 ?a55 ?l55 ?c55 ?k55 ?a56 ?l56 ?c56 ?k56 ?it1 ?it2 ?it3 ?it4 ?itS ?it5 ?it6 ?z0 ?z1 ?z2 ?z3 ?z4 ?z5 ?z6 ?z7 ?z8 ?z9 ?z10 ?z11 ?z12 ?gcG ?cG1 ?cG2 ?cG3 ?cG4 ?cGn0 ?cGn1 ?cGm1 ?cGm2 ?cGm3 ?cGm4 ?gcR ?cR1 ?cR2 ?cR3 ?cR4 ?cRn0 ?cRn1 ?cRn2 ?cRn3 ?cRm1 ?cRm2 ?cRm3 ?cRm4 ?gcF ?cF1 ?cF2 ?cF3 ?cF4 ?cFn0 ?cFn1 ?cFn2 ?cFn3 ?cFm1 ?cFm2 ?cFm3 ?cFm4 ?gcC ?cC1 ?cC2 ?cC3 ?cC4 ?cCn0 ?cCn1 ?cCn2 ?cCm1 ?cCm2 ?cCm3 ?cCm4 ?hGiven_is_ahead1 ?hGiven_is_ahead2 ?hRun_count_tick1 ?hRun_count_tick2 ?hFrame_has_rows1 ?hFrame_has_rows2 ?hFrame_row1 ?hFrame_row2 ?hFrame_held_by1 ?hFrame_held_by2 ?hFrame_row_ended1 ?hFrame_row_ended2 ?hFrame_led1 ?hFrame_led2 ?hFrame_end_run1 ?hFrame_end_run2 ?gcE ?xin ?xex ?xfn ?xcd ?xmr ?xhc ?xsa ?xn1 ?xn2 ?xga ?xgt ?xcl ?xsb ?xob ?xis ?xhd ?xmt ?lkGiven_init ?coGiven_init ?kiGiven_init ?lkGiven_is_ahead ?coGiven_is_ahead ?kiGiven_is_ahead ?lkEnded_init ?coEnded_init ?kiEnded_init ?lkRun_init ?coRun_init ?kiRun_init ?lkRun_count_tick ?coRun_count_tick ?kiRun_count_tick ?lkFrame_has_rows ?coFrame_has_rows ?kiFrame_has_rows ?lkFrame_row ?coFrame_row ?kiFrame_row ?lkFrame_held_by ?coFrame_held_by ?kiFrame_held_by ?lkFrame_row_ended ?coFrame_row_ended ?kiFrame_row_ended ?lkFrame_led ?coFrame_led ?kiFrame_led ?lkFrame_end_run ?coFrame_end_run ?kiFrame_end_run ?lkFrame_init ?coFrame_init ?kiFrame_init ?lkCode_init ?coCode_init ?kiCode_init ?gV ?lV ?kV ?oV ?gT ?lT ?kT ?oT ?gE ?lE ?kE ?oE ?v_0 ?v_1 ?w_0 ?w_1 ?u_0 ?p_0 ?q_0 ?r_0 ?u_1 ?p_1 ?q_1 ?r_1 ?u_2 ?p_2 ?q_2 ?r_2 ?u_3 ?p_3 ?q_3 ?r_3 ?e_0 ?e_1 ?e_2 ?e_3 ?hcT
  (case a0|l0|c0|k0|a1|l1|c1|k1|a2|l2|c2|k2|a3|l3|c3|k3|a4|l4|c4|k4|a5|l5|c5|k5|a6|l6|c6|k6|a7|l7|c7|k7|a8|l8|c8|k8|a9|l9|c9|k9|a10|l10|c10|k10|a11|l11|c11|k11|a12|l12|c12|k12|a13|l13|c13|k13|a14|l14|c14|k14|a15|l15|c15|k15|a16|l16|c16|k16|a17|l17|c17|k17|a18|l18|c18|k18|a19|l19|c19|k19|a20|l20|c20|k20|a21|l21|c21|k21|a22|l22|c22|k22|a23|l23|c23|k23|a24|l24|c24|k24|a25|l25|c25|k25|a26|l26|c26|k26|a27|l27|c27|k27|a28|l28|c28|k28|a29|l29|c29|k29|a30|l30|c30|k30|a31|l31|c31|k31|a32|l32|c32|k32|a33|l33|c33|k33|a34|l34|c34|k34|a35|l35|c35|k35|a36|l36|c36|k36|a37|l37|c37|k37|a38|l38|c38|k38|a39|l39|c39|k39|a40|l40|c40|k40|a41|l41|c41|k41|a42|l42|c42|k42|a43|l43|c43|k43|a44|l44|c44|k44|a45|l45|c45|k45|a46|l46|c46|k46|a47|l47|c47|k47|a48|l48|c48|k48|a49|l49|c49|k49|a50|l50|c50|k50|a51|l51|c51|k51|a52|l52|c52|k52|a53|l53|c53|k53|a54|l54|c54|k54|a55|l55|c55|k55|a56|l56|c56|k56|it1|it2|it3|it4|itS|it5|it6|z0|z1|z2|z3|z4|z5|z6|z7|z8|z9|z10|z11|z12|gcG|cG1|cG2|cG3|cG4|cGn0|cGn1|cGm1|cGm2|cGm3|cGm4|gcR|cR1|cR2|cR3|cR4|cRn0|cRn1|cRn2|cRn3|cRm1|cRm2|cRm3|cRm4|gcF|cF1|cF2|cF3|cF4|cFn0|cFn1|cFn2|cFn3|cFm1|cFm2|cFm3|cFm4|gcC|cC1|cC2|cC3|cC4|cCn0|cCn1|cCn2|cCm1|cCm2|cCm3|cCm4|hGiven_is_ahead1|hGiven_is_ahead2|hRun_count_tick1|hRun_count_tick2|hFrame_has_rows1|hFrame_has_rows2|hFrame_row1|hFrame_row2|hFrame_held_by1|hFrame_held_by2|hFrame_row_ended1|hFrame_row_ended2|hFrame_led1|hFrame_led2|hFrame_end_run1|hFrame_end_run2|gcE|xin=>k_is)
  (case xex=>kernel_rfl)
  (case xfn|xcd=>k_is)
  (case xmr=>exact .own .e)
  (case xhc=>rfl)
  (case xsa|xn1|xn2|xga|xgt|xcl|xsb|xob|xis|xhd=>k_is)
  (case xmt=>kernel_rfl)
  (case lkGiven_init|coGiven_init|kiGiven_init|lkGiven_is_ahead|coGiven_is_ahead|kiGiven_is_ahead|lkEnded_init|coEnded_init|kiEnded_init|lkRun_init|coRun_init|kiRun_init|lkRun_count_tick|coRun_count_tick|kiRun_count_tick|lkFrame_has_rows|coFrame_has_rows|kiFrame_has_rows|lkFrame_row|coFrame_row|kiFrame_row|lkFrame_held_by|coFrame_held_by|kiFrame_held_by|lkFrame_row_ended|coFrame_row_ended|kiFrame_row_ended|lkFrame_led|coFrame_led|kiFrame_led|lkFrame_end_run|coFrame_end_run|kiFrame_end_run|lkFrame_init|coFrame_init|kiFrame_init|lkCode_init|coCode_init|kiCode_init|gV|lV=>k_is)
  (case kV=>k_keys)
  (case oV=>decide)
  (case gT|lT=>k_is)
  (case kT=>k_keys)
  (case oT=>decide)
  (case gE|lE=>k_is)
  (case kE=>k_keys)
  (case oE=>decide)
  (case v_0|v_1|w_0|w_1|u_0|p_0=>k_is)
  (case q_0=>exact .nil)
  (case r_0=>decide)
  (case u_1|p_1=>k_is)
  (case q_1=>exact (.cons ⟨_,rfl⟩ (.cons ⟨_,rfl⟩ .nil)))
  (case r_1=>decide)
  (case u_2|p_2=>k_is)
  (case q_2=>exact (.cons ⟨_,rfl⟩ (.cons ⟨_,rfl⟩ .nil)))
  (case r_2=>decide)
  (case u_3|p_3=>k_is)
  (case q_3=>exact (.cons ⟨_,rfl⟩ .nil))
  (case r_3=>decide)
  (case e_0|e_1|e_2|e_3=>k_is)
  (case hcT=>kernel_rfl)
 case yhc=>intro w;kernel_rfl
 case ynoT=>intro w;kernel_rfl
