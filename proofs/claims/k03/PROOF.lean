import PyProof.Rows.All
import Wide.All
import OpenK.AllK
import Wide.FinOn
import KE.KStateDown
import HandS.ForMost
import HandS.ForExc
import HandS.Defaults
import HandS.Wide
import HandS.IsInst
import HandS.Property
import HandS.ClsMeth
import HandS.TupAny
import HandS.TupSets
import HandS.SetKeys
import HandS.OwnEq
import HandS.Strs
import HandS.Conv
import HandS.Flow
import HandS.DictComp
import HandS.HeadHook1
import HandS.HeadHook2
import HandS.HeadNt
import HandS.Set
import HandS.SetFor
import HandS.Walk
import HandS.List
import PyProof.ListOps
import HandS.GenBody
import HandS.GenYield
import HandS.GenCall
import HandS.GenList
import PyProof.ForAny
import KE.KEqDict
import HandS.Style
import HandS.Deep
import KE.GoesEnum
import KE.KDictWalk
import HandS.Codes
import HandS.ExcOwn
import KE.KAsSuite
import HandS.Call
import KE.KDictKeyed
import KE.KDictList
import KE.KDictItemsList
import KE.KDictPairs
import HandS.ListItems
import HandS.Lambda
import KE.SortKeyHeap
import KE.KSortKey
import HandS.SortKw
import HandS.Head0
import HandS.Head1
import HandS.Head2
import HandS.HeadEnd
import HandS.HeadHook3
import HandS.HeadHook4
import HandS.HeadWalk
import HandS.EndTab
import HandS.NestedK
import PySem.Challenge.RW_orderpairs_k03_whole_tables
set_option Elab.async false
set_option linter.all false
set_option maxRecDepth 100000
set_option maxHeartbeats 0
namespace OP
open PySem PySem.Spec PyProof.Rows L2
def top (i : Nat) : Stmt := PySem.Challenge.pw_orderpairs_k03_whole_tables.main.body.getD i (.Pass ⟨0, 0, 0, 0⟩)
abbrev s_Put_init : Stmt := inClass (top 13) 0
abbrev a_Put_init (K : PySem.W.Frag) : Addr := He.ma K (He.ga K "Put") "__init__"
abbrev s_Put_eq : Stmt := inClass (top 13) 1
abbrev a_Put_eq (K : PySem.W.Frag) : Addr := He.ma K (He.ga K "Put") "__eq__"
abbrev s_Put_slots : Stmt := inClass (top 13) 2
abbrev a_Put_slots (K : PySem.W.Frag) : Addr := He5.wf K (He.ga K "Put") "property" "slots"
abbrev s_Put_apply : Stmt := inClass (top 13) 3
abbrev a_Put_apply (K : PySem.W.Frag) : Addr := He.ma K (He.ga K "Put") "apply"
abbrev s_Move_init : Stmt := inClass (top 14) 0
abbrev a_Move_init (K : PySem.W.Frag) : Addr := He.ma K (He.ga K "Move") "__init__"
abbrev s_Move_eq : Stmt := inClass (top 14) 1
abbrev a_Move_eq (K : PySem.W.Frag) : Addr := He.ma K (He.ga K "Move") "__eq__"
abbrev s_Move_slots : Stmt := inClass (top 14) 2
abbrev a_Move_slots (K : PySem.W.Frag) : Addr := He5.wf K (He.ga K "Move") "property" "slots"
abbrev s_Move_apply : Stmt := inClass (top 14) 3
abbrev a_Move_apply (K : PySem.W.Frag) : Addr := He.ma K (He.ga K "Move") "apply"
abbrev s_Add_init : Stmt := inClass (top 15) 0
abbrev a_Add_init (K : PySem.W.Frag) : Addr := He.ma K (He.ga K "Add") "__init__"
abbrev s_Add_eq : Stmt := inClass (top 15) 2
abbrev a_Add_eq (K : PySem.W.Frag) : Addr := He.ma K (He.ga K "Add") "__eq__"
abbrev s_Add_slots : Stmt := inClass (top 15) 3
abbrev a_Add_slots (K : PySem.W.Frag) : Addr := He5.wf K (He.ga K "Add") "property" "slots"
abbrev s_Add_apply : Stmt := inClass (top 15) 4
abbrev a_Add_apply (K : PySem.W.Frag) : Addr := He.ma K (He.ga K "Add") "apply"
abbrev s_AddSlot_init : Stmt := inClass (top 16) 0
abbrev a_AddSlot_init (K : PySem.W.Frag) : Addr := He.ma K (He.ga K "AddSlot") "__init__"
abbrev s_AddSlot_eq : Stmt := inClass (top 16) 1
abbrev a_AddSlot_eq (K : PySem.W.Frag) : Addr := He.ma K (He.ga K "AddSlot") "__eq__"
abbrev s_AddSlot_slots : Stmt := inClass (top 16) 2
abbrev a_AddSlot_slots (K : PySem.W.Frag) : Addr := He5.wf K (He.ga K "AddSlot") "property" "slots"
abbrev s_AddSlot_apply : Stmt := inClass (top 16) 3
abbrev a_AddSlot_apply (K : PySem.W.Frag) : Addr := He.ma K (He.ga K "AddSlot") "apply"
abbrev s_Raise_init : Stmt := inClass (top 17) 0
abbrev a_Raise_init (K : PySem.W.Frag) : Addr := He.ma K (He.ga K "Raise") "__init__"
abbrev s_Raise_eq : Stmt := inClass (top 17) 1
abbrev a_Raise_eq (K : PySem.W.Frag) : Addr := He.ma K (He.ga K "Raise") "__eq__"
abbrev s_Raise_slots : Stmt := inClass (top 17) 2
abbrev a_Raise_slots (K : PySem.W.Frag) : Addr := He5.wf K (He.ga K "Raise") "property" "slots"
abbrev s_Raise_apply : Stmt := inClass (top 17) 3
abbrev a_Raise_apply (K : PySem.W.Frag) : Addr := He.ma K (He.ga K "Raise") "apply"
abbrev s_Lower_init : Stmt := inClass (top 18) 0
abbrev a_Lower_init (K : PySem.W.Frag) : Addr := He.ma K (He.ga K "Lower") "__init__"
abbrev s_Lower_eq : Stmt := inClass (top 18) 1
abbrev a_Lower_eq (K : PySem.W.Frag) : Addr := He.ma K (He.ga K "Lower") "__eq__"
abbrev s_Lower_slots : Stmt := inClass (top 18) 2
abbrev a_Lower_slots (K : PySem.W.Frag) : Addr := He5.wf K (He.ga K "Lower") "property" "slots"
abbrev s_Lower_apply : Stmt := inClass (top 18) 3
abbrev a_Lower_apply (K : PySem.W.Frag) : Addr := He.ma K (He.ga K "Lower") "apply"
abbrev s_If_init : Stmt := inClass (top 19) 0
abbrev a_If_init (K : PySem.W.Frag) : Addr := He.ma K (He.ga K "If") "__init__"
abbrev s_If_eq : Stmt := inClass (top 19) 1
abbrev a_If_eq (K : PySem.W.Frag) : Addr := He.ma K (He.ga K "If") "__eq__"
abbrev s_If_slots : Stmt := inClass (top 19) 2
abbrev a_If_slots (K : PySem.W.Frag) : Addr := He5.wf K (He.ga K "If") "property" "slots"
abbrev s_If_apply : Stmt := inClass (top 19) 3
abbrev a_If_apply (K : PySem.W.Frag) : Addr := He.ma K (He.ga K "If") "apply"
abbrev s_is_number : Stmt := top 20
abbrev a_is_number (K : PySem.W.Frag) : Addr := He.ga K "is_number"
abbrev s_is_store : Stmt := top 21
abbrev a_is_store (K : PySem.W.Frag) : Addr := He.ga K "is_store"
abbrev s_check_slot : Stmt := top 22
abbrev a_check_slot (K : PySem.W.Frag) : Addr := He.ga K "check_slot"
abbrev s_check_value : Stmt := top 23
abbrev a_check_value (K : PySem.W.Frag) : Addr := He.ga K "check_value"
abbrev s_check_store : Stmt := top 24
abbrev a_check_store (K : PySem.W.Frag) : Addr := He.ga K "check_store"
abbrev s_replaced : Stmt := top 25
abbrev a_replaced (K : PySem.W.Frag) : Addr := He.ga K "replaced"
abbrev s_World_init : Stmt := inClass (top 32) 0
abbrev a_World_init (K : PySem.W.Frag) : Addr := He.ma K (He.ga K "World") "__init__"
abbrev s_World_eq : Stmt := inClass (top 32) 1
abbrev a_World_eq (K : PySem.W.Frag) : Addr := He.ma K (He.ga K "World") "__eq__"
abbrev s_World_slots : Stmt := inClass (top 32) 2
abbrev a_World_slots (K : PySem.W.Frag) : Addr := He5.wf K (He.ga K "World") "property" "slots"
abbrev s_World_stores : Stmt := inClass (top 32) 3
abbrev a_World_stores (K : PySem.W.Frag) : Addr := He5.wf K (He.ga K "World") "property" "stores"
abbrev s_World_names : Stmt := inClass (top 32) 4
abbrev a_World_names (K : PySem.W.Frag) : Addr := He5.wf K (He.ga K "World") "property" "names"
abbrev s_World_change : Stmt := inClass (top 32) 5
abbrev a_World_change (K : PySem.W.Frag) : Addr := He.ma K (He.ga K "World") "change"
abbrev s_World_end : Stmt := inClass (top 32) 6
abbrev a_World_end (K : PySem.W.Frag) : Addr := He.ma K (He.ga K "World") "end"
abbrev s_World_sets : Stmt := inClass (top 32) 7
abbrev a_World_sets (K : PySem.W.Frag) : Addr := He.ma K (He.ga K "World") "sets"
abbrev s_check_world : Stmt := top 33
abbrev a_check_world (K : PySem.W.Frag) : Addr := He.ga K "check_world"
abbrev s_is_known : Stmt := top 34
abbrev a_is_known (K : PySem.W.Frag) : Addr := He.ga K "is_known"
abbrev s_is_order : Stmt := top 35
abbrev a_is_order (K : PySem.W.Frag) : Addr := He.ga K "is_order"
abbrev s_is_set : Stmt := top 36
abbrev a_is_set (K : PySem.W.Frag) : Addr := He.ga K "is_set"
abbrev s_is_store_of : Stmt := top 37
abbrev a_is_store_of (K : PySem.W.Frag) : Addr := He.ga K "is_store_of"
abbrev s_is_start : Stmt := top 38
abbrev a_is_start (K : PySem.W.Frag) : Addr := He.ga K "is_start"
abbrev s_are_initial_stores : Stmt := top 39
abbrev a_are_initial_stores (K : PySem.W.Frag) : Addr := He.ga K "are_initial_stores"
abbrev s_check_changes : Stmt := top 40
abbrev a_check_changes (K : PySem.W.Frag) : Addr := He.ga K "check_changes"
abbrev s_is_name : Stmt := top 41
abbrev a_is_name (K : PySem.W.Frag) : Addr := He.ga K "is_name"
abbrev s_uses_only : Stmt := top 42
abbrev a_uses_only (K : PySem.W.Frag) : Addr := He.ga K "uses_only"
abbrev s_one_larger : Stmt := top 43
abbrev a_one_larger (K : PySem.W.Frag) : Addr := He.ga K "one_larger"
abbrev s_is_enough : Stmt := top 45
abbrev a_is_enough (K : PySem.W.Frag) : Addr := He.ga K "is_enough"
abbrev s_ends : Stmt := top 46
abbrev a_ends (K : PySem.W.Frag) : Addr := He.ga K "ends"
abbrev s_is_table : Stmt := top 47
abbrev a_is_table (K : PySem.W.Frag) : Addr := He.ga K "is_table"
abbrev s_check_policy : Stmt := top 48
abbrev a_check_policy (K : PySem.W.Frag) : Addr := He.ga K "check_policy"
abbrev s_is_pair : Stmt := top 49
abbrev a_is_pair (K : PySem.W.Frag) : Addr := He.ga K "is_pair"
abbrev s_has_cycle : Stmt := top 50
abbrev a_has_cycle (K : PySem.W.Frag) : Addr := He.ga K "has_cycle"
abbrev s_free_names : Stmt := top 51
abbrev a_free_names (K : PySem.W.Frag) : Addr := He.ga K "free_names"
abbrev s_last_names : Stmt := top 52
abbrev a_last_names (K : PySem.W.Frag) : Addr := He.ga K "last_names"
abbrev s_without : Stmt := top 53
abbrev a_without (K : PySem.W.Frag) : Addr := He.ga K "without"
abbrev s_allowed_orders : Stmt := top 54
abbrev a_allowed_orders (K : PySem.W.Frag) : Addr := He.ga K "allowed_orders"
abbrev s_stores_and_sets : Stmt := top 55
abbrev a_stores_and_sets (K : PySem.W.Frag) : Addr := He.ga K "stores_and_sets"
abbrev s_find_split : Stmt := top 56
abbrev a_find_split (K : PySem.W.Frag) : Addr := He.ga K "find_split"
abbrev s_split_of : Stmt := top 57
abbrev a_split_of (K : PySem.W.Frag) : Addr := He.ga K "split_of"
abbrev s_check_enough : Stmt := top 58
abbrev a_check_enough (K : PySem.W.Frag) : Addr := He.ga K "check_enough"
abbrev s_check_table : Stmt := top 59
abbrev a_check_table (K : PySem.W.Frag) : Addr := He.ga K "check_table"
abbrev s_is_table_key : Stmt := top 60
abbrev a_is_table_key (K : PySem.W.Frag) : Addr := He.ga K "is_table_key"
abbrev s_is_right_end : Stmt := top 61
abbrev a_is_right_end (K : PySem.W.Frag) : Addr := He.ga K "is_right_end"
abbrev s__law_draw : Stmt := top 63
abbrev a__law_draw (K : PySem.W.Frag) : Addr := He.ga K "_law_draw"
abbrev s__law_cell_at : Stmt := top 64
abbrev a__law_cell_at (K : PySem.W.Frag) : Addr := He.ga K "_law_cell_at"
abbrev s__law_digits : Stmt := top 65
abbrev a__law_digits (K : PySem.W.Frag) : Addr := He.ga K "_law_digits"
abbrev s__law_take : Stmt := top 66
abbrev a__law_take (K : PySem.W.Frag) : Addr := He.ga K "_law_take"
abbrev s__law_pool : Stmt := top 67
abbrev a__law_pool (K : PySem.W.Frag) : Addr := He.ga K "_law_pool"
abbrev s__law_plain : Stmt := top 68
abbrev a__law_plain (K : PySem.W.Frag) : Addr := He.ga K "_law_plain"
abbrev s__law_drawn_world : Stmt := top 69
abbrev a__law_drawn_world (K : PySem.W.Frag) : Addr := He.ga K "_law_drawn_world"
abbrev s__law_change : Stmt := top 70
abbrev a__law_change (K : PySem.W.Frag) : Addr := He.ga K "_law_change"
abbrev s__law_built : Stmt := top 71
abbrev a__law_built (K : PySem.W.Frag) : Addr := He.ga K "_law_built"
abbrev s__law_done : Stmt := top 72
abbrev a__law_done (K : PySem.W.Frag) : Addr := He.ga K "_law_done"
abbrev s__law_end : Stmt := top 73
abbrev a__law_end (K : PySem.W.Frag) : Addr := He.ga K "_law_end"
abbrev s__law_names : Stmt := top 74
abbrev a__law_names (K : PySem.W.Frag) : Addr := He.ga K "_law_names"
abbrev s__law_sets : Stmt := top 75
abbrev a__law_sets (K : PySem.W.Frag) : Addr := He.ga K "_law_sets"
abbrev s__law_orders : Stmt := top 76
abbrev a__law_orders (K : PySem.W.Frag) : Addr := He.ga K "_law_orders"
abbrev s__law_allowed : Stmt := top 77
abbrev a__law_allowed (K : PySem.W.Frag) : Addr := He.ga K "_law_allowed"
abbrev s__law_drawn_policy : Stmt := top 78
abbrev a__law_drawn_policy (K : PySem.W.Frag) : Addr := He.ga K "_law_drawn_policy"
abbrev s__law_is_table : Stmt := top 79
abbrev a__law_is_table (K : PySem.W.Frag) : Addr := He.ga K "_law_is_table"
abbrev s__law_table : Stmt := top 80
abbrev a__law_table (K : PySem.W.Frag) : Addr := He.ga K "_law_table"
abbrev s_law : Stmt := top 81
abbrev a_law (K : PySem.W.Frag) : Addr := He.ga K "law"
abbrev c_Put (K : PySem.W.Frag) : Addr := He.ga K "Put"
abbrev c_Move (K : PySem.W.Frag) : Addr := He.ga K "Move"
abbrev c_Add (K : PySem.W.Frag) : Addr := He.ga K "Add"
abbrev c_AddSlot (K : PySem.W.Frag) : Addr := He.ga K "AddSlot"
abbrev c_Raise (K : PySem.W.Frag) : Addr := He.ga K "Raise"
abbrev c_Lower (K : PySem.W.Frag) : Addr := He.ga K "Lower"
abbrev c_If (K : PySem.W.Frag) : Addr := He.ga K "If"
abbrev c_World (K : PySem.W.Frag) : Addr := He.ga K "World"
abbrev c_Change (K : PySem.W.Frag) : Addr := He.ga K "Change"
/-- the facts that an own class must keep so that isinstance looks at its instances -/
structure Own (K : PySem.W.Frag) (C : Addr) : Prop where
  cl : Cls K C
  ha : PySem.W.findIn K (.ref C) "__class__" = some (some (.builtin "object.__class__"))
  hn : PySem.W.specialIn K (.builtin "object.__class__") "__get__" = some (some (.builtin "getset_descriptor.__get__"))
  htk : PySem.W.takesIn K (.builtin "object.__class__") = some true
  hm : PySem.W.mroIn K C (.type "object") = some true
theorem Own.ty {K : PySem.W.Frag} {C : Addr} (o : Own K C) {H : Hp} {a dx : Addr} {fs : List (Str × V)} (e : H a = some (.ins C dx fs)) : TyX K H (.ref a) (.ref C) := .base (.ins e o.cl o.ha o.hn o.htk o.hm)
/-- what the top has left -/
structure Txt (K : PySem.W.Frag) (mg : Str → Option Value) : Prop where
  f_Put_init : ∃ fd, Fun K "__init__" "Put.__init__" s_Put_init (a_Put_init K) fd
  f_Put_eq : ∃ fd, Fun K "__eq__" "Put.__eq__" s_Put_eq (a_Put_eq K) fd
  f_Put_slots : ∃ fd, Fun K "slots" "Put.slots" s_Put_slots (a_Put_slots K) fd
  f_Put_apply : ∃ fd, Fun K "apply" "Put.apply" s_Put_apply (a_Put_apply K) fd
  f_Move_init : ∃ fd, Fun K "__init__" "Move.__init__" s_Move_init (a_Move_init K) fd
  f_Move_eq : ∃ fd, Fun K "__eq__" "Move.__eq__" s_Move_eq (a_Move_eq K) fd
  f_Move_slots : ∃ fd, Fun K "slots" "Move.slots" s_Move_slots (a_Move_slots K) fd
  f_Move_apply : ∃ fd, Fun K "apply" "Move.apply" s_Move_apply (a_Move_apply K) fd
  f_Add_init : ∃ fd, Fun K "__init__" "Add.__init__" s_Add_init (a_Add_init K) fd
  f_Add_eq : ∃ fd, Fun K "__eq__" "Add.__eq__" s_Add_eq (a_Add_eq K) fd
  f_Add_slots : ∃ fd, Fun K "slots" "Add.slots" s_Add_slots (a_Add_slots K) fd
  f_Add_apply : ∃ fd, Fun K "apply" "Add.apply" s_Add_apply (a_Add_apply K) fd
  f_AddSlot_init : ∃ fd, Fun K "__init__" "AddSlot.__init__" s_AddSlot_init (a_AddSlot_init K) fd
  f_AddSlot_eq : ∃ fd, Fun K "__eq__" "AddSlot.__eq__" s_AddSlot_eq (a_AddSlot_eq K) fd
  f_AddSlot_slots : ∃ fd, Fun K "slots" "AddSlot.slots" s_AddSlot_slots (a_AddSlot_slots K) fd
  f_AddSlot_apply : ∃ fd, Fun K "apply" "AddSlot.apply" s_AddSlot_apply (a_AddSlot_apply K) fd
  f_Raise_init : ∃ fd, Fun K "__init__" "Raise.__init__" s_Raise_init (a_Raise_init K) fd
  f_Raise_eq : ∃ fd, Fun K "__eq__" "Raise.__eq__" s_Raise_eq (a_Raise_eq K) fd
  f_Raise_slots : ∃ fd, Fun K "slots" "Raise.slots" s_Raise_slots (a_Raise_slots K) fd
  f_Raise_apply : ∃ fd, Fun K "apply" "Raise.apply" s_Raise_apply (a_Raise_apply K) fd
  f_Lower_init : ∃ fd, Fun K "__init__" "Lower.__init__" s_Lower_init (a_Lower_init K) fd
  f_Lower_eq : ∃ fd, Fun K "__eq__" "Lower.__eq__" s_Lower_eq (a_Lower_eq K) fd
  f_Lower_slots : ∃ fd, Fun K "slots" "Lower.slots" s_Lower_slots (a_Lower_slots K) fd
  f_Lower_apply : ∃ fd, Fun K "apply" "Lower.apply" s_Lower_apply (a_Lower_apply K) fd
  f_If_init : ∃ fd, Fun K "__init__" "If.__init__" s_If_init (a_If_init K) fd
  f_If_eq : ∃ fd, Fun K "__eq__" "If.__eq__" s_If_eq (a_If_eq K) fd
  f_If_slots : ∃ fd, Fun K "slots" "If.slots" s_If_slots (a_If_slots K) fd
  f_If_apply : ∃ fd, Fun K "apply" "If.apply" s_If_apply (a_If_apply K) fd
  f_is_number : ∃ fd, Fun K "is_number" "is_number" s_is_number (a_is_number K) fd
  f_is_store : ∃ fd, Fun K "is_store" "is_store" s_is_store (a_is_store K) fd
  f_check_slot : ∃ fd, Fun K "check_slot" "check_slot" s_check_slot (a_check_slot K) fd
  f_check_value : ∃ fd, Fun K "check_value" "check_value" s_check_value (a_check_value K) fd
  f_check_store : ∃ fd, Fun K "check_store" "check_store" s_check_store (a_check_store K) fd
  f_replaced : ∃ fd, Fun K "replaced" "replaced" s_replaced (a_replaced K) fd
  f_World_init : ∃ fd, Fun K "__init__" "World.__init__" s_World_init (a_World_init K) fd
  f_World_eq : ∃ fd, Fun K "__eq__" "World.__eq__" s_World_eq (a_World_eq K) fd
  f_World_slots : ∃ fd, Fun K "slots" "World.slots" s_World_slots (a_World_slots K) fd
  f_World_stores : ∃ fd, Fun K "stores" "World.stores" s_World_stores (a_World_stores K) fd
  f_World_names : ∃ fd, Fun K "names" "World.names" s_World_names (a_World_names K) fd
  f_World_change : ∃ fd, Fun K "change" "World.change" s_World_change (a_World_change K) fd
  f_World_end : ∃ fd, Fun K "end" "World.end" s_World_end (a_World_end K) fd
  f_World_sets : ∃ fd, Fun K "sets" "World.sets" s_World_sets (a_World_sets K) fd
  f_check_world : ∃ fd, Fun K "check_world" "check_world" s_check_world (a_check_world K) fd
  f_is_known : ∃ fd, Fun K "is_known" "is_known" s_is_known (a_is_known K) fd
  f_is_order : ∃ fd, Fun K "is_order" "is_order" s_is_order (a_is_order K) fd
  f_is_set : ∃ fd, Fun K "is_set" "is_set" s_is_set (a_is_set K) fd
  f_is_store_of : ∃ fd, Fun K "is_store_of" "is_store_of" s_is_store_of (a_is_store_of K) fd
  f_is_start : ∃ fd, Fun K "is_start" "is_start" s_is_start (a_is_start K) fd
  f_are_initial_stores : ∃ fd, Fun K "are_initial_stores" "are_initial_stores" s_are_initial_stores (a_are_initial_stores K) fd
  f_check_changes : ∃ fd, Fun K "check_changes" "check_changes" s_check_changes (a_check_changes K) fd
  f_is_name : ∃ fd, Fun K "is_name" "is_name" s_is_name (a_is_name K) fd
  f_uses_only : ∃ fd, Fun K "uses_only" "uses_only" s_uses_only (a_uses_only K) fd
  f_one_larger : ∃ fd, Fun K "one_larger" "one_larger" s_one_larger (a_one_larger K) fd
  f_is_enough : ∃ fd, Fun K "is_enough" "is_enough" s_is_enough (a_is_enough K) fd
  f_ends : ∃ fd, Fun K "ends" "ends" s_ends (a_ends K) fd
  f_is_table : ∃ fd, Fun K "is_table" "is_table" s_is_table (a_is_table K) fd
  f_check_policy : ∃ fd, Fun K "check_policy" "check_policy" s_check_policy (a_check_policy K) fd
  f_is_pair : ∃ fd, Fun K "is_pair" "is_pair" s_is_pair (a_is_pair K) fd
  f_has_cycle : ∃ fd, Fun K "has_cycle" "has_cycle" s_has_cycle (a_has_cycle K) fd
  f_free_names : ∃ fd, Fun K "free_names" "free_names" s_free_names (a_free_names K) fd
  f_last_names : ∃ fd, Fun K "last_names" "last_names" s_last_names (a_last_names K) fd
  f_without : ∃ fd, Fun K "without" "without" s_without (a_without K) fd
  f_allowed_orders : ∃ fd, Fun K "allowed_orders" "allowed_orders" s_allowed_orders (a_allowed_orders K) fd
  f_stores_and_sets : ∃ fd, Fun K "stores_and_sets" "stores_and_sets" s_stores_and_sets (a_stores_and_sets K) fd
  f_find_split : ∃ fd, Fun K "find_split" "find_split" s_find_split (a_find_split K) fd
  f_split_of : ∃ fd, Fun K "split_of" "split_of" s_split_of (a_split_of K) fd
  f_check_enough : ∃ fd, Fun K "check_enough" "check_enough" s_check_enough (a_check_enough K) fd
  f_check_table : ∃ fd, Fun K "check_table" "check_table" s_check_table (a_check_table K) fd
  f_is_table_key : ∃ fd, Fun K "is_table_key" "is_table_key" s_is_table_key (a_is_table_key K) fd
  f_is_right_end : ∃ fd, Fun K "is_right_end" "is_right_end" s_is_right_end (a_is_right_end K) fd
  f__law_draw : ∃ fd, Fun K "_law_draw" "_law_draw" s__law_draw (a__law_draw K) fd
  f__law_cell_at : ∃ fd, Fun K "_law_cell_at" "_law_cell_at" s__law_cell_at (a__law_cell_at K) fd
  f__law_digits : ∃ fd, Fun K "_law_digits" "_law_digits" s__law_digits (a__law_digits K) fd
  f__law_take : ∃ fd, Fun K "_law_take" "_law_take" s__law_take (a__law_take K) fd
  f__law_pool : ∃ fd, Fun K "_law_pool" "_law_pool" s__law_pool (a__law_pool K) fd
  f__law_plain : ∃ fd, Fun K "_law_plain" "_law_plain" s__law_plain (a__law_plain K) fd
  f__law_drawn_world : ∃ fd, Fun K "_law_drawn_world" "_law_drawn_world" s__law_drawn_world (a__law_drawn_world K) fd
  f__law_change : ∃ fd, Fun K "_law_change" "_law_change" s__law_change (a__law_change K) fd
  f__law_built : ∃ fd, Fun K "_law_built" "_law_built" s__law_built (a__law_built K) fd
  f__law_done : ∃ fd, Fun K "_law_done" "_law_done" s__law_done (a__law_done K) fd
  f__law_end : ∃ fd, Fun K "_law_end" "_law_end" s__law_end (a__law_end K) fd
  f__law_names : ∃ fd, Fun K "_law_names" "_law_names" s__law_names (a__law_names K) fd
  f__law_sets : ∃ fd, Fun K "_law_sets" "_law_sets" s__law_sets (a__law_sets K) fd
  f__law_orders : ∃ fd, Fun K "_law_orders" "_law_orders" s__law_orders (a__law_orders K) fd
  f__law_allowed : ∃ fd, Fun K "_law_allowed" "_law_allowed" s__law_allowed (a__law_allowed K) fd
  f__law_drawn_policy : ∃ fd, Fun K "_law_drawn_policy" "_law_drawn_policy" s__law_drawn_policy (a__law_drawn_policy K) fd
  f__law_is_table : ∃ fd, Fun K "_law_is_table" "_law_is_table" s__law_is_table (a__law_is_table K) fd
  f__law_table : ∃ fd, Fun K "_law_table" "_law_table" s__law_table (a__law_table K) fd
  f_law : ∃ fd, Fun K "law" "law" s_law (a_law K) fd
  g_Change : mg "Change" = some (.ref (He.ga K "Change"))
  g_Put : mg "Put" = some (.ref (He.ga K "Put"))
  g_Move : mg "Move" = some (.ref (He.ga K "Move"))
  g_Add : mg "Add" = some (.ref (He.ga K "Add"))
  g_AddSlot : mg "AddSlot" = some (.ref (He.ga K "AddSlot"))
  g_Raise : mg "Raise" = some (.ref (He.ga K "Raise"))
  g_Lower : mg "Lower" = some (.ref (He.ga K "Lower"))
  g_If : mg "If" = some (.ref (He.ga K "If"))
  g_is_number : mg "is_number" = some (.ref (He.ga K "is_number"))
  g_is_store : mg "is_store" = some (.ref (He.ga K "is_store"))
  g_check_slot : mg "check_slot" = some (.ref (He.ga K "check_slot"))
  g_check_value : mg "check_value" = some (.ref (He.ga K "check_value"))
  g_check_store : mg "check_store" = some (.ref (He.ga K "check_store"))
  g_replaced : mg "replaced" = some (.ref (He.ga K "replaced"))
  g_World : mg "World" = some (.ref (He.ga K "World"))
  g_check_world : mg "check_world" = some (.ref (He.ga K "check_world"))
  g_is_known : mg "is_known" = some (.ref (He.ga K "is_known"))
  g_is_order : mg "is_order" = some (.ref (He.ga K "is_order"))
  g_is_set : mg "is_set" = some (.ref (He.ga K "is_set"))
  g_is_store_of : mg "is_store_of" = some (.ref (He.ga K "is_store_of"))
  g_is_start : mg "is_start" = some (.ref (He.ga K "is_start"))
  g_are_initial_stores : mg "are_initial_stores" = some (.ref (He.ga K "are_initial_stores"))
  g_check_changes : mg "check_changes" = some (.ref (He.ga K "check_changes"))
  g_is_name : mg "is_name" = some (.ref (He.ga K "is_name"))
  g_uses_only : mg "uses_only" = some (.ref (He.ga K "uses_only"))
  g_one_larger : mg "one_larger" = some (.ref (He.ga K "one_larger"))
  g_is_enough : mg "is_enough" = some (.ref (He.ga K "is_enough"))
  g_ends : mg "ends" = some (.ref (He.ga K "ends"))
  g_is_table : mg "is_table" = some (.ref (He.ga K "is_table"))
  g_check_policy : mg "check_policy" = some (.ref (He.ga K "check_policy"))
  g_is_pair : mg "is_pair" = some (.ref (He.ga K "is_pair"))
  g_has_cycle : mg "has_cycle" = some (.ref (He.ga K "has_cycle"))
  g_free_names : mg "free_names" = some (.ref (He.ga K "free_names"))
  g_last_names : mg "last_names" = some (.ref (He.ga K "last_names"))
  g_without : mg "without" = some (.ref (He.ga K "without"))
  g_allowed_orders : mg "allowed_orders" = some (.ref (He.ga K "allowed_orders"))
  g_stores_and_sets : mg "stores_and_sets" = some (.ref (He.ga K "stores_and_sets"))
  g_find_split : mg "find_split" = some (.ref (He.ga K "find_split"))
  g_split_of : mg "split_of" = some (.ref (He.ga K "split_of"))
  g_check_enough : mg "check_enough" = some (.ref (He.ga K "check_enough"))
  g_check_table : mg "check_table" = some (.ref (He.ga K "check_table"))
  g_is_table_key : mg "is_table_key" = some (.ref (He.ga K "is_table_key"))
  g_is_right_end : mg "is_right_end" = some (.ref (He.ga K "is_right_end"))
  g__law_draw : mg "_law_draw" = some (.ref (He.ga K "_law_draw"))
  g__law_cell_at : mg "_law_cell_at" = some (.ref (He.ga K "_law_cell_at"))
  g__law_digits : mg "_law_digits" = some (.ref (He.ga K "_law_digits"))
  g__law_take : mg "_law_take" = some (.ref (He.ga K "_law_take"))
  g__law_pool : mg "_law_pool" = some (.ref (He.ga K "_law_pool"))
  g__law_plain : mg "_law_plain" = some (.ref (He.ga K "_law_plain"))
  g__law_drawn_world : mg "_law_drawn_world" = some (.ref (He.ga K "_law_drawn_world"))
  g__law_change : mg "_law_change" = some (.ref (He.ga K "_law_change"))
  g__law_built : mg "_law_built" = some (.ref (He.ga K "_law_built"))
  g__law_done : mg "_law_done" = some (.ref (He.ga K "_law_done"))
  g__law_end : mg "_law_end" = some (.ref (He.ga K "_law_end"))
  g__law_names : mg "_law_names" = some (.ref (He.ga K "_law_names"))
  g__law_sets : mg "_law_sets" = some (.ref (He.ga K "_law_sets"))
  g__law_orders : mg "_law_orders" = some (.ref (He.ga K "_law_orders"))
  g__law_allowed : mg "_law_allowed" = some (.ref (He.ga K "_law_allowed"))
  g__law_drawn_policy : mg "_law_drawn_policy" = some (.ref (He.ga K "_law_drawn_policy"))
  g__law_is_table : mg "_law_is_table" = some (.ref (He.ga K "_law_is_table"))
  g__law_table : mg "_law_table" = some (.ref (He.ga K "_law_table"))
  g_law : mg "law" = some (.ref (He.ga K "law"))
  i_MOST_SLOTS : ∃ t, mg "MOST_SLOTS" = some (.int 3 t)
  i_MOST_LETTERS : ∃ t, mg "MOST_LETTERS" = some (.int 8 t)
  i_MOST_STORES : ∃ t, mg "MOST_STORES" = some (.int 8 t)
  i_LEAST_CHANGES : ∃ t, mg "LEAST_CHANGES" = some (.int 2 t)
  i_MOST_CHANGES : ∃ t, mg "MOST_CHANGES" = some (.int 4 t)
  letters : ∃ t, mg "LETTERS" = some (.str "abcdefghijklmnopqrstuvwxyz" t)
  z_isinstance : mg "isinstance" = none
  z_int : mg "int" = none
  z_bool : mg "bool" = none
  z_tuple : mg "tuple" = none
  z_list : mg "list" = none
  z_dict : mg "dict" = none
  z_str : mg "str" = none
  z_set : mg "set" = none
  z_len : mg "len" = none
  z_all : mg "all" = none
  z_any : mg "any" = none
  z_sorted : mg "sorted" = none
  z_max : mg "max" = none
  z_min : mg "min" = none
  z_range : mg "range" = none
  z_abs : mg "abs" = none
  z_sum : mg "sum" = none
  z_enumerate : mg "enumerate" = none
  o_Put : Own K (c_Put K)
  mk_Put : Mk K (c_Put K) (a_Put_init K)
  n_Put_slot : NoAttr K (c_Put K) "slot"
  n_Put_value : NoAttr K (c_Put K) "value"
  m_Put_eq : Meth K (c_Put K) "__eq__" (a_Put_eq K)
  m_Put_apply : Meth K (c_Put K) "apply" (a_Put_apply K)
  p_Put_slots : PropOf K (c_Put K) "slots" (He.ma K (c_Put K) "slots") (a_Put_slots K)
  o_Move : Own K (c_Move K)
  mk_Move : Mk K (c_Move K) (a_Move_init K)
  n_Move_slot : NoAttr K (c_Move K) "slot"
  n_Move_source : NoAttr K (c_Move K) "source"
  m_Move_eq : Meth K (c_Move K) "__eq__" (a_Move_eq K)
  m_Move_apply : Meth K (c_Move K) "apply" (a_Move_apply K)
  p_Move_slots : PropOf K (c_Move K) "slots" (He.ma K (c_Move K) "slots") (a_Move_slots K)
  o_Add : Own K (c_Add K)
  mk_Add : Mk K (c_Add K) (a_Add_init K)
  n_Add_slot : NoAttr K (c_Add K) "slot"
  n_Add_value : NoAttr K (c_Add K) "value"
  m_Add_eq : Meth K (c_Add K) "__eq__" (a_Add_eq K)
  m_Add_apply : Meth K (c_Add K) "apply" (a_Add_apply K)
  p_Add_slots : PropOf K (c_Add K) "slots" (He.ma K (c_Add K) "slots") (a_Add_slots K)
  o_AddSlot : Own K (c_AddSlot K)
  mk_AddSlot : Mk K (c_AddSlot K) (a_AddSlot_init K)
  n_AddSlot_slot : NoAttr K (c_AddSlot K) "slot"
  n_AddSlot_source : NoAttr K (c_AddSlot K) "source"
  m_AddSlot_eq : Meth K (c_AddSlot K) "__eq__" (a_AddSlot_eq K)
  m_AddSlot_apply : Meth K (c_AddSlot K) "apply" (a_AddSlot_apply K)
  p_AddSlot_slots : PropOf K (c_AddSlot K) "slots" (He.ma K (c_AddSlot K) "slots") (a_AddSlot_slots K)
  o_Raise : Own K (c_Raise K)
  mk_Raise : Mk K (c_Raise K) (a_Raise_init K)
  n_Raise_slot : NoAttr K (c_Raise K) "slot"
  n_Raise_value : NoAttr K (c_Raise K) "value"
  m_Raise_eq : Meth K (c_Raise K) "__eq__" (a_Raise_eq K)
  m_Raise_apply : Meth K (c_Raise K) "apply" (a_Raise_apply K)
  p_Raise_slots : PropOf K (c_Raise K) "slots" (He.ma K (c_Raise K) "slots") (a_Raise_slots K)
  o_Lower : Own K (c_Lower K)
  mk_Lower : Mk K (c_Lower K) (a_Lower_init K)
  n_Lower_slot : NoAttr K (c_Lower K) "slot"
  n_Lower_value : NoAttr K (c_Lower K) "value"
  m_Lower_eq : Meth K (c_Lower K) "__eq__" (a_Lower_eq K)
  m_Lower_apply : Meth K (c_Lower K) "apply" (a_Lower_apply K)
  p_Lower_slots : PropOf K (c_Lower K) "slots" (He.ma K (c_Lower K) "slots") (a_Lower_slots K)
  o_If : Own K (c_If K)
  mk_If : Mk K (c_If K) (a_If_init K)
  n_If_slot : NoAttr K (c_If K) "slot"
  n_If_value : NoAttr K (c_If K) "value"
  n_If_inner : NoAttr K (c_If K) "inner"
  m_If_eq : Meth K (c_If K) "__eq__" (a_If_eq K)
  m_If_apply : Meth K (c_If K) "apply" (a_If_apply K)
  p_If_slots : PropOf K (c_If K) "slots" (He.ma K (c_If K) "slots") (a_If_slots K)
  o_World : Own K (c_World K)
  mk_World : Mk K (c_World K) (a_World_init K)
  n_World_width : NoAttr K (c_World K) "width"
  n_World_starts : NoAttr K (c_World K) "starts"
  n_World_made : NoAttr K (c_World K) "made"
  m_World_change : Meth K (c_World K) "change" (a_World_change K)
  m_World_end : Meth K (c_World K) "end" (a_World_end K)
  m_World_sets : Meth K (c_World K) "sets" (a_World_sets K)
  p_World_slots : PropOf K (c_World K) "slots" (He.ma K (c_World K) "slots") (a_World_slots K)
  p_World_stores : PropOf K (c_World K) "stores" (He.ma K (c_World K) "stores") (a_World_stores K)
  p_World_names : PropOf K (c_World K) "names" (He.ma K (c_World K) "names") (a_World_names K)
  k_Put : PySem.W.kitOne K (.ref (c_Put K)) (.ref (c_Change K)) = some true
  kIf_Put : PySem.W.kitOne K (.ref (c_Put K)) (.ref (c_If K)) = some false
  k_Move : PySem.W.kitOne K (.ref (c_Move K)) (.ref (c_Change K)) = some true
  kIf_Move : PySem.W.kitOne K (.ref (c_Move K)) (.ref (c_If K)) = some false
  k_Add : PySem.W.kitOne K (.ref (c_Add K)) (.ref (c_Change K)) = some true
  kIf_Add : PySem.W.kitOne K (.ref (c_Add K)) (.ref (c_If K)) = some false
  k_AddSlot : PySem.W.kitOne K (.ref (c_AddSlot K)) (.ref (c_Change K)) = some true
  kIf_AddSlot : PySem.W.kitOne K (.ref (c_AddSlot K)) (.ref (c_If K)) = some false
  k_Raise : PySem.W.kitOne K (.ref (c_Raise K)) (.ref (c_Change K)) = some true
  kIf_Raise : PySem.W.kitOne K (.ref (c_Raise K)) (.ref (c_If K)) = some false
  k_Lower : PySem.W.kitOne K (.ref (c_Lower K)) (.ref (c_Change K)) = some true
  kIf_Lower : PySem.W.kitOne K (.ref (c_Lower K)) (.ref (c_If K)) = some false
  k_If : PySem.W.kitOne K (.ref (c_If K)) (.ref (c_Change K)) = some true
  modulus : ∃ u, ClX.CRead K (c_Change K) (.type "type") ∧ ClX.CVal K (c_Change K) (.type "type") "MODULUS" (.int 8) u
/-- the def at f keeps the promise sp, by level k; how it binds; that it stays -/
structure Ok (P : Program) (w : World) (K : PySem.W.Frag) (mg : Str → Option Value) (base : Heap) (f : Addr) (ps : List Str) (k : Nat) (sp : Sp) : Prop where
  ex : ∃ fd, FnOk P w K mg base CX0 k f fd ps sp ∧ Binds K fd ps []
  kp : PySem.W.keepIn K (.ref f) = true
section
variable {P : Program} {w : World} {K : PySem.W.Frag} {mg : Str → Option Value} {base : Heap}
theorem ok_of {x qual : Str} {st : Stmt} {f : Addr} {N ps : List Str} {k : Nat} {sp : Sp} (F : ∃ fd, Fun K x qual st f fd) (S : FnScope N ps (defScope st))
    (hb : ∀ (kV doc pm : Value) (an : Option Addr) (cdv ct : Value) (us : List Value), us.length = ps.length → bindArgs (PySem.W.fnOf x qual (defArgs st) (defBody st) (defScope st) .none kV doc pm an cdv ct) ⟨us, []⟩ = pure (ps.zip us))
    (len : ∀ vs H Q E, sp vs H Q E → vs.length = ps.length)
    (body : ∀ (cdv : Value) (A : Around) (outer : List Env) (s : Shared) (H : Hp) (vs : List V) (Q : VK) (E : XK), Room k (A.deeper (envOfC qual (defScope st) s.heap.objs.size f cdv)) → sp vs H Q E →
      ∃ t, PSs (cxOf CX0 P w K mg base N qual (defScope st) f cdv A outer s H E).nox (defBody st) t ∧ t { nx := fun _ H' => Q .non H', rt := Q } (start N vs) H) : Ok P w K mg base f ps (k + 1) sp := by
  obtain ⟨fd, F⟩ := F
  exact ⟨⟨fd, F.ok S len body, F.binds hb⟩, F.kp⟩
theorem Ok.mono {f : Addr} {ps : List Str} {j k : Nat} {sp : Sp} (O : Ok P w K mg base f ps j sp) (h : j ≤ k) : Ok P w K mg base f ps k sp := by
  obtain ⟨⟨fd, G, b⟩, kp⟩ := O
  exact ⟨⟨fd, G.mono h, b⟩, kp⟩
end
section
variable {X : Cx} {x : Str} {p pos apos : Pos} {e o : Expr} {es : List Expr} {t : TA} {ta : TE} {f C : Addr} {ps : List Str} {k : Nat} {sp : Sp}
/-- f(e, ..) -/
theorem pe_c (O : Ok X.prog X.w X.K X.mg X.base f ps k sp) (hr : Room k X.A) (hm : X.mg x = some (.ref f)) (ha : PA X (e :: es) t) (hg : Gl X x := by rfl) (hdb : (x == ("__debug__" : Str)) = false := by decide)
    (he : starEach (e :: es) X.env = (false, eval e X.env) :: starEach es X.env := by rfl) (hpl : (backTo pos (starEach es X.env)).any (·.1) = false := by rfl) :
    PE X (.Call (.Name x p) (e :: es) [] pos) (tCall sp [] E0 t) := by
  obtain ⟨⟨fd, G, b⟩, kp⟩ := O
  exact pe_call G hr hg hm kp b .nil pass0 ha hdb he hpl
/-- C(e, ..) -/
theorem pe_mkc (M : Mk X.K C f) (O : Ok X.prog X.w X.K X.mg X.base f ps k sp) (hr : Room (k + 1) X.A) (hm : X.mg x = some (.ref C)) (ha : PA X (e :: es) t) (hg : Gl X x := by rfl) (hdb : (x == ("__debug__" : Str)) = false := by decide)
    (he : starEach (e :: es) X.env = (false, eval e X.env) :: starEach es X.env := by rfl) (hpl : (backTo pos (starEach es X.env)).any (·.1) = false := by rfl) :
    PE X (.Call (.Name x p) (e :: es) [] pos) (tMake C sp [] E0 t) := by
  obtain ⟨⟨fd, G, b⟩, kp⟩ := O
  exact pe_make M G hr hg hm b .nil pass0 ha hdb he hpl
/-- e.f, a property -/
theorem pe_pr {q : Addr} {nm : Str} (he : PE X e ta) (c : Own X.K C) (hp : PropOf X.K C nm q f) (O : Ok X.prog X.w X.K X.mg X.base f ps k sp) (hr : Room (k + 1) X.A) (hab : attributeBase e nm X.env (eval e X.env) = eval e X.env := by rfl) :
    PE X (.Attribute e nm pos) (tProp C sp [] E0 ta) := by
  obtain ⟨⟨fd, G, b⟩, kp⟩ := O
  exact pe_prop he c.cl hp G hr b .nil pass0 hab
/-- any of some readings -/
theorem pe_any {ι : Sort _} {t : ι → TE} (h : ∀ i, PE X e (t i)) : PE X e (fun σ H Q => ∃ i, t i σ H Q) := ⟨fun pins s σ H Q I ⟨i, q⟩ => (h i).run pins s σ H Q I q⟩
end
/-- C.f, the class a name of the module, its constant known -/
theorem pe_cv {C : Addr} {f x : Str} {v : V} {u : Value} {p pos : Pos} {X : Cx} (K' : PySem.W.Frag) (cr : ClX.CRead K' C (.type "type")) (cv : ClX.CVal K' C (.type "type") f v u) (hm : X.mg x = some (.ref C)) (hK : X.K = K' := by rfl) (hg : Gl X x := by rfl) (hdb : (x == ("__debug__" : Str)) = false := by decide)
    (hb : attributeBase (.Name x p) f X.env (eval (.Name x p) X.env) = eval (.Name x p) X.env := by rfl) : PE X (.Attribute (.Name x p) f pos) (tC v) := by
  subst hK
  refine ⟨fun pins s σ H Q I h => ?_⟩
  exact (ClX.pe_cval (pe_glob (v := .ref C) hg hm rfl hdb) hb).run pins s σ H Q I ⟨C, _, v, u, rfl, cr, cv, h⟩
theorem _root_.L2.Same.tp {K : PySem.W.Frag} {H H' : Hp} {a : Addr} {xs : List V} (e : Same H H') (h : SqT K H a xs) : SqT K H' a xs := SqT.ext h e
theorem same_upd {H : Hp} {p : Addr} {o : HO} (h : H p = none) : Same H (upd H p o) := fun b u e => by rw [upd_ne (ne_of_none e h)]; exact e
theorem _root_.L2.Same.push {H H1 : Hp} {p : Addr} {o : HO} (s : Same H H1) (h : H1 p = none) : Same H (L2.upd H1 p o) := s.trans (same_upd h)
end OP
namespace OP
open PySem PySem.Spec PyProof.Rows L2
/-- the list at D grows, all that stood before stands -/
def Grow (H1 : Hp) (D : Addr) (acc : List V) (H : Hp) : Prop := Same H1 H ∧ H D = some (.lst acc)
theorem Grow.start {H1 : Hp} {D : Addr} (hD : H1 D = none) : Grow H1 D [] (upd H1 D (.lst [])) := ⟨same_upd hD, upd_same⟩
theorem Grow.step {H1 H H4 : Hp} {D : Addr} {acc : List V} {y : V} (hD : H1 D = none) (g : Grow H1 D acc H) (s : Same H H4) : H4 D = some (.lst acc) ∧ Grow H1 D (acc ++ [y]) (upd H4 D (.lst (acc ++ [y]))) :=
  ⟨s _ _ g.2, fun b o e => by rw [upd_ne (ne_of_none e hD)]; exact s _ _ (g.1 _ _ e), upd_same⟩
theorem tyes {σ : L2.St} {H : Hp} {Q : Bool → Hp → Prop} (h : Q true H) : tYes σ H Q := h
/-- a comprehension's turns -/
def LcOk (J : It) (g : TG) (tt : TT) (te : TE) (vs : List Nat) (σ : L2.St) (H1 : Hp) (D : Addr) (Qd : Hp → Prop) : Prop :=
  ∃ W : Nat → Nat → Hp → Prop, (∃ m, W 0 m (upd H1 D (.lst []))) ∧ ∀ i m H, W i m H → (J.stop i H ∧ Qd H) ∨ (J.go i H ∧ ∃ Nx : Hp → Prop, (∀ H', Nx H' → ∃ m', m' < m ∧ W (i + 1) m' H') ∧
    ∀ x H', J.yld i H x H' → g x (wipe σ vs) H' fun σ2 H2 => wipe σ2 vs = wipe σ vs ∧ tt σ2 H2 fun b H3 => if b = true then te σ2 H3 fun y H4 => ∃ acc, H4 D = some (.lst acc) ∧ acc.length < sizeLine ∧ Nx (upd H4 D (.lst (acc ++ [y]))) else Nx H3)
/-- what each item of the list is, at the heap H -/
def Each (Rel : Nat → V → Hp → Prop) (acc : List V) (H : Hp) : Prop := ∀ k y, acc[k]? = some y → Rel k y H
section
variable {K : PySem.W.Frag} {a D : Addr} {xs : List V} {te : TE} {j : Nat} {σ : L2.St} {H1 : Hp} {Qd : Hp → Prop} {Rel : Nat → V → Hp → Prop}
theorem each_snoc {acc : List V} {y : V} {H H' : Hp} (mono : ∀ k y H H', Same H H' → Rel k y H → Rel k y H') (h : Each Rel acc H) (s : Same H H') (hy : Rel acc.length y H') : Each Rel (acc ++ [y]) H' := fun k z e => by
  by_cases hk : k < acc.length
  · rw [List.getElem?_append_left hk] at e
    exact mono _ _ _ _ s (h k z e)
  · have hl : k < (acc ++ [y]).length := (List.getElem?_eq_some_iff.mp e).1
    rw [List.length_append, List.length_singleton] at hl
    have ek : k = acc.length := by omega
    subst ek
    rw [List.getElem?_append_right (Nat.le_refl _), Nat.sub_self] at e
    cases e
    exact hy
theorem each_upd {acc : List V} {H : Hp} {o : HO} (mono : ∀ k y H, Rel k y H → Rel k y (upd H D o)) (h : Each Rel acc H) : Each Rel acc (upd H D o) := fun k z e => mono k z H (h k z e)
/-- over a tuple: each item's element, by Rel -/
theorem lcT (hD : H1 D = none) (hq : SqT K H1 a xs) (hsz : xs.length ≤ 1000) (mono : ∀ k y H H', (∀ b o, b ≠ D → H b = some o → H' b = some o) → Rel k y H → Rel k y H')
    (hs : ∀ (i : Nat) x H (Qe : VK), xs[i]? = some x → Same H1 H → (∀ y H', Same H H' → Rel i y H' → Qe y H') → te ((wipe σ [j]).set j (some x)) H Qe)
    (hd : ∀ acc H, Same H1 H → H D = some (.lst acc) → acc.length = xs.length → Each Rel acc H → Qd H)
    (hw : ∀ x, wipe ((wipe σ [j]).set j (some x)) [j] = wipe σ [j] := by intro _; rfl) : LcOk (Itt K a) (gName j) tYes te [j] σ H1 D Qd := by
  refine lc_tup (K := K) (a := a) (xs := xs) (fun i H => ∃ acc, Grow H1 D acc H ∧ acc.length = i ∧ Each Rel acc H) ⟨[], Grow.start hD, rfl, fun k y e => by simp at e⟩ (fun i H _ ⟨acc, g, _⟩ => g.1.tp hq) (fun i x H hx ⟨acc, g, hl, hE⟩ => ⟨hw x, ?_⟩) (fun H ⟨acc, g, hl, hE⟩ => hd acc H g.1 g.2 hl hE)
  refine tyes (iteT ?_)
  refine hs i x H _ hx g.1 fun y H' s' hy => ?_
  obtain ⟨e1, g2⟩ := g.step (y := y) hD s'
  have hlt : i < xs.length := (List.getElem?_eq_some_iff.mp hx).1
  refine ⟨acc, e1, small1000 (by omega), _, g2, by rw [List.length_append, List.length_singleton, hl], ?_⟩
  have m2 : ∀ k y H H', Same H H' → Rel k y H → Rel k y H' := fun k y H H' s => mono k y H H' fun b o _ e => s b o e
  have hE2 := each_snoc (y := y) m2 hE s' (by rw [hl]; exact hy)
  exact fun k z e => mono k z H' _ (fun b o hb eb => by rw [upd_ne hb]; exact eb) (hE2 k z e)
theorem lcL (hD : H1 D = none) (hq : SqL K H1 a xs) (hsz : xs.length ≤ 1000) (mono : ∀ k y H H', (∀ b o, b ≠ D → H b = some o → H' b = some o) → Rel k y H → Rel k y H')
    (hs : ∀ (i : Nat) x H (Qe : VK), xs[i]? = some x → Same H1 H → (∀ y H', Same H H' → Rel i y H' → Qe y H') → te ((wipe σ [j]).set j (some x)) H Qe)
    (hd : ∀ acc H, Same H1 H → H D = some (.lst acc) → acc.length = xs.length → Each Rel acc H → Qd H)
    (hw : ∀ x, wipe ((wipe σ [j]).set j (some x)) [j] = wipe σ [j] := by intro _; rfl) : LcOk (Itl K a) (gName j) tYes te [j] σ H1 D Qd := by
  refine lc_list (K := K) (a := a) (xs := xs) (fun i H => ∃ acc, Grow H1 D acc H ∧ acc.length = i ∧ Each Rel acc H) ⟨[], Grow.start hD, rfl, fun k y e => by simp at e⟩ (fun i H _ ⟨acc, g, _⟩ => Same.seq g.1 hq) (fun i x H hx ⟨acc, g, hl, hE⟩ => ⟨hw x, ?_⟩) (fun H ⟨acc, g, hl, hE⟩ => hd acc H g.1 g.2 hl hE)
  refine tyes (iteT ?_)
  refine hs i x H _ hx g.1 fun y H' s' hy => ?_
  obtain ⟨e1, g2⟩ := g.step (y := y) hD s'
  have hlt : i < xs.length := (List.getElem?_eq_some_iff.mp hx).1
  refine ⟨acc, e1, small1000 (by omega), _, g2, by rw [List.length_append, List.length_singleton, hl], ?_⟩
  have m2 : ∀ k y H H', Same H H' → Rel k y H → Rel k y H' := fun k y H H' s => mono k y H H' fun b o _ e => s b o e
  have hE2 := each_snoc (y := y) m2 hE s' (by rw [hl]; exact hy)
  exact fun k z e => mono k z H' _ (fun b o hb eb => by rw [upd_ne hb]; exact eb) (hE2 k z e)
/-- the same where each element is a value known beforehand -/
theorem lcT_map (ys : List V) (hD : H1 D = none) (hq : SqT K H1 a xs) (hsz : xs.length ≤ 1000) (hy : ys.length = xs.length)
    (hs : ∀ (i : Nat) x y H (Qe : VK), xs[i]? = some x → ys[i]? = some y → Same H1 H → (∀ H', Same H H' → Qe y H') → te ((wipe σ [j]).set j (some x)) H Qe)
    (hd : ∀ H, Same H1 H → H D = some (.lst ys) → Qd H)
    (hw : ∀ x, wipe ((wipe σ [j]).set j (some x)) [j] = wipe σ [j] := by intro _; rfl) : LcOk (Itt K a) (gName j) tYes te [j] σ H1 D Qd := by
  refine lcT (Rel := fun k y _ => ys[k]? = some y) hD hq hsz (fun _ _ _ _ _ h => h) (fun i x H Qe hx s k => ?_) (fun acc H s e hl hE => ?_) hw
  · have hi : i < ys.length := by rw [hy]; exact (List.getElem?_eq_some_iff.mp hx).1
    exact hs i x ys[i] H Qe hx (List.getElem?_eq_getElem hi) s fun H' s' => k _ H' s' (List.getElem?_eq_getElem hi)
  · have : acc = ys := List.ext_getElem? fun k => by
      cases q : acc[k]? with
      | some y => exact (hE k y q).symm
      | none => exact (List.getElem?_eq_none_iff.mpr (by rw [hy, ← hl]; exact List.getElem?_eq_none_iff.mp q)).symm
    rw [this] at e
    exact hd H s e
theorem lcL_map (ys : List V) (hD : H1 D = none) (hq : SqL K H1 a xs) (hsz : xs.length ≤ 1000) (hy : ys.length = xs.length)
    (hs : ∀ (i : Nat) x y H (Qe : VK), xs[i]? = some x → ys[i]? = some y → Same H1 H → (∀ H', Same H H' → Qe y H') → te ((wipe σ [j]).set j (some x)) H Qe)
    (hd : ∀ H, Same H1 H → H D = some (.lst ys) → Qd H)
    (hw : ∀ x, wipe ((wipe σ [j]).set j (some x)) [j] = wipe σ [j] := by intro _; rfl) : LcOk (Itl K a) (gName j) tYes te [j] σ H1 D Qd := by
  refine lcL (Rel := fun k y _ => ys[k]? = some y) hD hq hsz (fun _ _ _ _ _ h => h) (fun i x H Qe hx s k => ?_) (fun acc H s e hl hE => ?_) hw
  · have hi : i < ys.length := by rw [hy]; exact (List.getElem?_eq_some_iff.mp hx).1
    exact hs i x ys[i] H Qe hx (List.getElem?_eq_getElem hi) s fun H' s' => k _ H' s' (List.getElem?_eq_getElem hi)
  · have : acc = ys := List.ext_getElem? fun k => by
      cases q : acc[k]? with
      | some y => exact (hE k y q).symm
      | none => exact (List.getElem?_eq_none_iff.mpr (by rw [hy, ← hl]; exact List.getElem?_eq_none_iff.mp q)).symm
    rw [this] at e
    exact hd H s e
end
/-- len of a list or tuple, the written part by its name -/
def rLn (K : PySem.W.Frag) : List V → Hp → VK → Prop := fun xs H Q => ∃ p ys, xs = [V.ref p] ∧ (SqL K H p ys ∨ SqT K H p ys) ∧ Q (.int ys.length) H
theorem call_ln {X : Cx} (K : PySem.W.Frag) (hK : X.K = K := by rfl) : CallR X (.builtin "len") (rLn K) := by
  subst hK
  exact call_len_seq
/-- all([True, ..]) -/
theorem all_true (n : Nat) : (List.replicate n true).all id = true := by
  induction n with
  | zero => rfl
  | succ n ih => rw [List.replicate_succ, List.all_cons, ih]; rfl
theorem map_rep (n : Nat) : (List.replicate n true).map V.bl = List.replicate n (V.bl true) := by rw [List.map_replicate]
theorem rep_at {n i : Nat} {x y : V} (h : (List.replicate n x)[i]? = some y) : y = x := by
  obtain ⟨hl, e⟩ := List.getElem?_eq_some_iff.mp h
  rw [List.getElem_replicate] at e
  exact e.symm
theorem ints_at {ns : List Int} {i : Nat} {x : V} (h : (ns.map V.int)[i]? = some x) : ∃ n, ns[i]? = some n ∧ x = .int n := by
  rw [List.getElem?_map] at h
  cases e : ns[i]? with
  | none => rw [e] at h; cases h
  | some n => rw [e] at h; exact ⟨n, rfl, (Option.some.inj h).symm⟩
end OP
namespace OP
open PySem PySem.Spec PyProof.Rows L2
section
variable {P : Program} {w : World} {K : PySem.W.Frag} {mg : Str → Option Value} {base : Heap}
theorem kit_int {K : PySem.W.Frag} : PySem.W.kitOne K (.type "int") (.type "int") = some true := kit_ty (by decide +kernel)
theorem kit_int_bool {K : PySem.W.Frag} : PySem.W.kitOne K (.type "int") (.type "bool") = some false := kit_ty (by decide +kernel)
theorem kit_tup {K : PySem.W.Frag} : PySem.W.kitOne K (.type "tuple") (.type "tuple") = some true := kit_ty (by decide +kernel)
/-- is_number(n, a, b) of ints -/
def spIsNumber : Sp := fun vs H Q _ => ∃ n a b : Int, vs = [.int n, .int a, .int b] ∧ Q (.bl (decide (a ≤ n) && decide (n ≤ b))) H
theorem scIN : FnScope ["value", "least", "most"] ["value", "least", "most"] (defScope s_is_number) := ⟨rfl, rfl, rfl, by decide +kernel, rfl, by decide +kernel, by decide +kernel⟩
theorem ok_is_number (T : Txt K mg) : Ok P w K mg base (a_is_number K) ["value", "least", "most"] 1 spIsNumber := by
  refine ok_of T.f_is_number scIN (fun _ _ _ _ _ _ us hl => match us, hl with | [_, _, _], _ => rfl) (fun vs H Q E h => ?_) (fun cdv A outer s H vs Q E hr h => ?_)
  · obtain ⟨n, a, b, rfl, _⟩ := h
    rfl
  · obtain ⟨n, a, b, rfl, k⟩ := h
    refine ⟨_, pss_one (ps_ret (pe_and (pe_callB call_isi (by rfl) T.z_isinstance (by decide +kernel) (pa_cons (pv 0) (pa_cons (pe_bltn (v := .ty "int") (by rfl) T.z_int (by decide +kernel) rfl) pa_nil)))
      (pe_and (pe_not (pe_callB call_isi (by rfl) T.z_isinstance (by decide +kernel) (pa_cons (pv 0) (pa_cons (pe_bltn (v := .ty "bool") (by rfl) T.z_bool (by decide +kernel) rfl) pa_nil))))
      (pe_one (pe_chain op_le op_le (pv 1) (pv 0) (pv 2)))))), ?_⟩
    refine ⟨_, rfl, _, _, _, _, true, rfl, .ty "int", .base (.int n), kit_int, true, rfl, iteT ?_⟩
    refine ⟨_, rfl, _, _, _, _, false, rfl, .ty "bool", .base (.int n), kit_int_bool, false, rfl, true, rfl, iteT ?_⟩
    refine ⟨_, rfl, _, rfl, _, _, rfl, rfl, _, rfl, ?_⟩
    by_cases h1 : a ≤ n
    · rw [decide_eq_true h1] at k ⊢
      refine iteT ⟨_, rfl, _, _, rfl, rfl, ?_⟩
      exact k
    · rw [decide_eq_false h1] at k ⊢
      exact iteF k
/-- a store: its values -/
structure StoreOk (xs : List Int) : Prop where
  lo : 1 ≤ xs.length
  hi : xs.length ≤ 3
  each : ∀ x ∈ xs, 0 ≤ x ∧ x ≤ 7
def spIsStore : Sp := fun vs H Q _ => ∃ (a : Addr) (xs : List Int), vs = [.ref a] ∧ H a = some (.tup (xs.map V.int)) ∧ StoreOk xs ∧ ∀ H', Same H H' → Q (.bl true) H'
theorem scIS : FnScope ["store", "value"] ["store"] (defScope s_is_store) := ⟨rfl, rfl, rfl, by decide +kernel, rfl, by decide +kernel, by decide +kernel⟩
theorem ok_is_store (T : Txt K mg) : Ok P w K mg base (a_is_store K) ["store"] 2 spIsStore := by
  have GN : Ok P w K mg base (a_is_number K) _ 1 spIsNumber := ok_is_number T
  obtain ⟨t3, m3⟩ := T.i_MOST_SLOTS
  obtain ⟨u8, cr, cv⟩ := T.modulus
  refine ok_of T.f_is_store scIS (fun _ _ _ _ _ _ us hl => match us, hl with | [_], _ => rfl) (fun vs H Q E h => ?_) (fun cdv A outer s H vs Q E hr h => ?_)
  · obtain ⟨a, xs, rfl, _⟩ := h
    rfl
  · obtain ⟨a, xs, rfl, ha, ⟨lo, hi, each⟩, k⟩ := h
    refine ⟨_, pss_cons (ps_if (PW.pt (pw_or (pt_not (pt_val (pe_callB call_isi (by rfl) T.z_isinstance (by decide +kernel) (pa_cons (pv 0) (pa_cons (pe_bltn (v := .ty "tuple") (by rfl) T.z_tuple (by decide +kernel) rfl) pa_nil)))))
        (pw_or1 (pt_not (pt_chain op_le op_le pe_int (pe_callB call_len_seq (by rfl) T.z_len PySem.boot_len (pa_cons (pv 0) pa_nil)) (pe_glob (v := .int 3) (by rfl) m3 ⟨_, rfl⟩))))))
        (pss_one (ps_ret pe_bl)) pss_nil)
      (pss_one (ps_ret (pe_callB (cr_all rfl) (by rfl) T.z_all (by decide +kernel) (pa_cons (pe_lc (own := [("value", 1)]) (g := gName 1) (tt := tYes) rfl scIS.nd (pi_tup (pv 0)) (blkOk_by (own := [("value", 1)]) (N := ["store", "value"]) (sc := defScope s_is_store) (by decide +kernel))
        (fun _ _ _ _ _ => pg_name (i := 1) scIS.nd rfl (Or.inl rfl)) (fun _ _ _ _ _ => pts_nil)
        (fun _ _ _ _ _ => pe_c GN hr T.g_is_number (pa_cons (pv 1) (pa_cons pe_int (pa_cons (pe_op op_sub (pe_cv K cr cv T.g_Change) pe_int) pa_nil))))) pa_nil)))), ?_⟩
    have hl : (xs.map V.int).length = xs.length := List.length_map ..
    refine ⟨_, rfl, _, _, _, _, true, rfl, .ty "tuple", .base (.tup ha), kit_tup, true, rfl, iteF ?_⟩
    refine ⟨_, rfl, a, _, rfl, .inr (SqT.of ha), _, _, rfl, rfl, true, ?_, iteT ⟨_, _, rfl, rfl, true, ?_, iteF ?_⟩⟩
    · rw [hl]
      exact congrArg V.bl (decide_eq_true (by omega))
    · rw [hl]
      exact congrArg V.bl (decide_eq_true (by omega))
    refine ⟨_, rfl, a, rfl, ⟨_, SqT.of ha⟩, fun D hD => ?_⟩
    refine lcT_map (K := K) (a := a) (xs := xs.map V.int) (List.replicate xs.length (.bl true)) hD (SqT.of ha) (by rw [hl]; omega) (by rw [hl, List.length_replicate]) (fun i x y H' Qe hx hy s1 kk => ?_) fun H' s1 e => ?_
    · obtain ⟨n, hn, rfl⟩ := ints_at hx
      obtain rfl := rep_at hy
      obtain ⟨b1, b2⟩ := each n (List.mem_of_getElem? hn)
      refine ⟨_, rfl, _, _, rfl, rfl, n, 0, 7, rfl, ?_⟩
      rw [decide_eq_true b1, decide_eq_true b2]
      exact kk H' (Same.refl _)
    · refine ⟨D, List.replicate xs.length true, rfl, ?_, ?_⟩
      · rw [map_rep]
        exact SqL.of e
      · rw [all_true]
        exact k H' s1
end
end OP
namespace OP
open PySem PySem.Spec PyProof.Rows L2
section
variable {P : Program} {w : World} {K : PySem.W.Frag} {mg : Str → Option Value} {base : Heap}
def spCheck (most : Int) : Sp := fun vs H Q _ => ∃ n : Int, vs = [.int n] ∧ 0 ≤ n ∧ n ≤ most ∧ Q .non H
theorem scCS : FnScope ["slot"] ["slot"] (defScope s_check_slot) := ⟨rfl, rfl, rfl, by decide +kernel, rfl, by decide +kernel, by decide +kernel⟩
theorem ok_check_slot (T : Txt K mg) : Ok P w K mg base (a_check_slot K) ["slot"] 2 (spCheck 2) := by
  have GN : Ok P w K mg base (a_is_number K) _ 1 spIsNumber := ok_is_number T
  obtain ⟨t3, m3⟩ := T.i_MOST_SLOTS
  refine ok_of T.f_check_slot scCS (fun _ _ _ _ _ _ us hl => match us, hl with | [_], _ => rfl) (fun vs H Q E h => ?_) (fun cdv A outer s H vs Q E hr h => ?_)
  · obtain ⟨n, rfl, _⟩ := h
    rfl
  · obtain ⟨n, rfl, b1, b2, k⟩ := h
    refine ⟨_, pss_one (ps_if (pt_not (pt_val (pe_c GN hr T.g_is_number (pa_cons (pv 0) (pa_cons pe_int (pa_cons (pe_op op_sub (pe_glob (v := .int 3) (by rfl) m3 ⟨_, rfl⟩) pe_int) pa_nil)))))) (pss_one ps_never) pss_nil), ?_⟩
    refine ⟨_, rfl, _, _, rfl, rfl, n, 0, 2, rfl, true, ?_, iteF k⟩
    rw [decide_eq_true b1, decide_eq_true b2] <;> rfl
theorem scCV : FnScope ["value"] ["value"] (defScope s_check_value) := ⟨rfl, rfl, rfl, by decide +kernel, rfl, by decide +kernel, by decide +kernel⟩
theorem ok_check_value (T : Txt K mg) : Ok P w K mg base (a_check_value K) ["value"] 2 (spCheck 7) := by
  have GN : Ok P w K mg base (a_is_number K) _ 1 spIsNumber := ok_is_number T
  obtain ⟨u8, cr, cv⟩ := T.modulus
  refine ok_of T.f_check_value scCV (fun _ _ _ _ _ _ us hl => match us, hl with | [_], _ => rfl) (fun vs H Q E h => ?_) (fun cdv A outer s H vs Q E hr h => ?_)
  · obtain ⟨n, rfl, _⟩ := h
    rfl
  · obtain ⟨n, rfl, b1, b2, k⟩ := h
    refine ⟨_, pss_one (ps_if (pt_not (pt_val (pe_c GN hr T.g_is_number (pa_cons (pv 0) (pa_cons pe_int (pa_cons (pe_op op_sub (pe_cv K cr cv T.g_Change) pe_int) pa_nil)))))) (pss_one ps_never) pss_nil), ?_⟩
    refine ⟨_, rfl, _, _, rfl, rfl, n, 0, 7, rfl, true, ?_, iteF k⟩
    rw [decide_eq_true b1, decide_eq_true b2] <;> rfl
/-- check_store(store, slots) of a store that has all the slots -/
def spCheckStore (K : PySem.W.Frag) : Sp := fun vs H Q _ => ∃ (a l : Addr) (xs ss : List Int), vs = [.ref a, .ref l] ∧ H a = some (.tup (xs.map V.int)) ∧ StoreOk xs ∧ SqL K H l (ss.map V.int) ∧ ss.length ≤ 1000 ∧ (∀ n ∈ ss, n < (xs.length : Int)) ∧ ∀ H', Same H H' → Q .non H'
theorem scCSt : FnScope ["store", "slots", "slot"] ["store", "slots"] (defScope s_check_store) := ⟨rfl, rfl, rfl, by decide +kernel, rfl, by decide +kernel, by decide +kernel⟩
theorem ok_check_store (T : Txt K mg) : Ok P w K mg base (a_check_store K) ["store", "slots"] 3 (spCheckStore K) := by
  have GS : Ok P w K mg base (a_is_store K) _ 2 spIsStore := ok_is_store T
  refine ok_of T.f_check_store scCSt (fun _ _ _ _ _ _ us hl => match us, hl with | [_, _], _ => rfl) (fun vs H Q E h => ?_) (fun cdv A outer s H vs Q E hr h => ?_)
  · obtain ⟨a, l, xs, ss, rfl, _⟩ := h
    rfl
  · obtain ⟨a, l, xs, ss, rfl, ha, ok, hl, hz, hlt, k⟩ := h
    refine ⟨_, pss_one (ps_if (PW.pt (pw_or (pt_not (pt_val (pe_c GS hr T.g_is_store (pa_cons (pv 0) pa_nil))))
      (pw_or1 (pt_not (pt_val (pe_callB (cr_all rfl) (by rfl) T.z_all (by decide +kernel) (pa_cons (pe_lc (own := [("slot", 2)]) (g := gName 2) (tt := tYes) rfl scCSt.nd (pi_list (pv 1)) (blkOk_by (own := [("slot", 2)]) (N := ["store", "slots", "slot"]) (sc := defScope s_check_store) (by decide +kernel))
        (fun _ _ _ _ _ => pg_name (i := 2) scCSt.nd rfl (Or.inl rfl)) (fun _ _ _ _ _ => pts_nil)
        (fun _ _ _ _ _ => pe_cmpR op_lt (pv 2) (pe_callB (call_ln K) (by rfl) T.z_len PySem.boot_len (pa_cons (pv 0) pa_nil)) (nomark _))) pa_nil))))))) (pss_one ps_never) pss_nil), ?_⟩
    refine ⟨_, rfl, a, xs, rfl, ha, ok, fun H1 s1 => ⟨true, rfl, iteF ?_⟩⟩
    refine ⟨_, rfl, l, rfl, ⟨_, s1.seq hl⟩, fun D hD => ?_⟩
    have hm : (ss.map V.int).length = ss.length := List.length_map ..
    refine lcL_map (K := K) (a := l) (xs := ss.map V.int) (List.replicate ss.length (.bl true)) hD (s1.seq hl) (by rw [hm]; exact hz) (by rw [hm, List.length_replicate]) (fun i x y H' Qe hx hy s2 kk => ?_) fun H' s2 e => ?_
    · obtain ⟨n, hn, rfl⟩ := ints_at hx
      obtain rfl := rep_at hy
      refine ⟨_, rfl, _, rfl, a, _, rfl, .inr (SqT.of (s2 _ _ (s1 _ _ ha))), _, _, rfl, rfl, ?_⟩
      show Qe (.bl (decide (n < ((xs.map V.int).length : Int)))) H'
      rw [List.length_map, decide_eq_true (hlt n (List.mem_of_getElem? hn))]
      exact kk H' (Same.refl _)
    · refine ⟨D, List.replicate ss.length true, rfl, ?_, true, ?_, iteF (k H' (s1.trans s2))⟩
      · rw [map_rep]
        exact SqL.of e
      · rw [all_true]
/-- replaced(store, slot, value) -/
def spReplaced : Sp := fun vs H Q _ => ∃ (a : Addr) (xs : List Int) (i : Nat) (n : Int), vs = [.ref a, .int i, .int n] ∧ H a = some (.tup (xs.map V.int)) ∧ xs.length ≤ 3 ∧ i < xs.length ∧ ∀ r H', Same H H' → H' r = some (.tup ((xs.set i n).map V.int)) → Q (.ref r) H'
theorem set_cut {xs : List Int} {i : Nat} {n : Int} (h : i < xs.length) : xs.set i n = xs.take i ++ n :: xs.drop (i + 1) := List.set_eq_take_append_cons_drop.trans (if_pos h)
theorem cut_lo {xs : List Int} {i : Nat} (h : i < xs.length) : cutV (xs.map V.int) none (some (i : Int)) = (xs.take i).map V.int := by
  unfold cutV
  rw [HT.sIx_none, HT.sIx_nat, List.length_map, List.drop_zero, Nat.sub_zero, List.map_take, Nat.min_eq_left (Nat.le_of_lt h)]
theorem cut_hi {xs : List Int} {i : Nat} (h : i ≤ xs.length) : cutV (xs.map V.int) (some (i : Int)) none = (xs.drop i).map V.int := by
  unfold cutV
  rw [HT.sIx_none, HT.sIx_nat, List.length_map, Nat.min_eq_left h, List.map_drop, List.take_of_length_le]
  rw [List.length_drop, List.length_map]
  exact Nat.le_refl _
theorem scRe : FnScope ["store", "slot", "value"] ["store", "slot", "value"] (defScope s_replaced) := ⟨rfl, rfl, rfl, by decide +kernel, rfl, by decide +kernel, by decide +kernel⟩
theorem ok_replaced (T : Txt K mg) : Ok P w K mg base (a_replaced K) ["store", "slot", "value"] 1 spReplaced := by
  refine ok_of T.f_replaced scRe (fun _ _ _ _ _ _ us hl => match us, hl with | [_, _, _], _ => rfl) (fun vs H Q E h => ?_) (fun cdv A outer s H vs Q E hr h => ?_)
  · obtain ⟨a, xs, i, n, rfl, _⟩ := h
    rfl
  · obtain ⟨a, xs, i, n, rfl, ha, h3, hi, k⟩ := h
    refine ⟨_, pss_one (ps_ret (pe_op op_catA (pe_op op_catA (pe_slice sl_tupA (pv 0) po_none (po_some (pv 1))) (pe_tup (pa_cons (pv 2) pa_nil))) (pe_slice sl_tupA (pv 0) (po_some (pe_op op_add (pv 1) pe_int)) po_none))), ?_⟩
    refine ⟨_, rfl, _, rfl, i, rfl, a, _, rfl, SqT.of ha, fun q => ?_, fun _ p hp => ?_⟩
    · rw [HT.sIx_nat, List.length_map, Nat.min_eq_left (Nat.le_of_lt hi)] at q
      omega
    rw [cut_lo hi]
    have s1 : Same H _ := same_upd (o := .tup ((xs.take i).map V.int)) hp
    refine ⟨_, rfl, (by show 1 ≤ sizeLine; decide), fun t ht => ?_⟩
    have s2 := s1.push (o := .tup [V.int n]) ht
    have hp2 : upd (upd H p (.tup ((xs.take i).map V.int))) t (.tup [V.int n]) p = some (.tup ((xs.take i).map V.int)) := by rw [upd_ne (ne_of_none upd_same ht)]; exact upd_same
    have e1 : ((xs.take i).map V.int).length + [V.int n].length ≤ sizeLine := by
      rw [List.length_map, List.length_take]
      exact Nat.le_trans (show _ ≤ 4 from by simp; omega) (by decide)
    have fin : ∀ (r : Addr) (H3 : Hp), Same H H3 → H3 r = some (.tup ((xs.take i ++ [n]).map V.int)) → tSl (rSlA K) (tVar 0) (tPart (tOp (rI0 fun i j => .int (i + j)) (tVar 1) (tC (.int 1)))) tNoPart (start ["store", "slot", "value"] [.ref a, .int i, .int n]) H3 (fun y H4 => rCatA K (.ref r) y H4 Q) := by
      intro r H3 s3 e3
      refine ⟨_, rfl, _, rfl, _, _, rfl, rfl, _, rfl, a, _, rfl, SqT.of (s3 _ _ ha), fun q => ?_, fun _ p2 hp2' => ?_⟩
      · have q1 := q.1
        rw [show ((i : Int) + 1) = ((i + 1 : Nat) : Int) from rfl, HT.sIx_nat, List.length_map] at q1
        omega
      rw [show ((i : Int) + 1) = ((i + 1 : Nat) : Int) from rfl, cut_hi (Nat.succ_le_of_lt hi)]
      have e4 : upd H3 p2 (.tup ((xs.drop (i + 1)).map V.int)) r = some (.tup ((xs.take i ++ [n]).map V.int)) := by rw [upd_ne (ne_of_none e3 hp2')]; exact e3
      have s4 := s3.push (o := .tup ((xs.drop (i + 1)).map V.int)) hp2'
      refine ⟨r, p2, _, _, rfl, rfl, SqT.of e4, SqT.of upd_same, ?_, fun z => ?_, fun _ z => ?_, fun _ _ p3 hp3 => ?_⟩
      · rw [List.length_map, List.length_map, List.length_append, List.length_take, List.length_drop]
        exact Nat.le_trans (show _ ≤ 10 from by simp; omega) (by decide)
      · have := congrArg List.length z
        simp at this
      · refine k r _ s4 ?_
        have z2 : xs.drop (i + 1) = [] := List.map_eq_nil_iff.mp z
        rw [set_cut hi, show xs.take i ++ n :: xs.drop (i + 1) = xs.take i ++ [n] by rw [z2]]
        exact e4
      · refine k p3 _ (s4.push hp3) ?_
        rw [upd_same, set_cut hi, ← List.map_append, List.append_assoc] <;> rfl
    refine ⟨p, t, _, _, rfl, rfl, SqT.of hp2, SqT.of upd_same, e1, fun z => ?_, fun _ z => ?_, fun _ _ p3 hp3 => ?_⟩
    · have z2 : xs.take i = [] := List.map_eq_nil_iff.mp z
      exact fin t _ s2 (by rw [z2]; exact upd_same)
    · cases z
    · refine fin p3 _ (s2.push hp3) ?_
      rw [upd_same, List.map_append] <;> rfl
end
end OP
namespace OP
open PySem PySem.Spec PyProof.Rows L2
/-- a set that set() has just made -/
abbrev set0 (w : World) : Obj := { cls := .type "set", dict := none, data := .set #[] 0 (.fresh 0 0 (!w.params.followText "set-order")) }
section
variable {P : Program} {w : World} {A : Around} {E : Value → Shared → Prop} {s : Shared}
/-- the set at S takes the items of a walk, one by one; Ph i: what is known of it behind i of them -/
theorem set_takes {I : Addr} {fp wr : List Addr} {G : Array GenState → Array GenState → Prop} {n : Nat} {Pv : Nat → Value → Prop} {St : Nat → Shared → Prop} {R : Result → Shared → Prop}
    (W : WalksS P w A.in1 I fp wr G n Pv St) (S : Addr) (out : S ∉ fp) (Ph : Nat → Heap → Prop) (stays : ∀ i g g', Ph i g → (∀ o, g.get? S = some o → g'.get? S = some o) → Ph i g')
    (add : ∀ i v (s1 : Shared) (Q : Bool → Shared → Prop) (E : Value → Shared → Prop), i < n → Pv i v → Ph i s1.heap → (∀ b g, Heap.SameBut S s1.heap g → Ph (i + 1) g → Q b { s1 with heap := g, toks := s1.toks + 1 }) → wpAny (model P w) A.in1 (setAdd S v) Q E s1) :
    ∀ (k i : Nat) (s : Shared), n - i = k → i ≤ n → St i s → Ph i s.heap → (∀ s1, Moved (S :: wr) G s s1 → Ph n s1.heap → R (.ok (.ret .none)) s1) →
      codeAny (model P w) A (.builtin "set.update.loop" ⟨[.ref S, .ref I], []⟩) R s := by
  have outW : S ∉ wr := fun z => out (W.sub _ z)
  have more : ∀ b ∈ wr, b ∈ S :: wr := fun b z => List.mem_cons_of_mem _ z
  intro k
  induction k with
  | zero =>
    intro i s e1 e2 hst hF hR
    obtain rfl : i = n := by omega
    refine codeAny_builtin F.entry_set_update_loop ?_
    rw [Around.under_plainId F.plain_set_update_loop _]
    show wpAny _ A.in1 (pyNext (.ref I) >>= _) _ _ s
    refine wpAny_bind (W.done s _ _ hst fun s1 hm => ?_)
    show wpAny _ A.in1 (ret Value.none) _ _ s1
    exact wpAny_pure (hR s1 (hm.mono more) (stays _ _ _ hF fun o e => hm.heap S o outW e))
  | succ k ih =>
    intro i s e1 e2 hst hF hR
    have lt : i < n := by omega
    refine codeAny_builtin F.entry_set_update_loop ?_
    rw [Around.under_plainId F.plain_set_update_loop _]
    show wpAny _ A.in1 (pyNext (.ref I) >>= _) _ _ s
    refine wpAny_bind (W.item i s _ _ lt hst fun v s1 hP hst1 hm => ?_)
    show wpAny _ A.in1 (holding [v] (setAdd S v) >>= _) _ _ s1
    refine wpAny_bind (wpAny_holding ?_)
    refine add i v s1 _ _ lt hP (stays _ _ _ hF fun o e => hm.heap S o outW e) fun b g sb hF2 => ?_
    refine wpAny_pure ⟨plainId_quiet F.plain_set_update_loop _, ih (i + 1) _ (by omega) lt (W.frame _ s1 _ _ hst1 (Nat.le_succ _) fun b hb o e => ?_) hF2 fun s2 hm2 hF3 => ?_⟩
    · rw [sb.2 b (fun z : b = S => out (by rw [← z]; exact hb))]
      exact e
    · refine hR s2 (Moved.trans W.gtrans ((hm.mono more).then_heap (Nat.le_succ _) fun b o hb e => ?_) hm2) hF3
      rw [sb.2 b (fun z : b = S => hb (by rw [z]; exact List.mem_cons_self))]
      exact e
theorem set_of_tuple {l : Addr} {items : Array Value} {Q : Value → Shared → Prop} (Ph : Nat → Heap → Prop) (calm : A.handled = none) (hl : s.heap.IsTuple l items) (start : ∀ g, g.get? s.heap.objs.size = some (set0 w) → Ph 0 g)
    (stays : ∀ i g g', Ph i g → (∀ o, g.get? s.heap.objs.size = some o → g'.get? s.heap.objs.size = some o) → Ph i g')
    (add : ∀ i v (A : Around) (s1 : Shared) (Q : Bool → Shared → Prop) (E : Value → Shared → Prop), items[i]? = some v → Ph i s1.heap → (∀ b g, Heap.SameBut s.heap.objs.size s1.heap g → Ph (i + 1) g → Q b { s1 with heap := g, toks := s1.toks + 1 }) → wpAny (model P w) A (setAdd s.heap.objs.size v) Q E s1)
    (h : ∀ (g : Heap) (tk : Nat), Ph items.size g → (∀ b o, s.heap.get? b = some o → g.get? b = some o) → Q (.ref s.heap.objs.size) { s with heap := g, toks := tk }) :
    wpAny (model P w) A (call (.type "set") [.ref l]) Q E s := by
  obtain ⟨c0, tl, q0⟩ := F.called_set.mro
  have q1 := F.called_set.made
  have q2 := F.called_set.sub
  refine wpAny_call (codeAny_of_tree ?_)
  show wpAny _ _ (callAny (.type "set") _) _ _ _
  refine wpAny_pure ⟨Code.quiet_builtin _ (by decide +kernel), codeAny_builtin F.entry_type_call ?_⟩
  rw [Around.under_plain (weight_type_call_type "set" [.ref l] []) rfl]
  have q3 := F.called_set.notType
  have q4 := F.called_set.canCreate
  have q5 := F.typeCall_set_1 (.ref l)
  repeat (any_goals (first | assumption | wp_step))
  refine codeAny_mono (code_set_led1 (.ref l) (E := E) (Q₁ := fun o1 s1 => o1 = .ref s.heap.objs.size ∧ s1 = { s with heap := s.heap.push (set0 w) }) ⟨rfl, rfl⟩) fun r s1 hr => ?_
  cases r with
  | error e => exact hr
  | ok fl =>
    cases fl with
    | ret ob =>
      obtain ⟨rfl, rfl⟩ := hr
      have at0 : (s.heap.push (set0 w)).get? s.heap.objs.size = some (set0 w) := Heap.get?_push_size _ rfl
      have ty0 : Shared.TypeIs { s with heap := s.heap.push (set0 w) } (.ref s.heap.objs.size) "set" := ⟨_, at0, rfl⟩
      have q6 := F.called_set.init.lookup
      have q7 := F.called_set.init.bind (.ref s.heap.objs.size)
      repeat (any_goals (first | assumption | wp_step))
      refine codeAny_mono (codeAny_call_builtin (R := wants (fun r s2 => r = .none ∧ ∃ g tk, s2 = { s with heap := g, toks := tk } ∧ Ph items.size g ∧ ∀ b o, s.heap.get? b = some o → g.get? b = some o) E) F.called_set.init.plain F.entry_set_init (check_set_init_1 ty0 ?_)) fun r2 s2 hr2 => ?_
      · obtain ⟨ol, hol, z1, nl, z2⟩ := hl
        obtain ⟨oc, od, odt, osl⟩ := ol
        simp only at z1 z2
        subst z1; subst z2
        have hol1 : (s.heap.push (set0 w)).get? l = some { cls := .type "tuple", dict := od, data := .seq items nl, slots := osl } := Heap.get?_push_of_some _ hol
        have q8 := F.sub_tuple_set
        have q9 := F.sub_tuple_frozenset
        have qa : (Value.type "tuple" == Value.type "dict") = false := by decide
        have hl1 : (s.heap.push (set0 w)).IsTuple l items := ⟨_, hol1, rfl, nl, rfl⟩
        unfold Builtin.«set.__init__» noKeywords Builtin.Frozenset.updateFrom
        generalize hIt : pyIter = It
        wp_walk
        subst hIt
        refine wpAny_pyIter_tuple hl1 ?_
        refine wpAny_bind (wpAny_runValue ?_)
        have llt : l < s.heap.objs.size := Heap.lt_size hol
        have calm3 : A.in1.in1.in1.handled = none := by simp [calm]
        have lne : l ≠ (s.heap.push (set0 w)).objs.size := by
          rw [Heap.size_push]
          exact Nat.ne_of_lt (Nat.lt_succ_of_lt llt)
        have notin : s.heap.objs.size ∉ [(s.heap.push (set0 w)).objs.size, l] := by
          rw [Heap.size_push]
          simp only [List.mem_cons, List.not_mem_nil, or_false, not_or]
          exact ⟨Nat.ne_of_lt (Nat.lt_succ_self _), Nat.ne_of_gt llt⟩
        refine set_takes ((Walks.tuple calm3 _ l lne items).toS) s.heap.objs.size notin Ph stays (fun i v s3 Q3 E3 _ hv hF k => add i v _ s3 Q3 E3 hv hF k) (items.size - 0) 0 _ (by omega) (Nat.zero_le _)
          ⟨⟨_, Heap.get?_push_size _ rfl, rfl, rfl⟩, (hl1.push _)⟩ (start _ (Heap.get?_push_of_some _ at0)) fun s3 hm hF => ?_
        obtain ⟨g, g2, d2, tk2, os2⟩ := s3
        have eg : g2 = s.gens := hm.gens
        have ed : d2 = s.drawn := hm.drawn
        have eo : os2 = s.os := hm.os
        subst eg; subst ed; subst eo
        show wpAny _ _ _ _ _ _
        refine wpAny_pure ?_
        show wpAny _ _ (ret Value.none) _ _ _
        refine wpAny_pure ⟨rfl, g, tk2, rfl, hF, fun b o e => ?_⟩
        have b0 : b < s.heap.objs.size := Heap.lt_size e
        refine hm.heap b o ?_ (Heap.get?_push_of_some _ (Heap.get?_push_of_some _ e))
        rw [Heap.size_push]
        simp only [List.mem_cons, List.not_mem_nil, or_false, not_or]
        exact ⟨Nat.ne_of_lt b0, Nat.ne_of_lt (Nat.lt_succ_of_lt b0)⟩
      · cases r2 with
        | error e => exact hr2
        | ok f2 =>
          cases f2 with
          | ret v2 =>
            obtain ⟨rfl, g, tk, rfl, hF, kp⟩ := hr2
            repeat (any_goals (first | assumption | wp_step))
            exact h _ _ hF kp
          | _ => exact hr2.elim
    | _ => exact hr.elim
theorem set_of_list {l : Addr} {items : Array Value} {Q : Value → Shared → Prop} (Ph : Nat → Heap → Prop) (calm : A.handled = none) (hl : s.heap.IsList l items) (start : ∀ g, g.get? s.heap.objs.size = some (set0 w) → Ph 0 g)
    (stays : ∀ i g g', Ph i g → (∀ o, g.get? s.heap.objs.size = some o → g'.get? s.heap.objs.size = some o) → Ph i g')
    (add : ∀ i v (A : Around) (s1 : Shared) (Q : Bool → Shared → Prop) (E : Value → Shared → Prop), items[i]? = some v → Ph i s1.heap → (∀ b g, Heap.SameBut s.heap.objs.size s1.heap g → Ph (i + 1) g → Q b { s1 with heap := g, toks := s1.toks + 1 }) → wpAny (model P w) A (setAdd s.heap.objs.size v) Q E s1)
    (h : ∀ (g : Heap) (tk : Nat), Ph items.size g → (∀ b o, s.heap.get? b = some o → g.get? b = some o) → Q (.ref s.heap.objs.size) { s with heap := g, toks := tk }) :
    wpAny (model P w) A (call (.type "set") [.ref l]) Q E s := by
  obtain ⟨c0, tl, q0⟩ := F.called_set.mro
  have q1 := F.called_set.made
  have q2 := F.called_set.sub
  refine wpAny_call (codeAny_of_tree ?_)
  show wpAny _ _ (callAny (.type "set") _) _ _ _
  refine wpAny_pure ⟨Code.quiet_builtin _ (by decide +kernel), codeAny_builtin F.entry_type_call ?_⟩
  rw [Around.under_plain (weight_type_call_type "set" [.ref l] []) rfl]
  have q3 := F.called_set.notType
  have q4 := F.called_set.canCreate
  have q5 := F.typeCall_set_1 (.ref l)
  repeat (any_goals (first | assumption | wp_step))
  refine codeAny_mono (code_set_led1 (.ref l) (E := E) (Q₁ := fun o1 s1 => o1 = .ref s.heap.objs.size ∧ s1 = { s with heap := s.heap.push (set0 w) }) ⟨rfl, rfl⟩) fun r s1 hr => ?_
  cases r with
  | error e => exact hr
  | ok fl =>
    cases fl with
    | ret ob =>
      obtain ⟨rfl, rfl⟩ := hr
      have at0 : (s.heap.push (set0 w)).get? s.heap.objs.size = some (set0 w) := Heap.get?_push_size _ rfl
      have ty0 : Shared.TypeIs { s with heap := s.heap.push (set0 w) } (.ref s.heap.objs.size) "set" := ⟨_, at0, rfl⟩
      have q6 := F.called_set.init.lookup
      have q7 := F.called_set.init.bind (.ref s.heap.objs.size)
      repeat (any_goals (first | assumption | wp_step))
      refine codeAny_mono (codeAny_call_builtin (R := wants (fun r s2 => r = .none ∧ ∃ g tk, s2 = { s with heap := g, toks := tk } ∧ Ph items.size g ∧ ∀ b o, s.heap.get? b = some o → g.get? b = some o) E) F.called_set.init.plain F.entry_set_init (check_set_init_1 ty0 ?_)) fun r2 s2 hr2 => ?_
      · obtain ⟨ol, hol, z1, nl, z2⟩ := hl
        obtain ⟨oc, od, odt, osl⟩ := ol
        simp only at z1 z2
        subst z1; subst z2
        have hol1 : (s.heap.push (set0 w)).get? l = some { cls := .type "list", dict := od, data := .seq items nl, slots := osl } := Heap.get?_push_of_some _ hol
        have q8 := F.sub_list_set
        have q9 := F.sub_list_frozenset
        have qa : (Value.type "list" == Value.type "dict") = false := by decide
        have hl1 : (s.heap.push (set0 w)).IsList l items := ⟨_, hol1, rfl, nl, rfl⟩
        unfold Builtin.«set.__init__» noKeywords Builtin.Frozenset.updateFrom
        generalize hIt : pyIter = It
        wp_walk
        subst hIt
        refine wpAny_pyIter_list hl1 ?_
        refine wpAny_bind (wpAny_runValue ?_)
        have llt : l < s.heap.objs.size := Heap.lt_size hol
        have calm3 : A.in1.in1.in1.handled = none := by simp [calm]
        have lne : l ≠ (s.heap.push (set0 w)).objs.size := by
          rw [Heap.size_push]
          exact Nat.ne_of_lt (Nat.lt_succ_of_lt llt)
        have notin : s.heap.objs.size ∉ [(s.heap.push (set0 w)).objs.size, l] := by
          rw [Heap.size_push]
          simp only [List.mem_cons, List.not_mem_nil, or_false, not_or]
          exact ⟨Nat.ne_of_lt (Nat.lt_succ_self _), Nat.ne_of_gt llt⟩
        refine set_takes ((Walks.list calm3 _ l lne items).toS) s.heap.objs.size notin Ph stays (fun i v s3 Q3 E3 _ hv hF k => add i v _ s3 Q3 E3 hv hF k) (items.size - 0) 0 _ (by omega) (Nat.zero_le _)
          ⟨⟨_, Heap.get?_push_size _ rfl, rfl, rfl⟩, (hl1.push _)⟩ (start _ (Heap.get?_push_of_some _ at0)) fun s3 hm hF => ?_
        obtain ⟨g, g2, d2, tk2, os2⟩ := s3
        have eg : g2 = s.gens := hm.gens
        have ed : d2 = s.drawn := hm.drawn
        have eo : os2 = s.os := hm.os
        subst eg; subst ed; subst eo
        show wpAny _ _ _ _ _ _
        refine wpAny_pure ?_
        show wpAny _ _ (ret Value.none) _ _ _
        refine wpAny_pure ⟨rfl, g, tk2, rfl, hF, fun b o e => ?_⟩
        have b0 : b < s.heap.objs.size := Heap.lt_size e
        refine hm.heap b o ?_ (Heap.get?_push_of_some _ (Heap.get?_push_of_some _ e))
        rw [Heap.size_push]
        simp only [List.mem_cons, List.not_mem_nil, or_false, not_or]
        exact ⟨Nat.ne_of_lt b0, Nat.ne_of_lt (Nat.lt_succ_of_lt b0)⟩
      · cases r2 with
        | error e => exact hr2
        | ok f2 =>
          cases f2 with
          | ret v2 =>
            obtain ⟨rfl, g, tk, rfl, hF, kp⟩ := hr2
            repeat (any_goals (first | assumption | wp_step))
            exact h _ _ hF kp
          | _ => exact hr2.elim
    | _ => exact hr.elim
end
end OP
namespace OP
open PySem PySem.Spec PyProof.Rows L2
theorem nodup_le {α : Type} [DecidableEq α] : ∀ {xs ys : List α}, xs.Nodup → (∀ x ∈ xs, x ∈ ys) → xs.length ≤ ys.length
  | [], _, _, _ => Nat.zero_le _
  | x :: xs, ys, nd, h => by
    obtain ⟨n1, n2⟩ := List.nodup_cons.mp nd
    have hx := h x List.mem_cons_self
    have e := List.length_erase_of_mem hx
    have := nodup_le (ys := ys.erase x) n2 fun z hz => (List.mem_erase_of_ne (fun q => n1 (by rw [← q]; exact hz))).mpr (h z (List.mem_cons_of_mem _ hz))
    have p : 0 < ys.length := List.length_pos_of_mem hx
    rw [List.length_cons]
    omega
section
variable {X : Cx}
/-- set(xs), xs a list of ints -/
def rSetI (K : PySem.W.Frag) (w : World) : List V → Hp → VK → Prop := fun vs H Q => ∃ (l : Addr) (ns : List Int), vs = [V.ref l] ∧ SqL K H l (ns.map V.int) ∧ ns.length < 60 ∧
  ∀ a c, H a = none → c ≤ ns.length → Q (.ref a) (upd H a (SetO w a (fun j => decide (j ∈ ns)) c))
theorem cr_setI (calm : X.calm = true) : CallR X (.type "set") (rSetI X.K X.w) := by
  intro pins s σ H vs us Q I r h
  obtain ⟨l, ns, rfl, hq, hz, q⟩ := h
  rw [Vals.ref1 r]
  obtain ⟨its, rv, pl, _⟩ := I.list hq
  have hlen : its.length = ns.length := by rw [← rv.length, List.length_map]
  refine set_of_list (P := X.prog) (w := X.w) (fun i g => ∃ c, c ≤ i ∧ SetR X.w g s.heap.objs.size (fun j => decide (j ∈ ns.take i)) c) (I.ok.hd calm) pl.isList (fun g e => ⟨0, Nat.le_refl _, setR_new_at e⟩) (fun i g g' ⟨c, hc, R⟩ k => ⟨c, hc, R.at k⟩)
    (fun i v A s1 Q1 E1 hv ⟨c, hc, R⟩ k => ?_) fun g tk ⟨c, hc, R⟩ kp => ?_
  · have hv2 : its[i]? = some v := by simpa using hv
    have hi : i < ns.length := by rw [← hlen]; exact (List.getElem?_eq_some_iff.mp hv2).1
    obtain ⟨u, e1, e2⟩ := rv.get (x := .int ns[i]) (i := i) (by rw [List.getElem?_map, List.getElem?_eq_getElem hi] <;> rfl)
    rw [hv2] at e1
    cases e1
    obtain ⟨t, rfl⟩ := e2
    unfold setAdd
    refine wpAny_holding (wpAny_bind ((intKind X.prog X.w).pyHash (k := ns[i]) (intKind_is _ _ _ _) ?_))
    refine setR_add_hashed (s := { s1 with toks := s1.toks + 1 }) R (by unfold scanBound; omega) fun g sb R2 => k _ g sb ⟨_, ?_, R2.congr fun j => ?_⟩
    · split <;> omega
    · have e : ns.take (i + 1) = ns.take i ++ [ns[i]] := by rw [List.take_add_one, List.getElem?_eq_getElem hi] <;> rfl
      rw [e]
      simp only [List.mem_append, List.mem_singleton, Bool.decide_or]
  · have e : its.toArray.size = ns.length := by rw [List.size_toArray, hlen]
    rw [e] at hc R
    rw [List.take_length] at R
    exact ⟨.ref s.heap.objs.size, _, I.laid (t' := tk) kp (Nat.le_refl _) (setO_new R), rfl, q _ c (I.hok.fresh (Nat.le_refl _)) hc⟩
/-- among these texts -/
def inS (xs : List Str) : Key → Bool
  | .inl _ => false
  | .inr x => decide (x ∈ xs)
/-- set(t), t a tuple of different texts -/
def rSetS (K : PySem.W.Frag) (P : Program) (w : World) : List V → Hp → VK → Prop := fun vs H Q => ∃ (l : Addr) (xs : List Str), vs = [V.ref l] ∧ SqT K H l (xs.map V.str) ∧ xs.length < 60 ∧ xs.Nodup ∧
  ∀ a, H a = none → Q (.ref a) (upd H a (SetK P w a (inS xs) xs.length))
theorem cr_setS (calm : X.calm = true) : CallR X (.type "set") (rSetS X.K X.prog X.w) := by
  intro pins s σ H vs us Q I r h
  obtain ⟨l, xs, rfl, hq, hz, nd, q⟩ := h
  rw [Vals.ref1 r]
  obtain ⟨its, rv, pl, _⟩ := I.tuple hq
  have hlen : its.length = xs.length := by rw [← rv.length, List.length_map]
  refine set_of_tuple (P := X.prog) (w := X.w) (fun i g => i ≤ xs.length ∧ g.SetOf (mixKind X.prog X.w) s.heap.objs.size (inS (xs.take i)) i) (I.ok.hd calm) pl (fun g e => ⟨Nat.zero_le _, ?_⟩) (fun i g g' ⟨hc, R⟩ k => ⟨hc, setOf_at R k⟩)
    (fun i v A s1 Q1 E1 hv ⟨hc, R⟩ k => ?_) fun g tk ⟨hc, R⟩ kp => ?_
  · exact ⟨_, #[], 0, _, e, ⟨rfl, rfl, rfl⟩, rfl, (fun z hz => by simp at hz), (fun z => by cases z <;> simp [inS]), (by decide), (by rfl), rfl⟩
  · have hv2 : its[i]? = some v := by simpa using hv
    have hi : i < xs.length := by rw [← hlen]; exact (List.getElem?_eq_some_iff.mp hv2).1
    obtain ⟨u, e1, e2⟩ := rv.get (x := .str xs[i]) (i := i) (by rw [List.getElem?_map, List.getElem?_eq_getElem hi] <;> rfl)
    rw [hv2] at e1
    cases e1
    have hk : (mixKind X.prog X.w).is (Sum.inr xs[i]) v = true := kV_is (k := Sum.inr xs[i]) e2
    unfold setAdd
    refine wpAny_holding (wpAny_bind ((mixKind X.prog X.w).pyHash hk ?_))
    refine wpAny_setAddHashed_of (s := { s1 with toks := s1.toks + 1 }) hk (key_scan (k := Sum.inr xs[i]) e2) R (by unfold scanBound; omega) fun g sb R2 => k _ g sb ⟨hi, ?_⟩
    have nin : xs[i] ∉ xs.take i := fun z => by
      obtain ⟨m, hm, em⟩ := List.mem_take_iff_getElem.mp z
      have := (List.getElem_inj nd).mp em
      omega
    have e2 : inS (xs.take i) (Sum.inr xs[i]) = false := decide_eq_false nin
    rw [e2] at R2
    have e3 : (fun k' : Key => inS (xs.take i) k' || decide (k' = Sum.inr xs[i])) = inS (xs.take (i + 1)) := funext fun k' => by
      have e : xs.take (i + 1) = xs.take i ++ [xs[i]] := by rw [List.take_add_one, List.getElem?_eq_getElem hi] <;> rfl
      rw [e]
      cases k' with
      | inl n =>
        have z : ¬ ((Sum.inl n : Key) = Sum.inr xs[i]) := fun z => by cases z
        rw [decide_eq_false z] <;> rfl
      | inr x =>
        show (decide (x ∈ xs.take i) || decide ((Sum.inr x : Key) = Sum.inr xs[i])) = decide (x ∈ xs.take i ++ [xs[i]])
        have z : decide ((Sum.inr x : Key) = Sum.inr xs[i]) = decide (x = xs[i]) := decide_eq_decide.mpr ⟨Sum.inr.inj, congrArg _⟩
        rw [z]
        simp only [List.mem_append, List.mem_singleton, Bool.decide_or]
    rw [e3] at R2
    exact R2
  · have e : its.toArray.size = xs.length := by rw [List.size_toArray, hlen]
    rw [e, List.take_length] at R
    exact ⟨.ref s.heap.objs.size, _, I.laid (t' := tk) kp (Nat.le_refl _) (setK_new R), rfl, q _ (I.hok.fresh (Nat.le_refl _))⟩
/-- len(s) of such a set of texts; of a set of tuples -/
def rLenK (P : Program) (w : World) : List V → Hp → VK → Prop := fun vs H Q => ∃ (a : Addr) (S : Key → Bool) (n : Nat), vs = [V.ref a] ∧ H a = some (SetK P w a S n) ∧ n < 1000 ∧ Q (.int n) H
theorem call_lenK : CallR X (.builtin "len") (rLenK X.prog X.w) := by
  intro pins s σ H vs us Q I r h
  obtain ⟨a, S, n, rfl, ha, hn, q⟩ := h
  rw [Vals.ref1 r]
  obtain ⟨o, es, ep, t, ho, hex, hd, _, _, _, hf, e⟩ := setK_get I ha
  exact call_len_set ho hex hd hf (by rw [e]; omega) ⟨.int n, H, I.tok _, ⟨_, by rw [e]⟩, q⟩
def rLenT (P : Program) (w : World) : List V → Hp → VK → Prop := fun vs H Q => ∃ (a : Addr) (L : List (Addr × List Int)), vs = [V.ref a] ∧ H a = some (SetTO P w a L) ∧ ((L.map (·.2)).Nodup → Q (.int L.length) H)
theorem call_lenT : CallR X (.builtin "len") (rLenT X.prog X.w) := by
  intro pins s σ H vs us Q I r h
  obtain ⟨a, L, rfl, ha, q⟩ := h
  rw [Vals.ref1 r]
  have R0 : SetT0 X.prog X.w s.heap a L := (I.hok a _ ha).1
  obtain ⟨es, ep, t, ⟨o, ho, hex, hd⟩, rows, tab, nd, _, _, _, few⟩ := R0.ex
  have e : es.size = L.length := by
    rw [← Array.length_toList, rows]
    unfold rowsOf
    rw [List.length_map]
  have hf : t.fits es.size = true := by
    unfold SetTable.fits SetTable.fill
    rw [tab.dm, tab.sz, e, List.length_map]
    simp
    omega
  exact call_len_set ho hex hd hf (by rw [e]; omega) ⟨.int L.length, H, I.tok _, ⟨_, by rw [e]⟩, q nd⟩
end
end OP
namespace OP
open PySem PySem.Spec PyProof.Rows L2
/-! ### changes that are no If -/
inductive Kind where
  | put | move | add | addslot | rais | lower
deriving DecidableEq
def Kind.src : Kind → Bool
  | .move => true
  | .addslot => true
  | _ => false
def Kind.fld (k : Kind) : Str := if k.src = true then "source" else "value"
def Kind.cls (K : PySem.W.Frag) : Kind → Addr
  | .put => c_Put K
  | .move => c_Move K
  | .add => c_Add K
  | .addslot => c_AddSlot K
  | .rais => c_Raise K
  | .lower => c_Lower K
structure One where
  k : Kind
  s : Nat
  v : Nat
deriving DecidableEq
structure One.Ok (o : One) : Prop where
  s2 : o.s ≤ 2
  v7 : o.v ≤ 7
  v2 : o.k.src = true → o.v ≤ 2
  ne : o.k = .move → o.v ≠ o.s
def One.flds (o : One) : List (Str × V) := [("slot", .int o.s), (o.k.fld, .int o.v)]
def OneAt (K : PySem.W.Frag) (H : Hp) (a : Addr) (o : One) : Prop := ∃ dx, H a = some (.ins (o.k.cls K) dx o.flds)
/-- the two in order, once if they are one -/
def two (a b : Nat) : List Int := if a = b then [(a : Int)] else if a < b then [(a : Int), (b : Int)] else [(b : Int), (a : Int)]
def One.slots (o : One) : List Int := if o.k.src = true then two o.s o.v else [(o.s : Int)]
def One.val (o : One) (xs : List Int) : Int := match o.k with
  | .put => o.v
  | .move => xs.getD o.v 0
  | .add => (xs.getD o.s 0 + o.v) % 8
  | .addslot => (xs.getD o.s 0 + xs.getD o.v 0) % 8
  | .rais => if (o.v : Int) > xs.getD o.s 0 then o.v else xs.getD o.s 0
  | .lower => if (o.v : Int) < xs.getD o.s 0 then o.v else xs.getD o.s 0
def One.app (o : One) (xs : List Int) : List Int := xs.set o.s (o.val xs)
theorem putF2 {f g : Str} {x y : V} (h : f ≠ g) : putF g y (putF f x []) = [(f, x), (g, y)] := by
  show (if f = g then (f, y) :: [] else (f, x) :: putF g y []) = _
  rw [if_neg h] <;> rfl
theorem look1 {f g : Str} {x y : V} : ([(f, x), (g, y)] : List (Str × V)).lookup f = some x := by simp [List.lookup]
theorem look2 {f g : Str} {x y : V} (h : g ≠ f) : ([(f, x), (g, y)] : List (Str × V)).lookup g = some y := by
  have e : (g == f) = false := beq_eq_false_iff_ne.mpr h
  simp [List.lookup, e]
theorem slot_value : ("slot" : Str) ≠ "value" := by decide +kernel
theorem slot_source : ("slot" : Str) ≠ "source" := by decide +kernel
theorem getD_at {xs : List Int} {i : Nat} (h : i < xs.length) : xs[i]? = some (xs.getD i 0) := by rw [List.getD_eq_getElem?_getD, List.getElem?_eq_getElem h] <;> rfl
theorem at_int {xs : List Int} {i : Nat} (h : i < xs.length) : atI (xs.map V.int) (i : Int) = some (.int (xs.getD i 0)) := atI_nat (by rw [List.getElem?_map, getD_at h] <;> rfl)
theorem lt_uniq : ∀ {xs ys : List Int}, xs.Pairwise (· < ·) → ys.Pairwise (· < ·) → (∀ z, z ∈ xs ↔ z ∈ ys) → xs = ys
  | [], [], _, _, _ => rfl
  | [], y :: ys, _, _, h => absurd ((h y).mpr List.mem_cons_self) (by simp)
  | x :: xs, [], _, _, h => absurd ((h x).mp List.mem_cons_self) (by simp)
  | x :: xs, y :: ys, hx, hy, h => by
    obtain ⟨h1, h2⟩ := List.pairwise_cons.mp hx
    obtain ⟨h3, h4⟩ := List.pairwise_cons.mp hy
    have e : x = y := by
      rcases List.mem_cons.mp ((h x).mp List.mem_cons_self) with z | z
      · exact z
      · rcases List.mem_cons.mp ((h y).mpr List.mem_cons_self) with q | q
        · exact q.symm
        · have a := h3 x z
          have b := h1 y q
          omega
    subst e
    rw [lt_uniq h2 h4 fun z => ⟨fun q => ?_, fun q => ?_⟩]
    · rcases List.mem_cons.mp ((h z).mp (List.mem_cons_of_mem _ q)) with r | r
      · have := h1 z q
        omega
      · exact r
    · rcases List.mem_cons.mp ((h z).mpr (List.mem_cons_of_mem _ q)) with r | r
      · have := h3 z q
        omega
      · exact r
theorem two_lt (s v : Nat) : (two s v).Pairwise (· < ·) := by
  unfold two
  split
  · simp
  · split
    · simp; omega
    · simp; omega
theorem two_mem {s v : Nat} {z : Int} : z ∈ two s v ↔ z ∈ [(s : Int), (v : Int)] := by
  unfold two
  split
  · rename_i h
    subst h
    simp
  · split
    · simp
    · simp only [List.mem_cons, List.not_mem_nil, or_false]
      exact or_comm
theorem two_set {s v : Nat} {ns : List Int} (srt : ns.Pairwise (· < ·)) (mem : ∀ z, z ∈ ns ↔ z ∈ [(s : Int), (v : Int)]) : ns = two s v := lt_uniq srt (two_lt s v) fun z => (mem z).trans two_mem.symm
theorem two_perm {s v : Nat} {ns : List Int} (ne : s ≠ v) (pm : ns.Perm [(s : Int), (v : Int)]) (srt : ns.Pairwise (· ≤ ·)) : ns = two s v := by
  have nd : ns.Nodup := pm.nodup_iff.mpr (by simp; omega)
  exact two_set (lt_of_le_nodup ns srt nd) fun z => pm.mem_iff
section
variable {P : Program} {w : World} {K : PySem.W.Frag} {mg : Str → Option Value} {base : Heap}
def spInit (C : Addr) (k : Kind) : Sp := fun vs H Q _ => ∃ (p dx : Addr) (s v : Nat), vs = [.ref p, .int s, .int v] ∧ One.Ok ⟨k, s, v⟩ ∧ H p = some (.ins C dx []) ∧
  ∀ H', (∀ b u, b ≠ p → H b = some u → H' b = some u) → H' p = some (.ins C dx (One.flds ⟨k, s, v⟩)) → Q .non H'
def spSlots (K : PySem.W.Frag) (k : Kind) : Sp := fun vs H Q _ => ∃ (a : Addr) (s v : Nat), vs = [.ref a] ∧ OneAt K H a ⟨k, s, v⟩ ∧ One.Ok ⟨k, s, v⟩ ∧ ∀ r H', Same H H' → H' r = some (.lst ((One.slots ⟨k, s, v⟩).map V.int)) → Q (.ref r) H'
def spApply (K : PySem.W.Frag) (k : Kind) : Sp := fun vs H Q _ => ∃ (a st : Addr) (s v : Nat) (xs : List Int), vs = [.ref a, .ref st] ∧ OneAt K H a ⟨k, s, v⟩ ∧ One.Ok ⟨k, s, v⟩ ∧ H st = some (.tup (xs.map V.int)) ∧ StoreOk xs ∧
  (∀ n ∈ One.slots ⟨k, s, v⟩, n < (xs.length : Int)) ∧ ∀ r H', Same H H' → H' r = some (.tup ((One.app ⟨k, s, v⟩ xs).map V.int)) → Q (.ref r) H'
def spEqOne (K : PySem.W.Frag) (k : Kind) : Sp := fun vs H Q _ => ∃ (a b : Addr) (s v : Nat), vs = [.ref a, .ref b] ∧ OneAt K H a ⟨k, s, v⟩ ∧ OneAt K H b ⟨k, s, v⟩ ∧ Q (.bl true) H
/-! Put -/
theorem sc_Put_init : FnScope ["self", "slot", "value"] ["self", "slot", "value"] (defScope s_Put_init) := ⟨rfl, rfl, rfl, by decide +kernel, rfl, by decide +kernel, by decide +kernel⟩
theorem ok_Put_init (T : Txt K mg) : Ok P w K mg base (a_Put_init K) ["self", "slot", "value"] 3 (spInit (c_Put K) .put) := by
  have GS : Ok P w K mg base (a_check_slot K) _ 2 (spCheck 2) := ok_check_slot T
  have GV : Ok P w K mg base (a_check_value K) _ 2 (spCheck 7) := ok_check_value T
  refine ok_of T.f_Put_init sc_Put_init (fun _ _ _ _ _ _ us hl => match us, hl with | [_, _, _], _ => rfl) (fun vs H Q E h => ?_) (fun cdv A outer s0 H vs Q E hr h => ?_)
  · obtain ⟨p, dx, s, v, rfl, _⟩ := h
    rfl
  · obtain ⟨p, dx, s, v, rfl, ⟨hs, hv, hv2, hne⟩, hp, k⟩ := h
    have b1 : (0 : Int) ≤ (s : Int) := Int.natCast_nonneg _
    have b2 : (s : Int) ≤ 2 := Int.ofNat_le.mpr hs
    have b3 : (0 : Int) ≤ (v : Int) := Int.natCast_nonneg _
    have b4 : (v : Int) ≤ 7 := Int.ofNat_le.mpr hv
    refine ⟨_, pss_cons (ps_expr (pe_c GS hr T.g_check_slot (pa_cons (pv 1) pa_nil))) (pss_cons (ps_expr (pe_c GV hr T.g_check_value (pa_cons (pv 2) pa_nil))) (pss_cons (ps_fld (pv 0) (pv 1) rfl) (pss_one (ps_fld (pv 0) (pv 2) rfl)))), ?_⟩
    refine ⟨_, rfl, s, rfl, b1, b2, _, rfl, v, rfl, b3, b4, _, rfl, _, rfl, p, c_Put K, dx, [], rfl, hp, T.o_Put.cl, T.n_Put_slot, (by show 0 < 1000; decide), _, rfl, _, rfl, p, c_Put K, dx, _, rfl, upd_same, T.o_Put.cl, T.n_Put_value, (by show 1 < 1000; decide), ?_⟩
    refine k _ (fun b u hb e => ?_) ?_
    · rw [upd_ne hb, upd_ne hb]
      exact e
    · rw [upd_same, putF2 slot_value] <;> rfl
theorem sc_Put_slots : FnScope ["self"] ["self"] (defScope s_Put_slots) := ⟨rfl, rfl, rfl, by decide +kernel, rfl, by decide +kernel, by decide +kernel⟩
theorem ok_Put_slots (T : Txt K mg) : Ok P w K mg base (a_Put_slots K) ["self"] 1 (spSlots K .put) := by
  refine ok_of T.f_Put_slots sc_Put_slots (fun _ _ _ _ _ _ us hl => match us, hl with | [_], _ => rfl) (fun vs H Q E h => ?_) (fun cdv A outer s0 H vs Q E hr h => ?_)
  · obtain ⟨a, s, v, rfl, _⟩ := h
    rfl
  · obtain ⟨a, s, v, rfl, ⟨dx, ha⟩, ok, k⟩ := h
    refine ⟨_, pss_one (ps_ret (pe_lst (pa_cons (pe_fld (pv 0) rfl) pa_nil))), ?_⟩
    refine ⟨_, rfl, a, c_Put K, dx, _, _, rfl, ha, T.o_Put.cl, T.n_Put_slot, look1, (by show 1 ≤ sizeLine; decide), fun l hl => ?_⟩
    exact k l _ (same_upd hl) upd_same
theorem sc_Put_eq : FnScope ["self", "other"] ["self", "other"] (defScope s_Put_eq) := ⟨rfl, rfl, rfl, by decide +kernel, rfl, by decide +kernel, by decide +kernel⟩
theorem kit_Put {K : PySem.W.Frag} : PySem.W.kitOne K (.ref (c_Put K)) (.ref (c_Put K)) = some true := by
  unfold PySem.W.kitOne
  rw [if_pos (by simp)]
theorem ok_Put_eq (T : Txt K mg) : Ok P w K mg base (a_Put_eq K) ["self", "other"] 1 (spEqOne K .put) := by
  refine ok_of T.f_Put_eq sc_Put_eq (fun _ _ _ _ _ _ us hl => match us, hl with | [_, _], _ => rfl) (fun vs H Q E h => ?_) (fun cdv A outer s0 H vs Q E hr h => ?_)
  · obtain ⟨a, b, s, v, rfl, _⟩ := h
    rfl
  · obtain ⟨a, b, s, v, rfl, ⟨dx, ha⟩, ⟨dy, hb⟩, k⟩ := h
    refine ⟨_, pss_one (ps_ret (pe_and (pe_callB call_isi (by rfl) T.z_isinstance (by decide +kernel) (pa_cons (pv 1) (pa_cons (pe_glob (v := .ref (c_Put K)) (by rfl) T.g_Put rfl) pa_nil)))
      (pe_and (pe_cmpR op_eq (pe_fld (pv 0) rfl) (pe_fld (pv 1) rfl) (nomark _)) (pe_one (pe_cmpR op_eq (pe_fld (pv 0) rfl) (pe_fld (pv 1) rfl) (nomark _)))))), ?_⟩
    refine ⟨_, rfl, _, _, _, _, true, rfl, .own (c_Put K), T.o_Put.ty hb, kit_Put, true, rfl, iteT ?_⟩
    refine ⟨_, rfl, a, c_Put K, dx, _, _, rfl, ha, T.o_Put.cl, T.n_Put_slot, look1, _, rfl, b, c_Put K, dy, _, _, rfl, hb, T.o_Put.cl, T.n_Put_slot, look1, rfl, true, congrArg V.bl (decide_eq_true rfl), iteT ?_⟩
    refine ⟨_, rfl, a, c_Put K, dx, _, _, rfl, ha, T.o_Put.cl, T.n_Put_value, look2 slot_value.symm, _, rfl, b, c_Put K, dy, _, _, rfl, hb, T.o_Put.cl, T.n_Put_value, look2 slot_value.symm, rfl, ?_⟩
    have e : decide (V.int (v : Int) = V.int (v : Int)) = true := decide_eq_true rfl
    show Q (.bl (decide (V.int (v : Int) = V.int (v : Int)))) H
    rw [e]
    exact k
/-! Move -/
theorem sc_Move_init : FnScope ["self", "slot", "source"] ["self", "slot", "source"] (defScope s_Move_init) := ⟨rfl, rfl, rfl, by decide +kernel, rfl, by decide +kernel, by decide +kernel⟩
theorem ok_Move_init (T : Txt K mg) : Ok P w K mg base (a_Move_init K) ["self", "slot", "source"] 3 (spInit (c_Move K) .move) := by
  have GS : Ok P w K mg base (a_check_slot K) _ 2 (spCheck 2) := ok_check_slot T
  have GV : Ok P w K mg base (a_check_value K) _ 2 (spCheck 7) := ok_check_value T
  refine ok_of T.f_Move_init sc_Move_init (fun _ _ _ _ _ _ us hl => match us, hl with | [_, _, _], _ => rfl) (fun vs H Q E h => ?_) (fun cdv A outer s0 H vs Q E hr h => ?_)
  · obtain ⟨p, dx, s, v, rfl, _⟩ := h
    rfl
  · obtain ⟨p, dx, s, v, rfl, ⟨hs, hv, hv2, hne⟩, hp, k⟩ := h
    have b1 : (0 : Int) ≤ (s : Int) := Int.natCast_nonneg _
    have b2 : (s : Int) ≤ 2 := Int.ofNat_le.mpr hs
    have b3 : (0 : Int) ≤ (v : Int) := Int.natCast_nonneg _
    have b4 : (v : Int) ≤ 7 := Int.ofNat_le.mpr hv
    have b5 : (v : Int) ≤ 2 := Int.ofNat_le.mpr (hv2 rfl)
    have ne : ¬ (V.int (s : Int) = V.int (v : Int)) := fun z => hne rfl (Int.ofNat.inj (V.int.inj z)).symm
    refine ⟨_, pss_cons (ps_expr (pe_c GS hr T.g_check_slot (pa_cons (pv 1) pa_nil))) (pss_cons (ps_expr (pe_c GS hr T.g_check_slot (pa_cons (pv 2) pa_nil))) (pss_cons (ps_if (pt_cmpR op_eq (pv 1) (pv 2) (nomark _)) (pss_one ps_never) pss_nil) (pss_cons (ps_fld (pv 0) (pv 1) rfl) (pss_one (ps_fld (pv 0) (pv 2) rfl))))), ?_⟩
    refine ⟨_, rfl, s, rfl, b1, b2, _, rfl, v, rfl, b3, b5, _, rfl, _, rfl, rfl, false, congrArg V.bl (decide_eq_false ne), iteF ?_⟩
    refine ⟨_, rfl, _, rfl, p, c_Move K, dx, [], rfl, hp, T.o_Move.cl, T.n_Move_slot, (by show 0 < 1000; decide), _, rfl, _, rfl, p, c_Move K, dx, _, rfl, upd_same, T.o_Move.cl, T.n_Move_source, (by show 1 < 1000; decide), ?_⟩
    refine k _ (fun b u hb e => ?_) ?_
    · rw [upd_ne hb, upd_ne hb]
      exact e
    · rw [upd_same, putF2 slot_source] <;> rfl
theorem sc_Move_slots : FnScope ["self"] ["self"] (defScope s_Move_slots) := ⟨rfl, rfl, rfl, by decide +kernel, rfl, by decide +kernel, by decide +kernel⟩
theorem ok_Move_slots (T : Txt K mg) : Ok P w K mg base (a_Move_slots K) ["self"] 1 (spSlots K .move) := by
  refine ok_of T.f_Move_slots sc_Move_slots (fun _ _ _ _ _ _ us hl => match us, hl with | [_], _ => rfl) (fun vs H Q E h => ?_) (fun cdv A outer s0 H vs Q E hr h => ?_)
  · obtain ⟨a, s, v, rfl, _⟩ := h
    rfl
  · obtain ⟨a, s, v, rfl, ⟨dx, ha⟩, ok, k⟩ := h
    refine ⟨_, pss_one (ps_ret (pe_callB cr_sorted (by rfl) T.z_sorted (by decide +kernel) (pa_cons (pe_lst (pa_cons (pe_fld (pv 0) rfl) (pa_cons (pe_fld (pv 0) rfl) pa_nil))) pa_nil))), ?_⟩
    refine ⟨_, rfl, a, c_Move K, dx, _, _, rfl, ha, T.o_Move.cl, T.n_Move_slot, look1, _, rfl, a, c_Move K, dx, _, _, rfl, ha, T.o_Move.cl, T.n_Move_source, look2 slot_source.symm, (by show 2 ≤ sizeLine; decide), fun l hl => ?_⟩
    refine ⟨l, [(s : Int), (v : Int)], rfl, SqL.of upd_same, (by show 2 < 64; decide), fun ns p pm srt hp => ?_⟩
    refine k p _ ((same_upd hl).trans (same_upd hp)) ?_
    have e : ns = two s v := two_perm (fun z => ok.ne rfl z.symm) pm srt
    rw [upd_same, e] <;> rfl
theorem sc_Move_eq : FnScope ["self", "other"] ["self", "other"] (defScope s_Move_eq) := ⟨rfl, rfl, rfl, by decide +kernel, rfl, by decide +kernel, by decide +kernel⟩
theorem kit_Move {K : PySem.W.Frag} : PySem.W.kitOne K (.ref (c_Move K)) (.ref (c_Move K)) = some true := by
  unfold PySem.W.kitOne
  rw [if_pos (by simp)]
theorem ok_Move_eq (T : Txt K mg) : Ok P w K mg base (a_Move_eq K) ["self", "other"] 1 (spEqOne K .move) := by
  refine ok_of T.f_Move_eq sc_Move_eq (fun _ _ _ _ _ _ us hl => match us, hl with | [_, _], _ => rfl) (fun vs H Q E h => ?_) (fun cdv A outer s0 H vs Q E hr h => ?_)
  · obtain ⟨a, b, s, v, rfl, _⟩ := h
    rfl
  · obtain ⟨a, b, s, v, rfl, ⟨dx, ha⟩, ⟨dy, hb⟩, k⟩ := h
    refine ⟨_, pss_one (ps_ret (pe_and (pe_callB call_isi (by rfl) T.z_isinstance (by decide +kernel) (pa_cons (pv 1) (pa_cons (pe_glob (v := .ref (c_Move K)) (by rfl) T.g_Move rfl) pa_nil)))
      (pe_and (pe_cmpR op_eq (pe_fld (pv 0) rfl) (pe_fld (pv 1) rfl) (nomark _)) (pe_one (pe_cmpR op_eq (pe_fld (pv 0) rfl) (pe_fld (pv 1) rfl) (nomark _)))))), ?_⟩
    refine ⟨_, rfl, _, _, _, _, true, rfl, .own (c_Move K), T.o_Move.ty hb, kit_Move, true, rfl, iteT ?_⟩
    refine ⟨_, rfl, a, c_Move K, dx, _, _, rfl, ha, T.o_Move.cl, T.n_Move_slot, look1, _, rfl, b, c_Move K, dy, _, _, rfl, hb, T.o_Move.cl, T.n_Move_slot, look1, rfl, true, congrArg V.bl (decide_eq_true rfl), iteT ?_⟩
    refine ⟨_, rfl, a, c_Move K, dx, _, _, rfl, ha, T.o_Move.cl, T.n_Move_source, look2 slot_source.symm, _, rfl, b, c_Move K, dy, _, _, rfl, hb, T.o_Move.cl, T.n_Move_source, look2 slot_source.symm, rfl, ?_⟩
    have e : decide (V.int (v : Int) = V.int (v : Int)) = true := decide_eq_true rfl
    show Q (.bl (decide (V.int (v : Int) = V.int (v : Int)))) H
    rw [e]
    exact k
/-! Add -/
theorem sc_Add_init : FnScope ["self", "slot", "value"] ["self", "slot", "value"] (defScope s_Add_init) := ⟨rfl, rfl, rfl, by decide +kernel, rfl, by decide +kernel, by decide +kernel⟩
theorem ok_Add_init (T : Txt K mg) : Ok P w K mg base (a_Add_init K) ["self", "slot", "value"] 3 (spInit (c_Add K) .add) := by
  have GS : Ok P w K mg base (a_check_slot K) _ 2 (spCheck 2) := ok_check_slot T
  have GV : Ok P w K mg base (a_check_value K) _ 2 (spCheck 7) := ok_check_value T
  refine ok_of T.f_Add_init sc_Add_init (fun _ _ _ _ _ _ us hl => match us, hl with | [_, _, _], _ => rfl) (fun vs H Q E h => ?_) (fun cdv A outer s0 H vs Q E hr h => ?_)
  · obtain ⟨p, dx, s, v, rfl, _⟩ := h
    rfl
  · obtain ⟨p, dx, s, v, rfl, ⟨hs, hv, hv2, hne⟩, hp, k⟩ := h
    have b1 : (0 : Int) ≤ (s : Int) := Int.natCast_nonneg _
    have b2 : (s : Int) ≤ 2 := Int.ofNat_le.mpr hs
    have b3 : (0 : Int) ≤ (v : Int) := Int.natCast_nonneg _
    have b4 : (v : Int) ≤ 7 := Int.ofNat_le.mpr hv
    refine ⟨_, pss_cons (ps_expr (pe_c GS hr T.g_check_slot (pa_cons (pv 1) pa_nil))) (pss_cons (ps_expr (pe_c GV hr T.g_check_value (pa_cons (pv 2) pa_nil))) (pss_cons (ps_fld (pv 0) (pv 1) rfl) (pss_one (ps_fld (pv 0) (pv 2) rfl)))), ?_⟩
    refine ⟨_, rfl, s, rfl, b1, b2, _, rfl, v, rfl, b3, b4, _, rfl, _, rfl, p, c_Add K, dx, [], rfl, hp, T.o_Add.cl, T.n_Add_slot, (by show 0 < 1000; decide), _, rfl, _, rfl, p, c_Add K, dx, _, rfl, upd_same, T.o_Add.cl, T.n_Add_value, (by show 1 < 1000; decide), ?_⟩
    refine k _ (fun b u hb e => ?_) ?_
    · rw [upd_ne hb, upd_ne hb]
      exact e
    · rw [upd_same, putF2 slot_value] <;> rfl
theorem sc_Add_slots : FnScope ["self"] ["self"] (defScope s_Add_slots) := ⟨rfl, rfl, rfl, by decide +kernel, rfl, by decide +kernel, by decide +kernel⟩
theorem ok_Add_slots (T : Txt K mg) : Ok P w K mg base (a_Add_slots K) ["self"] 1 (spSlots K .add) := by
  refine ok_of T.f_Add_slots sc_Add_slots (fun _ _ _ _ _ _ us hl => match us, hl with | [_], _ => rfl) (fun vs H Q E h => ?_) (fun cdv A outer s0 H vs Q E hr h => ?_)
  · obtain ⟨a, s, v, rfl, _⟩ := h
    rfl
  · obtain ⟨a, s, v, rfl, ⟨dx, ha⟩, ok, k⟩ := h
    refine ⟨_, pss_one (ps_ret (pe_lst (pa_cons (pe_fld (pv 0) rfl) pa_nil))), ?_⟩
    refine ⟨_, rfl, a, c_Add K, dx, _, _, rfl, ha, T.o_Add.cl, T.n_Add_slot, look1, (by show 1 ≤ sizeLine; decide), fun l hl => ?_⟩
    exact k l _ (same_upd hl) upd_same
theorem sc_Add_eq : FnScope ["self", "other"] ["self", "other"] (defScope s_Add_eq) := ⟨rfl, rfl, rfl, by decide +kernel, rfl, by decide +kernel, by decide +kernel⟩
theorem kit_Add {K : PySem.W.Frag} : PySem.W.kitOne K (.ref (c_Add K)) (.ref (c_Add K)) = some true := by
  unfold PySem.W.kitOne
  rw [if_pos (by simp)]
theorem ok_Add_eq (T : Txt K mg) : Ok P w K mg base (a_Add_eq K) ["self", "other"] 1 (spEqOne K .add) := by
  refine ok_of T.f_Add_eq sc_Add_eq (fun _ _ _ _ _ _ us hl => match us, hl with | [_, _], _ => rfl) (fun vs H Q E h => ?_) (fun cdv A outer s0 H vs Q E hr h => ?_)
  · obtain ⟨a, b, s, v, rfl, _⟩ := h
    rfl
  · obtain ⟨a, b, s, v, rfl, ⟨dx, ha⟩, ⟨dy, hb⟩, k⟩ := h
    refine ⟨_, pss_one (ps_ret (pe_and (pe_callB call_isi (by rfl) T.z_isinstance (by decide +kernel) (pa_cons (pv 1) (pa_cons (pe_glob (v := .ref (c_Add K)) (by rfl) T.g_Add rfl) pa_nil)))
      (pe_and (pe_cmpR op_eq (pe_fld (pv 0) rfl) (pe_fld (pv 1) rfl) (nomark _)) (pe_one (pe_cmpR op_eq (pe_fld (pv 0) rfl) (pe_fld (pv 1) rfl) (nomark _)))))), ?_⟩
    refine ⟨_, rfl, _, _, _, _, true, rfl, .own (c_Add K), T.o_Add.ty hb, kit_Add, true, rfl, iteT ?_⟩
    refine ⟨_, rfl, a, c_Add K, dx, _, _, rfl, ha, T.o_Add.cl, T.n_Add_slot, look1, _, rfl, b, c_Add K, dy, _, _, rfl, hb, T.o_Add.cl, T.n_Add_slot, look1, rfl, true, congrArg V.bl (decide_eq_true rfl), iteT ?_⟩
    refine ⟨_, rfl, a, c_Add K, dx, _, _, rfl, ha, T.o_Add.cl, T.n_Add_value, look2 slot_value.symm, _, rfl, b, c_Add K, dy, _, _, rfl, hb, T.o_Add.cl, T.n_Add_value, look2 slot_value.symm, rfl, ?_⟩
    have e : decide (V.int (v : Int) = V.int (v : Int)) = true := decide_eq_true rfl
    show Q (.bl (decide (V.int (v : Int) = V.int (v : Int)))) H
    rw [e]
    exact k
/-! AddSlot -/
theorem sc_AddSlot_init : FnScope ["self", "slot", "source"] ["self", "slot", "source"] (defScope s_AddSlot_init) := ⟨rfl, rfl, rfl, by decide +kernel, rfl, by decide +kernel, by decide +kernel⟩
theorem ok_AddSlot_init (T : Txt K mg) : Ok P w K mg base (a_AddSlot_init K) ["self", "slot", "source"] 3 (spInit (c_AddSlot K) .addslot) := by
  have GS : Ok P w K mg base (a_check_slot K) _ 2 (spCheck 2) := ok_check_slot T
  have GV : Ok P w K mg base (a_check_value K) _ 2 (spCheck 7) := ok_check_value T
  refine ok_of T.f_AddSlot_init sc_AddSlot_init (fun _ _ _ _ _ _ us hl => match us, hl with | [_, _, _], _ => rfl) (fun vs H Q E h => ?_) (fun cdv A outer s0 H vs Q E hr h => ?_)
  · obtain ⟨p, dx, s, v, rfl, _⟩ := h
    rfl
  · obtain ⟨p, dx, s, v, rfl, ⟨hs, hv, hv2, hne⟩, hp, k⟩ := h
    have b1 : (0 : Int) ≤ (s : Int) := Int.natCast_nonneg _
    have b2 : (s : Int) ≤ 2 := Int.ofNat_le.mpr hs
    have b3 : (0 : Int) ≤ (v : Int) := Int.natCast_nonneg _
    have b4 : (v : Int) ≤ 7 := Int.ofNat_le.mpr hv
    have b5 : (v : Int) ≤ 2 := Int.ofNat_le.mpr (hv2 rfl)
    refine ⟨_, pss_cons (ps_expr (pe_c GS hr T.g_check_slot (pa_cons (pv 1) pa_nil))) (pss_cons (ps_expr (pe_c GS hr T.g_check_slot (pa_cons (pv 2) pa_nil))) (pss_cons (ps_fld (pv 0) (pv 1) rfl) (pss_one (ps_fld (pv 0) (pv 2) rfl)))), ?_⟩
    refine ⟨_, rfl, s, rfl, b1, b2, _, rfl, v, rfl, b3, b5, _, rfl, _, rfl, p, c_AddSlot K, dx, [], rfl, hp, T.o_AddSlot.cl, T.n_AddSlot_slot, (by show 0 < 1000; decide), _, rfl, _, rfl, p, c_AddSlot K, dx, _, rfl, upd_same, T.o_AddSlot.cl, T.n_AddSlot_source, (by show 1 < 1000; decide), ?_⟩
    refine k _ (fun b u hb e => ?_) ?_
    · rw [upd_ne hb, upd_ne hb]
      exact e
    · rw [upd_same, putF2 slot_source] <;> rfl
theorem sc_AddSlot_slots : FnScope ["self"] ["self"] (defScope s_AddSlot_slots) := ⟨rfl, rfl, rfl, by decide +kernel, rfl, by decide +kernel, by decide +kernel⟩
theorem ok_AddSlot_slots (T : Txt K mg) : Ok P w K mg base (a_AddSlot_slots K) ["self"] 1 (spSlots K .addslot) := by
  refine ok_of T.f_AddSlot_slots sc_AddSlot_slots (fun _ _ _ _ _ _ us hl => match us, hl with | [_], _ => rfl) (fun vs H Q E h => ?_) (fun cdv A outer s0 H vs Q E hr h => ?_)
  · obtain ⟨a, s, v, rfl, _⟩ := h
    rfl
  · obtain ⟨a, s, v, rfl, ⟨dx, ha⟩, ok, k⟩ := h
    refine ⟨_, pss_one (ps_ret (pe_callB (cr_sortedSet rfl) (by rfl) T.z_sorted (by decide +kernel) (pa_cons (pe_callTy (cr_setI rfl) (by rfl) T.z_set (by decide +kernel) (pa_cons (pe_lst (pa_cons (pe_fld (pv 0) rfl) (pa_cons (pe_fld (pv 0) rfl) pa_nil))) pa_nil)) pa_nil))), ?_⟩
    refine ⟨_, rfl, a, c_AddSlot K, dx, _, _, rfl, ha, T.o_AddSlot.cl, T.n_AddSlot_slot, look1, _, rfl, a, c_AddSlot K, dx, _, _, rfl, ha, T.o_AddSlot.cl, T.n_AddSlot_source, look2 slot_source.symm, (by show 2 ≤ sizeLine; decide), fun l hl => ?_⟩
    refine ⟨l, [(s : Int), (v : Int)], rfl, SqL.of upd_same, (by show 2 < 60; decide), fun q c hq hc => ?_⟩
    refine ⟨q, _, c, rfl, upd_same, Nat.lt_of_le_of_lt hc (by show 2 < 64; decide), fun ns p srt mem _ hp => ?_⟩
    refine k p _ (((same_upd hl).trans (same_upd hq)).trans (same_upd hp)) ?_
    have e : ns = two s v := two_set srt fun z => (mem z).trans decide_eq_true_iff
    rw [upd_same, e] <;> rfl
theorem sc_AddSlot_eq : FnScope ["self", "other"] ["self", "other"] (defScope s_AddSlot_eq) := ⟨rfl, rfl, rfl, by decide +kernel, rfl, by decide +kernel, by decide +kernel⟩
theorem kit_AddSlot {K : PySem.W.Frag} : PySem.W.kitOne K (.ref (c_AddSlot K)) (.ref (c_AddSlot K)) = some true := by
  unfold PySem.W.kitOne
  rw [if_pos (by simp)]
theorem ok_AddSlot_eq (T : Txt K mg) : Ok P w K mg base (a_AddSlot_eq K) ["self", "other"] 1 (spEqOne K .addslot) := by
  refine ok_of T.f_AddSlot_eq sc_AddSlot_eq (fun _ _ _ _ _ _ us hl => match us, hl with | [_, _], _ => rfl) (fun vs H Q E h => ?_) (fun cdv A outer s0 H vs Q E hr h => ?_)
  · obtain ⟨a, b, s, v, rfl, _⟩ := h
    rfl
  · obtain ⟨a, b, s, v, rfl, ⟨dx, ha⟩, ⟨dy, hb⟩, k⟩ := h
    refine ⟨_, pss_one (ps_ret (pe_and (pe_callB call_isi (by rfl) T.z_isinstance (by decide +kernel) (pa_cons (pv 1) (pa_cons (pe_glob (v := .ref (c_AddSlot K)) (by rfl) T.g_AddSlot rfl) pa_nil)))
      (pe_and (pe_cmpR op_eq (pe_fld (pv 0) rfl) (pe_fld (pv 1) rfl) (nomark _)) (pe_one (pe_cmpR op_eq (pe_fld (pv 0) rfl) (pe_fld (pv 1) rfl) (nomark _)))))), ?_⟩
    refine ⟨_, rfl, _, _, _, _, true, rfl, .own (c_AddSlot K), T.o_AddSlot.ty hb, kit_AddSlot, true, rfl, iteT ?_⟩
    refine ⟨_, rfl, a, c_AddSlot K, dx, _, _, rfl, ha, T.o_AddSlot.cl, T.n_AddSlot_slot, look1, _, rfl, b, c_AddSlot K, dy, _, _, rfl, hb, T.o_AddSlot.cl, T.n_AddSlot_slot, look1, rfl, true, congrArg V.bl (decide_eq_true rfl), iteT ?_⟩
    refine ⟨_, rfl, a, c_AddSlot K, dx, _, _, rfl, ha, T.o_AddSlot.cl, T.n_AddSlot_source, look2 slot_source.symm, _, rfl, b, c_AddSlot K, dy, _, _, rfl, hb, T.o_AddSlot.cl, T.n_AddSlot_source, look2 slot_source.symm, rfl, ?_⟩
    have e : decide (V.int (v : Int) = V.int (v : Int)) = true := decide_eq_true rfl
    show Q (.bl (decide (V.int (v : Int) = V.int (v : Int)))) H
    rw [e]
    exact k
/-! Raise -/
theorem sc_Raise_init : FnScope ["self", "slot", "value"] ["self", "slot", "value"] (defScope s_Raise_init) := ⟨rfl, rfl, rfl, by decide +kernel, rfl, by decide +kernel, by decide +kernel⟩
theorem ok_Raise_init (T : Txt K mg) : Ok P w K mg base (a_Raise_init K) ["self", "slot", "value"] 3 (spInit (c_Raise K) .rais) := by
  have GS : Ok P w K mg base (a_check_slot K) _ 2 (spCheck 2) := ok_check_slot T
  have GV : Ok P w K mg base (a_check_value K) _ 2 (spCheck 7) := ok_check_value T
  refine ok_of T.f_Raise_init sc_Raise_init (fun _ _ _ _ _ _ us hl => match us, hl with | [_, _, _], _ => rfl) (fun vs H Q E h => ?_) (fun cdv A outer s0 H vs Q E hr h => ?_)
  · obtain ⟨p, dx, s, v, rfl, _⟩ := h
    rfl
  · obtain ⟨p, dx, s, v, rfl, ⟨hs, hv, hv2, hne⟩, hp, k⟩ := h
    have b1 : (0 : Int) ≤ (s : Int) := Int.natCast_nonneg _
    have b2 : (s : Int) ≤ 2 := Int.ofNat_le.mpr hs
    have b3 : (0 : Int) ≤ (v : Int) := Int.natCast_nonneg _
    have b4 : (v : Int) ≤ 7 := Int.ofNat_le.mpr hv
    refine ⟨_, pss_cons (ps_expr (pe_c GS hr T.g_check_slot (pa_cons (pv 1) pa_nil))) (pss_cons (ps_expr (pe_c GV hr T.g_check_value (pa_cons (pv 2) pa_nil))) (pss_cons (ps_fld (pv 0) (pv 1) rfl) (pss_one (ps_fld (pv 0) (pv 2) rfl)))), ?_⟩
    refine ⟨_, rfl, s, rfl, b1, b2, _, rfl, v, rfl, b3, b4, _, rfl, _, rfl, p, c_Raise K, dx, [], rfl, hp, T.o_Raise.cl, T.n_Raise_slot, (by show 0 < 1000; decide), _, rfl, _, rfl, p, c_Raise K, dx, _, rfl, upd_same, T.o_Raise.cl, T.n_Raise_value, (by show 1 < 1000; decide), ?_⟩
    refine k _ (fun b u hb e => ?_) ?_
    · rw [upd_ne hb, upd_ne hb]
      exact e
    · rw [upd_same, putF2 slot_value] <;> rfl
theorem sc_Raise_slots : FnScope ["self"] ["self"] (defScope s_Raise_slots) := ⟨rfl, rfl, rfl, by decide +kernel, rfl, by decide +kernel, by decide +kernel⟩
theorem ok_Raise_slots (T : Txt K mg) : Ok P w K mg base (a_Raise_slots K) ["self"] 1 (spSlots K .rais) := by
  refine ok_of T.f_Raise_slots sc_Raise_slots (fun _ _ _ _ _ _ us hl => match us, hl with | [_], _ => rfl) (fun vs H Q E h => ?_) (fun cdv A outer s0 H vs Q E hr h => ?_)
  · obtain ⟨a, s, v, rfl, _⟩ := h
    rfl
  · obtain ⟨a, s, v, rfl, ⟨dx, ha⟩, ok, k⟩ := h
    refine ⟨_, pss_one (ps_ret (pe_lst (pa_cons (pe_fld (pv 0) rfl) pa_nil))), ?_⟩
    refine ⟨_, rfl, a, c_Raise K, dx, _, _, rfl, ha, T.o_Raise.cl, T.n_Raise_slot, look1, (by show 1 ≤ sizeLine; decide), fun l hl => ?_⟩
    exact k l _ (same_upd hl) upd_same
theorem sc_Raise_eq : FnScope ["self", "other"] ["self", "other"] (defScope s_Raise_eq) := ⟨rfl, rfl, rfl, by decide +kernel, rfl, by decide +kernel, by decide +kernel⟩
theorem kit_Raise {K : PySem.W.Frag} : PySem.W.kitOne K (.ref (c_Raise K)) (.ref (c_Raise K)) = some true := by
  unfold PySem.W.kitOne
  rw [if_pos (by simp)]
theorem ok_Raise_eq (T : Txt K mg) : Ok P w K mg base (a_Raise_eq K) ["self", "other"] 1 (spEqOne K .rais) := by
  refine ok_of T.f_Raise_eq sc_Raise_eq (fun _ _ _ _ _ _ us hl => match us, hl with | [_, _], _ => rfl) (fun vs H Q E h => ?_) (fun cdv A outer s0 H vs Q E hr h => ?_)
  · obtain ⟨a, b, s, v, rfl, _⟩ := h
    rfl
  · obtain ⟨a, b, s, v, rfl, ⟨dx, ha⟩, ⟨dy, hb⟩, k⟩ := h
    refine ⟨_, pss_one (ps_ret (pe_and (pe_callB call_isi (by rfl) T.z_isinstance (by decide +kernel) (pa_cons (pv 1) (pa_cons (pe_glob (v := .ref (c_Raise K)) (by rfl) T.g_Raise rfl) pa_nil)))
      (pe_and (pe_cmpR op_eq (pe_fld (pv 0) rfl) (pe_fld (pv 1) rfl) (nomark _)) (pe_one (pe_cmpR op_eq (pe_fld (pv 0) rfl) (pe_fld (pv 1) rfl) (nomark _)))))), ?_⟩
    refine ⟨_, rfl, _, _, _, _, true, rfl, .own (c_Raise K), T.o_Raise.ty hb, kit_Raise, true, rfl, iteT ?_⟩
    refine ⟨_, rfl, a, c_Raise K, dx, _, _, rfl, ha, T.o_Raise.cl, T.n_Raise_slot, look1, _, rfl, b, c_Raise K, dy, _, _, rfl, hb, T.o_Raise.cl, T.n_Raise_slot, look1, rfl, true, congrArg V.bl (decide_eq_true rfl), iteT ?_⟩
    refine ⟨_, rfl, a, c_Raise K, dx, _, _, rfl, ha, T.o_Raise.cl, T.n_Raise_value, look2 slot_value.symm, _, rfl, b, c_Raise K, dy, _, _, rfl, hb, T.o_Raise.cl, T.n_Raise_value, look2 slot_value.symm, rfl, ?_⟩
    have e : decide (V.int (v : Int) = V.int (v : Int)) = true := decide_eq_true rfl
    show Q (.bl (decide (V.int (v : Int) = V.int (v : Int)))) H
    rw [e]
    exact k
/-! Lower -/
theorem sc_Lower_init : FnScope ["self", "slot", "value"] ["self", "slot", "value"] (defScope s_Lower_init) := ⟨rfl, rfl, rfl, by decide +kernel, rfl, by decide +kernel, by decide +kernel⟩
theorem ok_Lower_init (T : Txt K mg) : Ok P w K mg base (a_Lower_init K) ["self", "slot", "value"] 3 (spInit (c_Lower K) .lower) := by
  have GS : Ok P w K mg base (a_check_slot K) _ 2 (spCheck 2) := ok_check_slot T
  have GV : Ok P w K mg base (a_check_value K) _ 2 (spCheck 7) := ok_check_value T
  refine ok_of T.f_Lower_init sc_Lower_init (fun _ _ _ _ _ _ us hl => match us, hl with | [_, _, _], _ => rfl) (fun vs H Q E h => ?_) (fun cdv A outer s0 H vs Q E hr h => ?_)
  · obtain ⟨p, dx, s, v, rfl, _⟩ := h
    rfl
  · obtain ⟨p, dx, s, v, rfl, ⟨hs, hv, hv2, hne⟩, hp, k⟩ := h
    have b1 : (0 : Int) ≤ (s : Int) := Int.natCast_nonneg _
    have b2 : (s : Int) ≤ 2 := Int.ofNat_le.mpr hs
    have b3 : (0 : Int) ≤ (v : Int) := Int.natCast_nonneg _
    have b4 : (v : Int) ≤ 7 := Int.ofNat_le.mpr hv
    refine ⟨_, pss_cons (ps_expr (pe_c GS hr T.g_check_slot (pa_cons (pv 1) pa_nil))) (pss_cons (ps_expr (pe_c GV hr T.g_check_value (pa_cons (pv 2) pa_nil))) (pss_cons (ps_fld (pv 0) (pv 1) rfl) (pss_one (ps_fld (pv 0) (pv 2) rfl)))), ?_⟩
    refine ⟨_, rfl, s, rfl, b1, b2, _, rfl, v, rfl, b3, b4, _, rfl, _, rfl, p, c_Lower K, dx, [], rfl, hp, T.o_Lower.cl, T.n_Lower_slot, (by show 0 < 1000; decide), _, rfl, _, rfl, p, c_Lower K, dx, _, rfl, upd_same, T.o_Lower.cl, T.n_Lower_value, (by show 1 < 1000; decide), ?_⟩
    refine k _ (fun b u hb e => ?_) ?_
    · rw [upd_ne hb, upd_ne hb]
      exact e
    · rw [upd_same, putF2 slot_value] <;> rfl
theorem sc_Lower_slots : FnScope ["self"] ["self"] (defScope s_Lower_slots) := ⟨rfl, rfl, rfl, by decide +kernel, rfl, by decide +kernel, by decide +kernel⟩
theorem ok_Lower_slots (T : Txt K mg) : Ok P w K mg base (a_Lower_slots K) ["self"] 1 (spSlots K .lower) := by
  refine ok_of T.f_Lower_slots sc_Lower_slots (fun _ _ _ _ _ _ us hl => match us, hl with | [_], _ => rfl) (fun vs H Q E h => ?_) (fun cdv A outer s0 H vs Q E hr h => ?_)
  · obtain ⟨a, s, v, rfl, _⟩ := h
    rfl
  · obtain ⟨a, s, v, rfl, ⟨dx, ha⟩, ok, k⟩ := h
    refine ⟨_, pss_one (ps_ret (pe_lst (pa_cons (pe_fld (pv 0) rfl) pa_nil))), ?_⟩
    refine ⟨_, rfl, a, c_Lower K, dx, _, _, rfl, ha, T.o_Lower.cl, T.n_Lower_slot, look1, (by show 1 ≤ sizeLine; decide), fun l hl => ?_⟩
    exact k l _ (same_upd hl) upd_same
theorem sc_Lower_eq : FnScope ["self", "other"] ["self", "other"] (defScope s_Lower_eq) := ⟨rfl, rfl, rfl, by decide +kernel, rfl, by decide +kernel, by decide +kernel⟩
theorem kit_Lower {K : PySem.W.Frag} : PySem.W.kitOne K (.ref (c_Lower K)) (.ref (c_Lower K)) = some true := by
  unfold PySem.W.kitOne
  rw [if_pos (by simp)]
theorem ok_Lower_eq (T : Txt K mg) : Ok P w K mg base (a_Lower_eq K) ["self", "other"] 1 (spEqOne K .lower) := by
  refine ok_of T.f_Lower_eq sc_Lower_eq (fun _ _ _ _ _ _ us hl => match us, hl with | [_, _], _ => rfl) (fun vs H Q E h => ?_) (fun cdv A outer s0 H vs Q E hr h => ?_)
  · obtain ⟨a, b, s, v, rfl, _⟩ := h
    rfl
  · obtain ⟨a, b, s, v, rfl, ⟨dx, ha⟩, ⟨dy, hb⟩, k⟩ := h
    refine ⟨_, pss_one (ps_ret (pe_and (pe_callB call_isi (by rfl) T.z_isinstance (by decide +kernel) (pa_cons (pv 1) (pa_cons (pe_glob (v := .ref (c_Lower K)) (by rfl) T.g_Lower rfl) pa_nil)))
      (pe_and (pe_cmpR op_eq (pe_fld (pv 0) rfl) (pe_fld (pv 1) rfl) (nomark _)) (pe_one (pe_cmpR op_eq (pe_fld (pv 0) rfl) (pe_fld (pv 1) rfl) (nomark _)))))), ?_⟩
    refine ⟨_, rfl, _, _, _, _, true, rfl, .own (c_Lower K), T.o_Lower.ty hb, kit_Lower, true, rfl, iteT ?_⟩
    refine ⟨_, rfl, a, c_Lower K, dx, _, _, rfl, ha, T.o_Lower.cl, T.n_Lower_slot, look1, _, rfl, b, c_Lower K, dy, _, _, rfl, hb, T.o_Lower.cl, T.n_Lower_slot, look1, rfl, true, congrArg V.bl (decide_eq_true rfl), iteT ?_⟩
    refine ⟨_, rfl, a, c_Lower K, dx, _, _, rfl, ha, T.o_Lower.cl, T.n_Lower_value, look2 slot_value.symm, _, rfl, b, c_Lower K, dy, _, _, rfl, hb, T.o_Lower.cl, T.n_Lower_value, look2 slot_value.symm, rfl, ?_⟩
    have e : decide (V.int (v : Int) = V.int (v : Int)) = true := decide_eq_true rfl
    show Q (.bl (decide (V.int (v : Int) = V.int (v : Int)))) H
    rw [e]
    exact k
end
end OP
namespace OP
open PySem PySem.Spec PyProof.Rows L2
theorem One.s_mem (o : One) : (o.s : Int) ∈ o.slots := by
  unfold One.slots
  split
  · exact two_mem.mpr List.mem_cons_self
  · exact List.mem_cons_self
theorem One.v_mem (o : One) (h : o.k.src = true) : (o.v : Int) ∈ o.slots := by
  unfold One.slots
  rw [if_pos h]
  exact two_mem.mpr (List.mem_cons_of_mem _ List.mem_cons_self)
theorem two_len (s v : Nat) : (two s v).length ≤ 2 := by
  unfold two
  split
  · show 1 ≤ 2; decide
  · split <;> exact Nat.le_refl 2
theorem One.slots_len (o : One) : o.slots.length ≤ 2 := by
  unfold One.slots
  split
  · exact two_len _ _
  · show 1 ≤ 2; decide
section
variable {P : Program} {w : World} {K : PySem.W.Frag} {mg : Str → Option Value} {base : Heap}
theorem sc_Put_apply : FnScope ["self", "store"] ["self", "store"] (defScope s_Put_apply) := ⟨rfl, rfl, rfl, by decide +kernel, rfl, by decide +kernel, by decide +kernel⟩
theorem ok_Put_apply (T : Txt K mg) : Ok P w K mg base (a_Put_apply K) ["self", "store"] 4 (spApply K .put) := by
  have GL : Ok P w K mg base (a_Put_slots K) _ 1 (spSlots K .put) := ok_Put_slots T
  have GC : Ok P w K mg base (a_check_store K) _ 3 (spCheckStore K) := ok_check_store T
  have GR : Ok P w K mg base (a_replaced K) _ 1 spReplaced := ok_replaced T
  obtain ⟨u8, cr, cv⟩ := T.modulus
  refine ok_of T.f_Put_apply sc_Put_apply (fun _ _ _ _ _ _ us hl => match us, hl with | [_, _], _ => rfl) (fun vs H Q E h => ?_) (fun cdv A outer s0 H vs Q E hr h => ?_)
  · obtain ⟨a, st, s, v, xs, rfl, _⟩ := h
    rfl
  · obtain ⟨a, st, s, v, xs, rfl, ⟨dx, ha⟩, ok, hst, sok, hlt, k⟩ := h
    have hr1 : Room 1 _ := hr.mono (by decide)
    have hr2 : Room 2 _ := hr.mono (by decide)
    have slt : s < xs.length := Int.ofNat_lt.mp (hlt _ (One.s_mem ⟨.put, s, v⟩))
    have u0 := ok.v7
    refine ⟨_, pss_cons (ps_expr (pe_c GC hr T.g_check_store (pa_cons (pv 1) (pa_cons (pe_pr (pv 0) T.o_Put T.p_Put_slots GL hr2) pa_nil))))
      (pss_one (ps_ret (pe_c GR hr1 T.g_replaced (pa_cons (pv 1) (pa_cons (pe_fld (pv 0) rfl) (pa_cons (pe_fld (pv 0) rfl) pa_nil)))))), ?_⟩
    refine ⟨_, rfl, _, rfl, a, dx, _, rfl, ha, a, s, v, rfl, ⟨dx, ha⟩, ok, fun r H1 s1 e1 => ?_⟩
    refine ⟨st, r, xs, _, rfl, s1 _ _ hst, sok, SqL.of e1, Nat.le_trans (One.slots_len _) (by decide), hlt, fun H2 s2 => ?_⟩
    have ha2 := s2 _ _ (s1 _ _ ha)
    have hst2 := s2 _ _ (s1 _ _ hst)
    refine ⟨_, rfl, _, rfl, a, c_Put K, dx, _, _, rfl, ha2, T.o_Put.cl, T.n_Put_slot, look1, _, rfl, a, c_Put K, dx, _, _, rfl, ha2, T.o_Put.cl, T.n_Put_value, look2 slot_value.symm, st, xs, s, _, rfl, hst2, sok.hi, slt, fun r3 H3 s3 e3 => ?_⟩
    exact k r3 H3 ((s1.trans s2).trans s3) e3
theorem sc_Move_apply : FnScope ["self", "store"] ["self", "store"] (defScope s_Move_apply) := ⟨rfl, rfl, rfl, by decide +kernel, rfl, by decide +kernel, by decide +kernel⟩
theorem ok_Move_apply (T : Txt K mg) : Ok P w K mg base (a_Move_apply K) ["self", "store"] 4 (spApply K .move) := by
  have GL : Ok P w K mg base (a_Move_slots K) _ 1 (spSlots K .move) := ok_Move_slots T
  have GC : Ok P w K mg base (a_check_store K) _ 3 (spCheckStore K) := ok_check_store T
  have GR : Ok P w K mg base (a_replaced K) _ 1 spReplaced := ok_replaced T
  obtain ⟨u8, cr, cv⟩ := T.modulus
  refine ok_of T.f_Move_apply sc_Move_apply (fun _ _ _ _ _ _ us hl => match us, hl with | [_, _], _ => rfl) (fun vs H Q E h => ?_) (fun cdv A outer s0 H vs Q E hr h => ?_)
  · obtain ⟨a, st, s, v, xs, rfl, _⟩ := h
    rfl
  · obtain ⟨a, st, s, v, xs, rfl, ⟨dx, ha⟩, ok, hst, sok, hlt, k⟩ := h
    have hr1 : Room 1 _ := hr.mono (by decide)
    have hr2 : Room 2 _ := hr.mono (by decide)
    have slt : s < xs.length := Int.ofNat_lt.mp (hlt _ (One.s_mem ⟨.move, s, v⟩))
    have vlt : v < xs.length := Int.ofNat_lt.mp (hlt _ (One.v_mem ⟨.move, s, v⟩ rfl))
    refine ⟨_, pss_cons (ps_expr (pe_c GC hr T.g_check_store (pa_cons (pv 1) (pa_cons (pe_pr (pv 0) T.o_Move T.p_Move_slots GL hr2) pa_nil))))
      (pss_one (ps_ret (pe_c GR hr1 T.g_replaced (pa_cons (pv 1) (pa_cons (pe_fld (pv 0) rfl) (pa_cons (pe_ix ix_tup (pv 1) (pe_fld (pv 0) rfl) (fun _ _ => rfl)) pa_nil)))))), ?_⟩
    refine ⟨_, rfl, _, rfl, a, dx, _, rfl, ha, a, s, v, rfl, ⟨dx, ha⟩, ok, fun r H1 s1 e1 => ?_⟩
    refine ⟨st, r, xs, _, rfl, s1 _ _ hst, sok, SqL.of e1, Nat.le_trans (One.slots_len _) (by decide), hlt, fun H2 s2 => ?_⟩
    have ha2 := s2 _ _ (s1 _ _ ha)
    have hst2 := s2 _ _ (s1 _ _ hst)
    refine ⟨_, rfl, _, rfl, a, c_Move K, dx, _, _, rfl, ha2, T.o_Move.cl, T.n_Move_slot, look1, _, rfl, _, rfl, a, c_Move K, dx, _, _, rfl, ha2, T.o_Move.cl, T.n_Move_source, look2 slot_source.symm, st, _, _, _, rfl, rfl, SqT.of hst2, at_int vlt, st, xs, s, _, rfl, hst2, sok.hi, slt, fun r3 H3 s3 e3 => ?_⟩
    exact k r3 H3 ((s1.trans s2).trans s3) e3
theorem sc_Add_apply : FnScope ["self", "store"] ["self", "store"] (defScope s_Add_apply) := ⟨rfl, rfl, rfl, by decide +kernel, rfl, by decide +kernel, by decide +kernel⟩
theorem ok_Add_apply (T : Txt K mg) : Ok P w K mg base (a_Add_apply K) ["self", "store"] 4 (spApply K .add) := by
  have GL : Ok P w K mg base (a_Add_slots K) _ 1 (spSlots K .add) := ok_Add_slots T
  have GC : Ok P w K mg base (a_check_store K) _ 3 (spCheckStore K) := ok_check_store T
  have GR : Ok P w K mg base (a_replaced K) _ 1 spReplaced := ok_replaced T
  obtain ⟨u8, cr, cv⟩ := T.modulus
  refine ok_of T.f_Add_apply sc_Add_apply (fun _ _ _ _ _ _ us hl => match us, hl with | [_, _], _ => rfl) (fun vs H Q E h => ?_) (fun cdv A outer s0 H vs Q E hr h => ?_)
  · obtain ⟨a, st, s, v, xs, rfl, _⟩ := h
    rfl
  · obtain ⟨a, st, s, v, xs, rfl, ⟨dx, ha⟩, ok, hst, sok, hlt, k⟩ := h
    have hr1 : Room 1 _ := hr.mono (by decide)
    have hr2 : Room 2 _ := hr.mono (by decide)
    have slt : s < xs.length := Int.ofNat_lt.mp (hlt _ (One.s_mem ⟨.add, s, v⟩))
    have u0 := ok.v7
    refine ⟨_, pss_cons (ps_expr (pe_c GC hr T.g_check_store (pa_cons (pv 1) (pa_cons (pe_pr (pv 0) T.o_Add T.p_Add_slots GL hr2) pa_nil))))
      (pss_one (ps_ret (pe_c GR hr1 T.g_replaced (pa_cons (pv 1) (pa_cons (pe_fld (pv 0) rfl) (pa_cons (pe_op op_mod (pe_op op_add (pe_ix ix_tup (pv 1) (pe_fld (pv 0) rfl) (fun _ _ => rfl)) (pe_fld (pv 0) rfl)) (pe_cv K cr cv T.g_Change)) pa_nil)))))), ?_⟩
    refine ⟨_, rfl, _, rfl, a, dx, _, rfl, ha, a, s, v, rfl, ⟨dx, ha⟩, ok, fun r H1 s1 e1 => ?_⟩
    refine ⟨st, r, xs, _, rfl, s1 _ _ hst, sok, SqL.of e1, Nat.le_trans (One.slots_len _) (by decide), hlt, fun H2 s2 => ?_⟩
    have ha2 := s2 _ _ (s1 _ _ ha)
    have hst2 := s2 _ _ (s1 _ _ hst)
    refine ⟨_, rfl, _, rfl, a, c_Add K, dx, _, _, rfl, ha2, T.o_Add.cl, T.n_Add_slot, look1, _, rfl, _, rfl, a, c_Add K, dx, _, _, rfl, ha2, T.o_Add.cl, T.n_Add_slot, look1, st, _, _, _, rfl, rfl, SqT.of hst2, at_int slt, _, rfl, a, c_Add K, dx, _, _, rfl, ha2, T.o_Add.cl, T.n_Add_value, look2 slot_value.symm, _, _, rfl, rfl, _, _, rfl, rfl, (by show (0 : Int) < 8; decide), st, xs, s, _, rfl, hst2, sok.hi, slt, fun r3 H3 s3 e3 => ?_⟩
    exact k r3 H3 ((s1.trans s2).trans s3) e3
theorem sc_AddSlot_apply : FnScope ["self", "store"] ["self", "store"] (defScope s_AddSlot_apply) := ⟨rfl, rfl, rfl, by decide +kernel, rfl, by decide +kernel, by decide +kernel⟩
theorem ok_AddSlot_apply (T : Txt K mg) : Ok P w K mg base (a_AddSlot_apply K) ["self", "store"] 4 (spApply K .addslot) := by
  have GL : Ok P w K mg base (a_AddSlot_slots K) _ 1 (spSlots K .addslot) := ok_AddSlot_slots T
  have GC : Ok P w K mg base (a_check_store K) _ 3 (spCheckStore K) := ok_check_store T
  have GR : Ok P w K mg base (a_replaced K) _ 1 spReplaced := ok_replaced T
  obtain ⟨u8, cr, cv⟩ := T.modulus
  refine ok_of T.f_AddSlot_apply sc_AddSlot_apply (fun _ _ _ _ _ _ us hl => match us, hl with | [_, _], _ => rfl) (fun vs H Q E h => ?_) (fun cdv A outer s0 H vs Q E hr h => ?_)
  · obtain ⟨a, st, s, v, xs, rfl, _⟩ := h
    rfl
  · obtain ⟨a, st, s, v, xs, rfl, ⟨dx, ha⟩, ok, hst, sok, hlt, k⟩ := h
    have hr1 : Room 1 _ := hr.mono (by decide)
    have hr2 : Room 2 _ := hr.mono (by decide)
    have slt : s < xs.length := Int.ofNat_lt.mp (hlt _ (One.s_mem ⟨.addslot, s, v⟩))
    have vlt : v < xs.length := Int.ofNat_lt.mp (hlt _ (One.v_mem ⟨.addslot, s, v⟩ rfl))
    refine ⟨_, pss_cons (ps_expr (pe_c GC hr T.g_check_store (pa_cons (pv 1) (pa_cons (pe_pr (pv 0) T.o_AddSlot T.p_AddSlot_slots GL hr2) pa_nil))))
      (pss_one (ps_ret (pe_c GR hr1 T.g_replaced (pa_cons (pv 1) (pa_cons (pe_fld (pv 0) rfl) (pa_cons (pe_op op_mod (pe_op op_add (pe_ix ix_tup (pv 1) (pe_fld (pv 0) rfl) (fun _ _ => rfl)) (pe_ix ix_tup (pv 1) (pe_fld (pv 0) rfl) (fun _ _ => rfl))) (pe_cv K cr cv T.g_Change)) pa_nil)))))), ?_⟩
    refine ⟨_, rfl, _, rfl, a, dx, _, rfl, ha, a, s, v, rfl, ⟨dx, ha⟩, ok, fun r H1 s1 e1 => ?_⟩
    refine ⟨st, r, xs, _, rfl, s1 _ _ hst, sok, SqL.of e1, Nat.le_trans (One.slots_len _) (by decide), hlt, fun H2 s2 => ?_⟩
    have ha2 := s2 _ _ (s1 _ _ ha)
    have hst2 := s2 _ _ (s1 _ _ hst)
    refine ⟨_, rfl, _, rfl, a, c_AddSlot K, dx, _, _, rfl, ha2, T.o_AddSlot.cl, T.n_AddSlot_slot, look1, _, rfl, _, rfl, a, c_AddSlot K, dx, _, _, rfl, ha2, T.o_AddSlot.cl, T.n_AddSlot_slot, look1, st, _, _, _, rfl, rfl, SqT.of hst2, at_int slt, _, rfl, _, rfl, a, c_AddSlot K, dx, _, _, rfl, ha2, T.o_AddSlot.cl, T.n_AddSlot_source, look2 slot_source.symm, st, _, _, _, rfl, rfl, SqT.of hst2, at_int vlt, _, _, rfl, rfl, _, _, rfl, rfl, (by show (0 : Int) < 8; decide), st, xs, s, _, rfl, hst2, sok.hi, slt, fun r3 H3 s3 e3 => ?_⟩
    exact k r3 H3 ((s1.trans s2).trans s3) e3
theorem sc_Raise_apply : FnScope ["self", "store"] ["self", "store"] (defScope s_Raise_apply) := ⟨rfl, rfl, rfl, by decide +kernel, rfl, by decide +kernel, by decide +kernel⟩
theorem ok_Raise_apply (T : Txt K mg) : Ok P w K mg base (a_Raise_apply K) ["self", "store"] 4 (spApply K .rais) := by
  have GL : Ok P w K mg base (a_Raise_slots K) _ 1 (spSlots K .rais) := ok_Raise_slots T
  have GC : Ok P w K mg base (a_check_store K) _ 3 (spCheckStore K) := ok_check_store T
  have GR : Ok P w K mg base (a_replaced K) _ 1 spReplaced := ok_replaced T
  obtain ⟨u8, cr, cv⟩ := T.modulus
  refine ok_of T.f_Raise_apply sc_Raise_apply (fun _ _ _ _ _ _ us hl => match us, hl with | [_, _], _ => rfl) (fun vs H Q E h => ?_) (fun cdv A outer s0 H vs Q E hr h => ?_)
  · obtain ⟨a, st, s, v, xs, rfl, _⟩ := h
    rfl
  · obtain ⟨a, st, s, v, xs, rfl, ⟨dx, ha⟩, ok, hst, sok, hlt, k⟩ := h
    have hr1 : Room 1 _ := hr.mono (by decide)
    have hr2 : Room 2 _ := hr.mono (by decide)
    have slt : s < xs.length := Int.ofNat_lt.mp (hlt _ (One.s_mem ⟨.rais, s, v⟩))
    have u0 := ok.v7
    refine ⟨_, pss_cons (ps_expr (pe_c GC hr T.g_check_store (pa_cons (pv 1) (pa_cons (pe_pr (pv 0) T.o_Raise T.p_Raise_slots GL hr2) pa_nil))))
      (pss_one (ps_ret (pe_c GR hr1 T.g_replaced (pa_cons (pv 1) (pa_cons (pe_fld (pv 0) rfl) (pa_cons (pe_callB (call_max2 rfl) (by rfl) T.z_max (by decide +kernel) (pa_cons (pe_ix ix_tup (pv 1) (pe_fld (pv 0) rfl) (fun _ _ => rfl)) (pa_cons (pe_fld (pv 0) rfl) pa_nil))) pa_nil)))))), ?_⟩
    refine ⟨_, rfl, _, rfl, a, dx, _, rfl, ha, a, s, v, rfl, ⟨dx, ha⟩, ok, fun r H1 s1 e1 => ?_⟩
    refine ⟨st, r, xs, _, rfl, s1 _ _ hst, sok, SqL.of e1, Nat.le_trans (One.slots_len _) (by decide), hlt, fun H2 s2 => ?_⟩
    have ha2 := s2 _ _ (s1 _ _ ha)
    have hst2 := s2 _ _ (s1 _ _ hst)
    refine ⟨_, rfl, _, rfl, a, c_Raise K, dx, _, _, rfl, ha2, T.o_Raise.cl, T.n_Raise_slot, look1, _, rfl, _, rfl, a, c_Raise K, dx, _, _, rfl, ha2, T.o_Raise.cl, T.n_Raise_slot, look1, st, _, _, _, rfl, rfl, SqT.of hst2, at_int slt, _, rfl, a, c_Raise K, dx, _, _, rfl, ha2, T.o_Raise.cl, T.n_Raise_value, look2 slot_value.symm, _, _, rfl, st, xs, s, _, rfl, hst2, sok.hi, slt, fun r3 H3 s3 e3 => ?_⟩
    exact k r3 H3 ((s1.trans s2).trans s3) e3
theorem sc_Lower_apply : FnScope ["self", "store"] ["self", "store"] (defScope s_Lower_apply) := ⟨rfl, rfl, rfl, by decide +kernel, rfl, by decide +kernel, by decide +kernel⟩
theorem ok_Lower_apply (T : Txt K mg) : Ok P w K mg base (a_Lower_apply K) ["self", "store"] 4 (spApply K .lower) := by
  have GL : Ok P w K mg base (a_Lower_slots K) _ 1 (spSlots K .lower) := ok_Lower_slots T
  have GC : Ok P w K mg base (a_check_store K) _ 3 (spCheckStore K) := ok_check_store T
  have GR : Ok P w K mg base (a_replaced K) _ 1 spReplaced := ok_replaced T
  obtain ⟨u8, cr, cv⟩ := T.modulus
  refine ok_of T.f_Lower_apply sc_Lower_apply (fun _ _ _ _ _ _ us hl => match us, hl with | [_, _], _ => rfl) (fun vs H Q E h => ?_) (fun cdv A outer s0 H vs Q E hr h => ?_)
  · obtain ⟨a, st, s, v, xs, rfl, _⟩ := h
    rfl
  · obtain ⟨a, st, s, v, xs, rfl, ⟨dx, ha⟩, ok, hst, sok, hlt, k⟩ := h
    have hr1 : Room 1 _ := hr.mono (by decide)
    have hr2 : Room 2 _ := hr.mono (by decide)
    have slt : s < xs.length := Int.ofNat_lt.mp (hlt _ (One.s_mem ⟨.lower, s, v⟩))
    have u0 := ok.v7
    refine ⟨_, pss_cons (ps_expr (pe_c GC hr T.g_check_store (pa_cons (pv 1) (pa_cons (pe_pr (pv 0) T.o_Lower T.p_Lower_slots GL hr2) pa_nil))))
      (pss_one (ps_ret (pe_c GR hr1 T.g_replaced (pa_cons (pv 1) (pa_cons (pe_fld (pv 0) rfl) (pa_cons (pe_callB (call_min2 rfl) (by rfl) T.z_min (by decide +kernel) (pa_cons (pe_ix ix_tup (pv 1) (pe_fld (pv 0) rfl) (fun _ _ => rfl)) (pa_cons (pe_fld (pv 0) rfl) pa_nil))) pa_nil)))))), ?_⟩
    refine ⟨_, rfl, _, rfl, a, dx, _, rfl, ha, a, s, v, rfl, ⟨dx, ha⟩, ok, fun r H1 s1 e1 => ?_⟩
    refine ⟨st, r, xs, _, rfl, s1 _ _ hst, sok, SqL.of e1, Nat.le_trans (One.slots_len _) (by decide), hlt, fun H2 s2 => ?_⟩
    have ha2 := s2 _ _ (s1 _ _ ha)
    have hst2 := s2 _ _ (s1 _ _ hst)
    refine ⟨_, rfl, _, rfl, a, c_Lower K, dx, _, _, rfl, ha2, T.o_Lower.cl, T.n_Lower_slot, look1, _, rfl, _, rfl, a, c_Lower K, dx, _, _, rfl, ha2, T.o_Lower.cl, T.n_Lower_slot, look1, st, _, _, _, rfl, rfl, SqT.of hst2, at_int slt, _, rfl, a, c_Lower K, dx, _, _, rfl, ha2, T.o_Lower.cl, T.n_Lower_value, look2 slot_value.symm, _, _, rfl, st, xs, s, _, rfl, hst2, sok.hi, slt, fun r3 H3 s3 e3 => ?_⟩
    exact k r3 H3 ((s1.trans s2).trans s3) e3
end
end OP
namespace OP
open PySem PySem.Spec PyProof.Rows L2
/-! ### the six classes as one family -/
def slotsA (K : PySem.W.Frag) : Kind → Addr
  | .put => a_Put_slots K
  | .move => a_Move_slots K
  | .add => a_Add_slots K
  | .addslot => a_AddSlot_slots K
  | .rais => a_Raise_slots K
  | .lower => a_Lower_slots K
def applyA (K : PySem.W.Frag) : Kind → Addr
  | .put => a_Put_apply K
  | .move => a_Move_apply K
  | .add => a_Add_apply K
  | .addslot => a_AddSlot_apply K
  | .rais => a_Raise_apply K
  | .lower => a_Lower_apply K
def eqA (K : PySem.W.Frag) : Kind → Addr
  | .put => a_Put_eq K
  | .move => a_Move_eq K
  | .add => a_Add_eq K
  | .addslot => a_AddSlot_eq K
  | .rais => a_Raise_eq K
  | .lower => a_Lower_eq K
section
variable {P : Program} {w : World} {K : PySem.W.Frag} {mg : Str → Option Value} {base : Heap}
theorem Txt.own (T : Txt K mg) (k : Kind) : Own K (k.cls K) := by
  cases k
  · exact T.o_Put
  · exact T.o_Move
  · exact T.o_Add
  · exact T.o_AddSlot
  · exact T.o_Raise
  · exact T.o_Lower
theorem Txt.kitC (T : Txt K mg) (k : Kind) : PySem.W.kitOne K (.ref (k.cls K)) (.ref (c_Change K)) = some true := by
  cases k
  · exact T.k_Put
  · exact T.k_Move
  · exact T.k_Add
  · exact T.k_AddSlot
  · exact T.k_Raise
  · exact T.k_Lower
theorem Txt.kitIf (T : Txt K mg) (k : Kind) : PySem.W.kitOne K (.ref (k.cls K)) (.ref (c_If K)) = some false := by
  cases k
  · exact T.kIf_Put
  · exact T.kIf_Move
  · exact T.kIf_Add
  · exact T.kIf_AddSlot
  · exact T.kIf_Raise
  · exact T.kIf_Lower
theorem Txt.propS (T : Txt K mg) (k : Kind) : PropOf K (k.cls K) "slots" (He.ma K (k.cls K) "slots") (slotsA K k) := by
  cases k
  · exact T.p_Put_slots
  · exact T.p_Move_slots
  · exact T.p_Add_slots
  · exact T.p_AddSlot_slots
  · exact T.p_Raise_slots
  · exact T.p_Lower_slots
theorem Txt.methA (T : Txt K mg) (k : Kind) : Meth K (k.cls K) "apply" (applyA K k) := by
  cases k
  · exact T.m_Put_apply
  · exact T.m_Move_apply
  · exact T.m_Add_apply
  · exact T.m_AddSlot_apply
  · exact T.m_Raise_apply
  · exact T.m_Lower_apply
theorem Txt.methE (T : Txt K mg) (k : Kind) : Meth K (k.cls K) "__eq__" (eqA K k) := by
  cases k
  · exact T.m_Put_eq
  · exact T.m_Move_eq
  · exact T.m_Add_eq
  · exact T.m_AddSlot_eq
  · exact T.m_Raise_eq
  · exact T.m_Lower_eq
theorem ok_slots (T : Txt K mg) (k : Kind) : Ok P w K mg base (slotsA K k) ["self"] 1 (spSlots K k) := by
  cases k
  · exact ok_Put_slots T
  · exact ok_Move_slots T
  · exact ok_Add_slots T
  · exact ok_AddSlot_slots T
  · exact ok_Raise_slots T
  · exact ok_Lower_slots T
theorem ok_apply (T : Txt K mg) (k : Kind) : Ok P w K mg base (applyA K k) ["self", "store"] 4 (spApply K k) := by
  cases k
  · exact ok_Put_apply T
  · exact ok_Move_apply T
  · exact ok_Add_apply T
  · exact ok_AddSlot_apply T
  · exact ok_Raise_apply T
  · exact ok_Lower_apply T
theorem ok_eq (T : Txt K mg) (k : Kind) : Ok P w K mg base (eqA K k) ["self", "other"] 1 (spEqOne K k) := by
  cases k
  · exact ok_Put_eq T
  · exact ok_Move_eq T
  · exact ok_Add_eq T
  · exact ok_AddSlot_eq T
  · exact ok_Raise_eq T
  · exact ok_Lower_eq T
end
section
variable {X : Cx} {m : Str} {pos apos : Pos} {e o : Expr} {es : List Expr} {t : TA} {ta : TE} {f C : Addr} {ps : List Str} {k : Nat} {sp : Sp}
/-- o.m(e, ..) of an own class -/
theorem pe_mt {pl : Sem Bool} (he : PE X o ta) (c : Own X.K C) (hm : Meth X.K C m f) (O : Ok X.prog X.w X.K X.mg X.base f ps k sp) (hr : Room k X.A) (ha : PA X (e :: es) t)
    (h1 : starEach (e :: es) X.env = (false, eval e X.env) :: starEach es X.env := by rfl) (h2 : (backTo pos (starEach es X.env)).any (·.1) = false := by rfl)
    (h3 : eval (.Call (.Attribute o m apos) (e :: es) [] pos) X.env = (eval o X.env >>= fun ov => standAt apos.atName >>= fun _ => holding [ov] (getMethod ov m pl) >>= fun q => callWith pos q.1 q.2 (backTo pos (starEach (e :: es) X.env)) (backToKw pos (keywordEach [] X.env))) := by rfl) :
    PE X (.Call (.Attribute o m apos) (e :: es) [] pos) (tMeth C m sp [] E0 ta t) := by
  obtain ⟨⟨fd, G, b⟩, kp⟩ := O
  exact pe_meth he c.cl hm G hr b .nil pass0 ha h1 h2 h3
end
/-! ### If, and all changes -/
inductive Chg where
  | one (o : One)
  | iff (s v : Nat) (o : One)
deriving DecidableEq
def ifFlds (s v : Nat) (b : Addr) : List (Str × V) := [("slot", .int s), ("value", .int v), ("inner", .ref b)]
def ChgAt (K : PySem.W.Frag) (H : Hp) (a : Addr) : Chg → Prop
  | .one o => OneAt K H a o
  | .iff s v o => ∃ dx b, H a = some (.ins (c_If K) dx (ifFlds s v b)) ∧ OneAt K H b o
def Chg.Ok : Chg → Prop
  | .one o => o.Ok
  | .iff s v o => s ≤ 2 ∧ v ≤ 7 ∧ o.Ok
/-- those of 0, 1, 2 that are s or among the others -/
def three (s : Nat) (ns : List Int) : List Int := ((List.range 3).map fun n : Nat => (n : Int)).filter fun z => decide (z = s ∨ z ∈ ns)
def Chg.slots : Chg → List Int
  | .one o => o.slots
  | .iff s _ o => three s o.slots
def Chg.app : Chg → List Int → List Int
  | .one o, xs => o.app xs
  | .iff s v o, xs => if xs.getD s 0 = (v : Int) then o.app xs else xs
theorem OneAt.ext {K : PySem.W.Frag} {H H' : Hp} {a : Addr} {o : One} (e : Same H H') (h : OneAt K H a o) : OneAt K H' a o := by
  obtain ⟨dx, h⟩ := h
  exact ⟨dx, e _ _ h⟩
theorem ChgAt.ext {K : PySem.W.Frag} {H H' : Hp} {a : Addr} {c : Chg} (e : Same H H') (h : ChgAt K H a c) : ChgAt K H' a c := by
  cases c with
  | one o => exact OneAt.ext e h
  | iff s v o =>
    obtain ⟨dx, b, h1, h2⟩ := h
    exact ⟨dx, b, e _ _ h1, OneAt.ext e h2⟩
theorem One.slots_bd {o : One} (h : o.Ok) : ∀ z ∈ o.slots, 0 ≤ z ∧ z ≤ 2 := fun z hz => by
  have a := h.s2
  unfold One.slots at hz
  split at hz
  · rename_i q
    have b := h.v2 q
    rcases List.mem_cons.mp (two_mem.mp hz) with r | r
    · omega
    · rw [List.mem_singleton.mp r]; omega
  · rw [List.mem_singleton.mp hz]; omega
theorem three_lt (s : Nat) (ns : List Int) : (three s ns).Pairwise (· < ·) := List.Pairwise.filter _ (by decide)
theorem three_mem {s : Nat} {ns : List Int} (hs : s ≤ 2) (h : ∀ z ∈ ns, 0 ≤ z ∧ z ≤ 2) (z : Int) : z ∈ three s ns ↔ z = s ∨ z ∈ ns := by
  unfold three
  rw [List.mem_filter, decide_eq_true_iff]
  refine ⟨fun q => q.2, fun q => ⟨?_, q⟩⟩
  have b : 0 ≤ z ∧ z ≤ 2 := q.elim (fun q => by omega) (h z)
  have : z = 0 ∨ z = 1 ∨ z = 2 := by omega
  rcases this with r | r | r <;> subst r <;> decide
theorem three_set {s : Nat} {ms ns : List Int} (hs : s ≤ 2) (h : ∀ z ∈ ns, 0 ≤ z ∧ z ≤ 2) (srt : ms.Pairwise (· < ·)) (mem : ∀ z, z ∈ ms ↔ z ∈ (s : Int) :: ns) : ms = three s ns :=
  lt_uniq srt (three_lt s ns) fun z => (mem z).trans (List.mem_cons.trans (three_mem hs h z).symm)
theorem three_len (s : Nat) (ns : List Int) : (three s ns).length ≤ 3 := Nat.le_trans (List.length_filter_le _ _) (by decide)
theorem lookA {f g h : Str} {x y z : V} : ([(f, x), (g, y), (h, z)] : List (Str × V)).lookup f = some x := by simp [List.lookup]
theorem lookB {f g h : Str} {x y z : V} (q : g ≠ f) : ([(f, x), (g, y), (h, z)] : List (Str × V)).lookup g = some y := by
  have e : (g == f) = false := beq_eq_false_iff_ne.mpr q
  simp [List.lookup, e]
theorem lookC {f g h : Str} {x y z : V} (q : h ≠ f) (r : h ≠ g) : ([(f, x), (g, y), (h, z)] : List (Str × V)).lookup h = some z := by
  have e : (h == f) = false := beq_eq_false_iff_ne.mpr q
  have e2 : (h == g) = false := beq_eq_false_iff_ne.mpr r
  simp [List.lookup, e, e2]
theorem in_slot : ("inner" : Str) ≠ "slot" := by decide +kernel
theorem in_value : ("inner" : Str) ≠ "value" := by decide +kernel
theorem putF3 {f g h : Str} {x y z : V} (a : f ≠ g) (b : f ≠ h) (c : g ≠ h) : putF h z (putF g y (putF f x [])) = [(f, x), (g, y), (h, z)] := by
  rw [putF2 a]
  show (if f = h then _ else (f, x) :: (if g = h then _ else (g, y) :: putF h z [])) = _
  rw [if_neg b, if_neg c] <;> rfl
section
variable {P : Program} {w : World} {K : PySem.W.Frag} {mg : Str → Option Value} {base : Heap}
def spIfInit (K : PySem.W.Frag) : Sp := fun vs H Q _ => ∃ (p dx b : Addr) (s v : Nat) (o : One), vs = [.ref p, .int s, .int v, .ref b] ∧ s ≤ 2 ∧ v ≤ 7 ∧ OneAt K H b o ∧ H p = some (.ins (c_If K) dx []) ∧
  ∀ H', (∀ c u, c ≠ p → H c = some u → H' c = some u) → H' p = some (.ins (c_If K) dx (ifFlds s v b)) → Q .non H'
theorem sc_If_init : FnScope ["self", "slot", "value", "change"] ["self", "slot", "value", "change"] (defScope s_If_init) := ⟨rfl, rfl, rfl, by decide +kernel, rfl, by decide +kernel, by decide +kernel⟩
theorem ok_If_init (T : Txt K mg) : Ok P w K mg base (a_If_init K) ["self", "slot", "value", "change"] 3 (spIfInit K) := by
  have GS : Ok P w K mg base (a_check_slot K) _ 2 (spCheck 2) := ok_check_slot T
  have GV : Ok P w K mg base (a_check_value K) _ 2 (spCheck 7) := ok_check_value T
  refine ok_of T.f_If_init sc_If_init (fun _ _ _ _ _ _ us hl => match us, hl with | [_, _, _, _], _ => rfl) (fun vs H Q E h => ?_) (fun cdv A outer s0 H vs Q E hr h => ?_)
  · obtain ⟨p, dx, b, s, v, o, rfl, _⟩ := h
    rfl
  · obtain ⟨p, dx, b, s, v, o, rfl, hs, hv, ⟨dy, hb⟩, hp, k⟩ := h
    have b1 : (0 : Int) ≤ (s : Int) := Int.natCast_nonneg _
    have b2 : (s : Int) ≤ 2 := Int.ofNat_le.mpr hs
    have b3 : (0 : Int) ≤ (v : Int) := Int.natCast_nonneg _
    have b4 : (v : Int) ≤ 7 := Int.ofNat_le.mpr hv
    refine ⟨_, pss_cons (ps_expr (pe_c GS hr T.g_check_slot (pa_cons (pv 1) pa_nil))) (pss_cons (ps_expr (pe_c GV hr T.g_check_value (pa_cons (pv 2) pa_nil)))
      (pss_cons (ps_if (PW.pt (pw_or (pt_not (pt_val (pe_callB call_isi (by rfl) T.z_isinstance (by decide +kernel) (pa_cons (pv 3) (pa_cons (pe_glob (v := .ref (c_Change K)) (by rfl) T.g_Change rfl) pa_nil)))))
        (pw_or1 (pt_val (pe_callB call_isi (by rfl) T.z_isinstance (by decide +kernel) (pa_cons (pv 3) (pa_cons (pe_glob (v := .ref (c_If K)) (by rfl) T.g_If rfl) pa_nil))))))) (pss_one ps_never) pss_nil)
      (pss_cons (ps_fld (pv 0) (pv 1) rfl) (pss_cons (ps_fld (pv 0) (pv 2) rfl) (pss_one (ps_fld (pv 0) (pv 3) rfl)))))), ?_⟩
    refine ⟨_, rfl, s, rfl, b1, b2, _, rfl, v, rfl, b3, b4, ?_⟩
    refine ⟨_, rfl, _, _, _, _, true, rfl, .own (c_Change K), (T.own o.k).ty hb, T.kitC o.k, true, rfl, iteF ?_⟩
    refine ⟨_, rfl, _, _, _, _, false, rfl, .own (c_If K), (T.own o.k).ty hb, T.kitIf o.k, false, rfl, iteF ?_⟩
    refine ⟨_, rfl, _, rfl, p, c_If K, dx, [], rfl, hp, T.o_If.cl, T.n_If_slot, (by show 0 < 1000; decide), _, rfl, _, rfl, p, c_If K, dx, _, rfl, upd_same, T.o_If.cl, T.n_If_value, (by show 1 < 1000; decide),
      _, rfl, _, rfl, p, c_If K, dx, _, rfl, upd_same, T.o_If.cl, T.n_If_inner, (by rw [putF2 slot_value]; show 2 < 1000; decide), ?_⟩
    refine k _ (fun c u hc e => ?_) ?_
    · rw [upd_ne hc, upd_ne hc, upd_ne hc]
      exact e
    · rw [upd_same, putF3 slot_value in_slot.symm in_value.symm] <;> rfl
def spIfSlots (K : PySem.W.Frag) : Sp := fun vs H Q _ => ∃ (a dx b : Addr) (s v : Nat) (o : One), vs = [.ref a] ∧ H a = some (.ins (c_If K) dx (ifFlds s v b)) ∧ OneAt K H b o ∧ s ≤ 2 ∧ o.Ok ∧ ∀ r H', Same H H' → H' r = some (.lst ((three s o.slots).map V.int)) → Q (.ref r) H'
theorem sc_If_slots : FnScope ["self"] ["self"] (defScope s_If_slots) := ⟨rfl, rfl, rfl, by decide +kernel, rfl, by decide +kernel, by decide +kernel⟩
theorem ok_If_slots (T : Txt K mg) : Ok P w K mg base (a_If_slots K) ["self"] 3 (spIfSlots K) := by
  have GL : ∀ k, Ok P w K mg base (slotsA K k) ["self"] 1 (spSlots K k) := ok_slots T
  refine ok_of T.f_If_slots sc_If_slots (fun _ _ _ _ _ _ us hl => match us, hl with | [_], _ => rfl) (fun vs H Q E h => ?_) (fun cdv A outer s0 H vs Q E hr h => ?_)
  · obtain ⟨a, dx, b, s, v, o, rfl, _⟩ := h
    rfl
  · obtain ⟨a, dx, b, s, v, ⟨kd, os, ov⟩, rfl, ha, ⟨dy, hb⟩, hs, ok, k⟩ := h
    refine ⟨_, pss_one (ps_ret (pe_callB (cr_sortedSet rfl) (by rfl) T.z_sorted (by decide +kernel) (pa_cons (pe_callTy (cr_setI rfl) (by rfl) T.z_set (by decide +kernel) (pa_cons (pe_op op_cat (pe_lst (pa_cons (pe_fld (pv 0) rfl) pa_nil))
      (pe_any fun k : Kind => pe_pr (pe_fld (pv 0) rfl) (T.own k) (T.propS k) (GL k) hr)) pa_nil)) pa_nil))), ?_⟩
    refine ⟨_, rfl, a, c_If K, dx, _, _, rfl, ha, T.o_If.cl, T.n_If_slot, lookA, (by show 1 ≤ sizeLine; decide), fun l hl => ?_⟩
    have s1 : Same H _ := same_upd (o := .lst [V.int s]) hl
    refine ⟨kd, _, rfl, a, c_If K, dx, _, _, rfl, s1 _ _ ha, T.o_If.cl, T.n_If_inner, lookC in_slot in_value, b, dy, _, rfl, s1 _ _ hb, b, os, ov, rfl, ⟨dy, s1 _ _ hb⟩, ok, fun r H2 s2 e2 => ?_⟩
    have hl2 : H2 l = some (.lst [V.int s]) := s2 _ _ upd_same
    have hlen := One.slots_len ⟨kd, os, ov⟩
    refine ⟨l, r, _, _, rfl, rfl, hl2, e2, (by rw [List.length_map]; exact Nat.le_trans (show _ ≤ 3 by simp; omega) (by decide)), fun p hp => ?_⟩
    refine ⟨p, (s : Int) :: One.slots ⟨kd, os, ov⟩, rfl, SqL.of upd_same, (by rw [List.length_cons]; omega), fun q c hq hc => ?_⟩
    refine ⟨q, _, c, rfl, upd_same, Nat.lt_of_le_of_lt hc (by rw [List.length_cons]; omega), fun ns p2 srt mem _ hp2 => ?_⟩
    refine k p2 _ ((((s1.trans s2).trans (same_upd hp)).trans (same_upd hq)).trans (same_upd hp2)) ?_
    have e : ns = three s (One.slots ⟨kd, os, ov⟩) := three_set hs (One.slots_bd ok) srt fun z => (mem z).trans decide_eq_true_iff
    rw [upd_same, e]
def spIfApply (K : PySem.W.Frag) : Sp := fun vs H Q _ => ∃ (a st dx b : Addr) (s v : Nat) (o : One) (xs : List Int), vs = [.ref a, .ref st] ∧ H a = some (.ins (c_If K) dx (ifFlds s v b)) ∧ OneAt K H b o ∧ s ≤ 2 ∧ o.Ok ∧ H st = some (.tup (xs.map V.int)) ∧ StoreOk xs ∧
  (∀ n ∈ three s o.slots, n < (xs.length : Int)) ∧ ∀ r H', Same H H' → H' r = some (.tup ((Chg.app (.iff s v o) xs).map V.int)) → Q (.ref r) H'
theorem sc_If_apply : FnScope ["self", "store"] ["self", "store"] (defScope s_If_apply) := ⟨rfl, rfl, rfl, by decide +kernel, rfl, by decide +kernel, by decide +kernel⟩
theorem no_apply {k : Kind} {x y : V} : ([("slot", x), (k.fld, y)] : List (Str × V)).lookup ("apply" : Str) = none := by
  have e : (("apply" : Str) == "slot") = false := by decide +kernel
  have e2 : (("apply" : Str) == k.fld) = false := by cases k <;> decide +kernel
  simp [List.lookup, e, e2]
theorem ok_If_apply (T : Txt K mg) : Ok P w K mg base (a_If_apply K) ["self", "store"] 5 (spIfApply K) := by
  have GL : Ok P w K mg base (a_If_slots K) _ 3 (spIfSlots K) := ok_If_slots T
  have GC : Ok P w K mg base (a_check_store K) _ 3 (spCheckStore K) := ok_check_store T
  have GA : ∀ k, Ok P w K mg base (applyA K k) ["self", "store"] 4 (spApply K k) := ok_apply T
  refine ok_of T.f_If_apply sc_If_apply (fun _ _ _ _ _ _ us hl => match us, hl with | [_, _], _ => rfl) (fun vs H Q E h => ?_) (fun cdv A outer s0 H vs Q E hr h => ?_)
  · obtain ⟨a, st, dx, b, s, v, o, xs, rfl, _⟩ := h
    rfl
  · obtain ⟨a, st, dx, b, s, v, ⟨kd, os, ov⟩, xs, rfl, ha, ⟨dy, hb⟩, hs, ok, hst, sok, hlt, k⟩ := h
    have hr3 : Room 3 _ := hr.mono (by decide)
    have mem := three_mem hs (One.slots_bd ok)
    have slt : s < xs.length := Int.ofNat_lt.mp (hlt _ ((mem _).mpr (.inl rfl)))
    refine ⟨_, pss_cons (ps_expr (pe_c GC hr3 T.g_check_store (pa_cons (pv 1) (pa_cons (pe_pr (pv 0) T.o_If T.p_If_slots GL hr) pa_nil))))
      (pss_one (ps_ret (pe_ifExp (pt_cmpR op_eq (pe_ix ix_tup (pv 1) (pe_fld (pv 0) rfl) (fun _ _ => rfl)) (pe_fld (pv 0) rfl) (nomark _)) (pe_any fun k : Kind => pe_mt (pe_fld (pv 0) rfl) (T.own k) (T.methA k) (GA k) hr (pa_cons (pv 1) pa_nil)) (pv 1)))), ?_⟩
    refine ⟨_, rfl, _, rfl, a, dx, _, rfl, ha, a, dx, b, s, v, ⟨kd, os, ov⟩, rfl, ha, ⟨dy, hb⟩, hs, ok, fun r H1 s1 e1 => ?_⟩
    refine ⟨st, r, xs, _, rfl, s1 _ _ hst, sok, SqL.of e1, Nat.le_trans (three_len _ _) (by decide), hlt, fun H2 s2 => ?_⟩
    have ha2 := s2 _ _ (s1 _ _ ha)
    have hb2 := s2 _ _ (s1 _ _ hb)
    have hst2 := s2 _ _ (s1 _ _ hst)
    refine ⟨_, rfl, _, rfl, a, c_If K, dx, _, _, rfl, ha2, T.o_If.cl, T.n_If_slot, lookA, st, _, _, _, rfl, rfl, SqT.of hst2, at_int slt, _, rfl, a, c_If K, dx, _, _, rfl, ha2, T.o_If.cl, T.n_If_value, lookB slot_value.symm, rfl, _, rfl, ?_⟩
    by_cases hc : xs.getD s 0 = (v : Int)
    · have e : decide (V.int (xs.getD s 0) = V.int (v : Int)) = true := decide_eq_true (by rw [hc])
      rw [e]
      refine iteT ⟨kd, _, rfl, a, c_If K, dx, _, _, rfl, ha2, T.o_If.cl, T.n_If_inner, lookC in_slot in_value, b, dy, _, rfl, hb2, no_apply, _, rfl, b, st, os, ov, xs, rfl, ⟨dy, hb2⟩, ok, hst2, sok, fun n hn => hlt n ((mem n).mpr (.inr hn)), fun r3 H3 s3 e3 => ?_⟩
      refine k r3 H3 ((s1.trans s2).trans s3) ?_
      rw [e3]
      show _ = some (HO.tup ((if xs.getD s 0 = (v : Int) then One.app ⟨kd, os, ov⟩ xs else xs).map V.int))
      rw [if_pos hc]
    · have e : decide (V.int (xs.getD s 0) = V.int (v : Int)) = false := decide_eq_false fun z => hc (V.int.inj z)
      rw [e]
      refine iteF ⟨_, rfl, k st H2 (s1.trans s2) ?_⟩
      rw [hst2]
      show _ = some (HO.tup ((if xs.getD s 0 = (v : Int) then One.app ⟨kd, os, ov⟩ xs else xs).map V.int))
      rw [if_neg hc]
end
end OP
namespace OP
open PySem PySem.Spec PyProof.Rows L2
/-! ### all seven classes -/
inductive CK where
  | of (k : Kind)
  | iff
def CK.cls (K : PySem.W.Frag) : CK → Addr
  | .of k => k.cls K
  | .iff => c_If K
def CK.slotsA (K : PySem.W.Frag) : CK → Addr
  | .of k => OP.slotsA K k
  | .iff => a_If_slots K
def CK.applyA (K : PySem.W.Frag) : CK → Addr
  | .of k => OP.applyA K k
  | .iff => a_If_apply K
def CK.eqA (K : PySem.W.Frag) : CK → Addr
  | .of k => OP.eqA K k
  | .iff => a_If_eq K
def Chg.ck : Chg → CK
  | .one o => .of o.k
  | .iff _ _ _ => .iff
theorem ChgAt.obj {K : PySem.W.Frag} {H : Hp} {a : Addr} {c : Chg} (h : ChgAt K H a c) : ∃ dx fs, H a = some (.ins (c.ck.cls K) dx fs) ∧ fs.lookup ("apply" : Str) = none := by
  cases c with
  | one o =>
    obtain ⟨dx, h⟩ := h
    exact ⟨dx, _, h, no_apply⟩
  | iff s v o =>
    obtain ⟨dx, b, h, _⟩ := h
    refine ⟨dx, _, h, ?_⟩
    have e : (("apply" : Str) == "slot") = false := by decide +kernel
    have e1 : (("apply" : Str) == "value") = false := by decide +kernel
    have e2 : (("apply" : Str) == "inner") = false := by decide +kernel
    simp [ifFlds, List.lookup, e, e1, e2]
section
variable {P : Program} {w : World} {K : PySem.W.Frag} {mg : Str → Option Value} {base : Heap}
theorem Ok.imp {f : Addr} {ps : List Str} {k : Nat} {sp sp' : Sp} (O : Ok P w K mg base f ps k sp) (h : ∀ vs H Q E, sp' vs H Q E → sp vs H Q E) : Ok P w K mg base f ps k sp' := by
  obtain ⟨⟨fd, G, b⟩, kp⟩ := O
  exact ⟨⟨fd, G.imp h, b⟩, kp⟩
theorem Txt.ownC (T : Txt K mg) (q : CK) : Own K (q.cls K) := by
  cases q with
  | of k => exact T.own k
  | iff => exact T.o_If
theorem Txt.kitCC (T : Txt K mg) (q : CK) : PySem.W.kitOne K (.ref (q.cls K)) (.ref (c_Change K)) = some true := by
  cases q with
  | of k => exact T.kitC k
  | iff => exact T.k_If
theorem Txt.propSC (T : Txt K mg) (q : CK) : PropOf K (q.cls K) "slots" (He.ma K (q.cls K) "slots") (q.slotsA K) := by
  cases q with
  | of k => exact T.propS k
  | iff => exact T.p_If_slots
theorem Txt.methAC (T : Txt K mg) (q : CK) : Meth K (q.cls K) "apply" (q.applyA K) := by
  cases q with
  | of k => exact T.methA k
  | iff => exact T.m_If_apply
theorem Txt.methEC (T : Txt K mg) (q : CK) : Meth K (q.cls K) "__eq__" (q.eqA K) := by
  cases q with
  | of k => exact T.methE k
  | iff => exact T.m_If_eq
def spCS (K : PySem.W.Frag) (q : CK) : Sp := fun vs H Q _ => ∃ (a : Addr) (c : Chg), vs = [.ref a] ∧ c.ck = q ∧ ChgAt K H a c ∧ c.Ok ∧ ∀ r H', Same H H' → H' r = some (.lst (c.slots.map V.int)) → Q (.ref r) H'
theorem okC_slots (T : Txt K mg) (q : CK) : Ok P w K mg base (q.slotsA K) ["self"] 3 (spCS K q) := by
  cases q with
  | of k =>
    refine ((ok_slots T k).mono (show 1 ≤ 3 by decide)).imp fun vs H Q E h => ?_
    obtain ⟨a, c, e, hk, hc, ok, q⟩ := h
    cases c with
    | one o =>
      obtain ⟨kd, s, v⟩ := o
      obtain rfl : kd = k := CK.of.inj hk
      exact ⟨a, s, v, e, hc, ok, q⟩
    | iff s v o => cases hk
  | iff =>
    refine (ok_If_slots T).imp fun vs H Q E h => ?_
    obtain ⟨a, c, e, hk, hc, ok, q⟩ := h
    cases c with
    | one o => cases hk
    | iff s v o =>
      obtain ⟨dx, b, h1, h2⟩ := hc
      exact ⟨a, dx, b, s, v, o, e, h1, h2, ok.1, ok.2.2, q⟩
def spCA (K : PySem.W.Frag) (q : CK) : Sp := fun vs H Q _ => ∃ (a st : Addr) (c : Chg) (xs : List Int), vs = [.ref a, .ref st] ∧ c.ck = q ∧ ChgAt K H a c ∧ c.Ok ∧ H st = some (.tup (xs.map V.int)) ∧ StoreOk xs ∧ (∀ n ∈ c.slots, n < (xs.length : Int)) ∧
  ∀ r H', Same H H' → H' r = some (.tup ((c.app xs).map V.int)) → Q (.ref r) H'
theorem okC_apply (T : Txt K mg) (q : CK) : Ok P w K mg base (q.applyA K) ["self", "store"] 5 (spCA K q) := by
  cases q with
  | of k =>
    refine ((ok_apply T k).mono (show 4 ≤ 5 by decide)).imp fun vs H Q E h => ?_
    obtain ⟨a, st, c, xs, e, hk, hc, ok, h1, h2, h3, q⟩ := h
    cases c with
    | one o =>
      obtain ⟨kd, s, v⟩ := o
      obtain rfl : kd = k := CK.of.inj hk
      exact ⟨a, st, s, v, xs, e, hc, ok, h1, h2, h3, q⟩
    | iff s v o => cases hk
  | iff =>
    refine (ok_If_apply T).imp fun vs H Q E h => ?_
    obtain ⟨a, st, c, xs, e, hk, hc, ok, h1, h2, h3, q⟩ := h
    cases c with
    | one o => cases hk
    | iff s v o =>
      obtain ⟨dx, b, g1, g2⟩ := hc
      exact ⟨a, st, dx, b, s, v, o, xs, e, g1, g2, ok.1, ok.2.2, h1, h2, h3, q⟩
/-- two equal changes -/
def REq (K : PySem.W.Frag) (q : CK) (a b : Addr) (H : Hp) : Prop := ∃ c : Chg, c.ck = q ∧ ChgAt K H a c ∧ ChgAt K H b c
theorem op_any {X : Cx} {ι : Type} {f : Value → Value → Sem Value} {r : ι → R2} (h : ∀ i, OpR X f (r i)) : OpR X f (fun x y H Q => ∃ i, r i x y H Q) := fun pins s σ H x y v u Q I rx ry ⟨i, q⟩ => h i pins s σ H x y v u Q I rx ry q
theorem okC_eq1 (T : Txt K mg) (k : Kind) : Ok P w K mg base (OP.eqA K k) ["self", "other"] 1 (spEq (REq K (.of k))) := by
  refine (ok_eq T k).imp fun vs H Q E h => ?_
  obtain ⟨a, b, e, ⟨c, hk, h1, h2⟩, q⟩ := h
  cases c with
  | one o =>
    obtain ⟨kd, s, v⟩ := o
    obtain rfl : kd = k := CK.of.inj hk
    exact ⟨a, b, s, v, e, h1, h2, q H fun _ _ z => z⟩
  | iff s v o => cases hk
theorem rc_of {X : Cx} {n : Nat} {f C : Addr} {ps : List Str} {R : Addr → Addr → Hp → Prop} (O : Ok X.prog X.w X.K X.mg X.base f ps n (spEq R)) (m : Meth X.K C "__eq__" f) : RcG X n (DIns C R) := by
  obtain ⟨⟨fd, G, b⟩, kp⟩ := O
  exact rcG_ins G m.at_ m.fn b pass0
theorem sc_If_eq : FnScope ["self", "other"] ["self", "other"] (defScope s_If_eq) := ⟨rfl, rfl, rfl, by decide +kernel, rfl, by decide +kernel, by decide +kernel⟩
theorem kit_If {K : PySem.W.Frag} : PySem.W.kitOne K (.ref (c_If K)) (.ref (c_If K)) = some true := by
  unfold PySem.W.kitOne
  rw [if_pos (by simp)]
theorem ok_If_eq (T : Txt K mg) : Ok P w K mg base (a_If_eq K) ["self", "other"] 2 (spEq (REq K .iff)) := by
  have GE : ∀ k, Ok P w K mg base (OP.eqA K k) ["self", "other"] 1 (spEq (REq K (.of k))) := okC_eq1 T
  refine ok_of T.f_If_eq sc_If_eq (fun _ _ _ _ _ _ us hl => match us, hl with | [_, _], _ => rfl) (fun vs H Q E h => ?_) (fun cdv A outer s0 H vs Q E hr h => ?_)
  · obtain ⟨a, b, rfl, _⟩ := h
    rfl
  · obtain ⟨a, b, rfl, ⟨c, hk, h1, h2⟩, k⟩ := h
    cases c with
    | one o => cases hk
    | iff s v o =>
      obtain ⟨dx, ia, ha, hia⟩ := h1
      obtain ⟨dy, ib, hb, hib⟩ := h2
      refine ⟨_, pss_one (ps_ret (pe_and (pe_callB call_isi (by rfl) T.z_isinstance (by decide +kernel) (pa_cons (pv 1) (pa_cons (pe_glob (v := .ref (c_If K)) (by rfl) T.g_If rfl) pa_nil)))
        (pe_and (pe_cmpR op_eq (pe_fld (pv 0) rfl) (pe_fld (pv 1) rfl) (nomark _)) (pe_and (pe_cmpR op_eq (pe_fld (pv 0) rfl) (pe_fld (pv 1) rfl) (nomark _))
        (pe_one (pe_cmpR (op_any fun k : Kind => op_eqG (rc_of (GE k) (T.methE k)) hr) (pe_fld (pv 0) rfl) (pe_fld (pv 1) rfl) (nomark _))))))), ?_⟩
      refine ⟨_, rfl, _, _, _, _, true, rfl, .own (c_If K), T.o_If.ty hb, kit_If, true, rfl, iteT ?_⟩
      refine ⟨_, rfl, a, c_If K, dx, _, _, rfl, ha, T.o_If.cl, T.n_If_slot, lookA, _, rfl, b, c_If K, dy, _, _, rfl, hb, T.o_If.cl, T.n_If_slot, lookA, rfl, true, congrArg V.bl (decide_eq_true rfl), iteT ?_⟩
      refine ⟨_, rfl, a, c_If K, dx, _, _, rfl, ha, T.o_If.cl, T.n_If_value, lookB slot_value.symm, _, rfl, b, c_If K, dy, _, _, rfl, hb, T.o_If.cl, T.n_If_value, lookB slot_value.symm, rfl, true, congrArg V.bl (decide_eq_true rfl), iteT ?_⟩
      refine ⟨_, rfl, a, c_If K, dx, _, _, rfl, ha, T.o_If.cl, T.n_If_inner, lookC in_slot in_value, _, rfl, b, c_If K, dy, _, _, rfl, hb, T.o_If.cl, T.n_If_inner, lookC in_slot in_value, o.k, ⟨ia, ib, ?_⟩, fun H' e => k H' e⟩
      obtain ⟨du, hu⟩ := id hia
      obtain ⟨dv, hv⟩ := id hib
      exact ⟨du, dv, _, _, rfl, rfl, hu, hv, .one o, rfl, hia, hib⟩
theorem okC_eq (T : Txt K mg) (q : CK) : Ok P w K mg base (q.eqA K) ["self", "other"] 2 (spEq (REq K q)) := by
  cases q with
  | of k => exact (okC_eq1 T k).mono (show 1 ≤ 2 by decide)
  | iff => exact ok_If_eq T
end
end OP
namespace OP
open PySem PySem.Spec PyProof.Rows L2
/-- a comprehension over any walk that leaves the heap as it is, each element's value known -/
theorem lcW_map {J : It} {n : Nat} {G : Hp → Prop} {Y : Nat → Hp → V → Hp → Prop} {D : Addr} {te : TE} {j : Nat} {σ : L2.St} {H1 : Hp} {Qd : Hp → Prop} (Ix : Nat → V → Prop) (ys : List V) (wk : Walk J n G Y) (hD : H1 D = none) (hsz : n ≤ 1000) (hy : ys.length = n)
    (hG : ∀ H, Same H1 H → G H) (hY : ∀ i H x H', i < n → Y i H x H' → H' = H ∧ Ix i x)
    (hs : ∀ (i : Nat) x y H (Qe : VK), Ix i x → ys[i]? = some y → Same H1 H → (∀ H', Same H H' → Qe y H') → te ((wipe σ [j]).set j (some x)) H Qe)
    (hd : ∀ H, Same H1 H → H D = some (.lst ys) → Qd H)
    (hw : ∀ x, wipe ((wipe σ [j]).set j (some x)) [j] = wipe σ [j] := by intro _; rfl) : LcOk J (gName j) tYes te [j] σ H1 D Qd := by
  refine lc_it wk (fun i H => Grow H1 D (ys.take i) H) (by rw [List.take_zero]; exact Grow.start hD) (fun i H _ g => hG H g.1) (fun i x H H' hi g y => ?_) (fun H g => ?_)
  · obtain ⟨rfl, hx⟩ := hY i H x H' hi y
    refine ⟨hw x, tyes (iteT ?_)⟩
    have hil : i < ys.length := by rw [hy]; exact hi
    refine hs i x ys[i] H' _ hx (List.getElem?_eq_getElem hil) g.1 fun H2 s2 => ?_
    obtain ⟨e1, g2⟩ := g.step (y := ys[i]) hD s2
    refine ⟨_, e1, small1000 (by rw [List.length_take]; omega), ?_⟩
    rw [show ys.take (i + 1) = ys.take i ++ [ys[i]] by rw [List.take_add_one, List.getElem?_eq_getElem hil] <;> rfl]
    exact g2
  · rw [List.take_of_length_le (by omega)] at g
    exact hd H g.1 g.2
section
variable {P : Program} {w : World} {K : PySem.W.Frag} {mg : Str → Option Value} {base : Heap}
/-- is_store_of(store, slots) of a store of so many slots -/
def spIsStoreOf : Sp := fun vs H Q _ => ∃ (a : Addr) (xs : List Int) (n : Int), vs = [.ref a, .int n] ∧ H a = some (.tup (xs.map V.int)) ∧ StoreOk xs ∧ n = (xs.length : Int) ∧ ∀ H', Same H H' → Q (.bl true) H'
theorem sc_iso : FnScope ["store", "slots"] ["store", "slots"] (defScope s_is_store_of) := ⟨rfl, rfl, rfl, by decide +kernel, rfl, by decide +kernel, by decide +kernel⟩
theorem ok_is_store_of (T : Txt K mg) : Ok P w K mg base (a_is_store_of K) ["store", "slots"] 3 spIsStoreOf := by
  have GS : Ok P w K mg base (a_is_store K) _ 2 spIsStore := ok_is_store T
  refine ok_of T.f_is_store_of sc_iso (fun _ _ _ _ _ _ us hl => match us, hl with | [_, _], _ => rfl) (fun vs H Q E h => ?_) (fun cdv A outer s H vs Q E hr h => ?_)
  · obtain ⟨a, xs, n, rfl, _⟩ := h
    rfl
  · obtain ⟨a, xs, n, rfl, ha, ok, e, k⟩ := h
    refine ⟨_, pss_one (ps_ret (pe_and (pe_c GS hr T.g_is_store (pa_cons (pv 0) pa_nil)) (pe_one (pe_cmpR op_eq (pe_callB call_len_seq (by rfl) T.z_len PySem.boot_len (pa_cons (pv 0) pa_nil)) (pv 1) (nomark _))))), ?_⟩
    refine ⟨_, rfl, a, xs, rfl, ha, ok, fun H1 s1 => ⟨true, rfl, iteT ?_⟩⟩
    refine ⟨_, rfl, a, _, rfl, .inr (SqT.of (s1 _ _ ha)), _, rfl, rfl, ?_⟩
    have e2 : decide (V.int ((xs.map V.int).length : Int) = V.int n) = true := decide_eq_true (by rw [List.length_map, e])
    show Q (.bl (decide (V.int ((xs.map V.int).length : Int) = V.int n))) H1
    rw [e2]
    exact k H1 s1
/-- stores at their places -/
abbrev Sts := List (Addr × List Int)
def StsAt (H : Hp) (S : Sts) : Prop := ∀ p ∈ S, H p.1 = some (.tup (p.2.map V.int))
theorem StsAt.ext {H H' : Hp} {S : Sts} (e : Same H H') (h : StsAt H S) : StsAt H' S := fun p hp => e _ _ (h p hp)
structure StsOk (n : Nat) (S : Sts) : Prop where
  lo : 1 ≤ S.length
  hi : S.length ≤ 8
  each : ∀ p ∈ S, StoreOk p.2 ∧ p.2.length = n
  nd : (S.map (·.2)).Nodup
def refs (S : Sts) : List V := S.map fun p => V.ref p.1
def spInitial (K : PySem.W.Frag) : Sp := fun vs H Q _ => ∃ (l : Addr) (S : Sts) (n : Nat), vs = [.ref l, .int n] ∧ H l = some (.lst (refs S)) ∧ StsAt H S ∧ StsOk n S ∧ ∀ H', Same H H' → Q (.bl true) H'
theorem sc_ais : FnScope ["stores", "slots", "store"] ["stores", "slots"] (defScope s_are_initial_stores) := ⟨rfl, rfl, rfl, by decide +kernel, rfl, by decide +kernel, by decide +kernel⟩
theorem kit_list {K : PySem.W.Frag} : PySem.W.kitOne K (.type "list") (.type "list") = some true := kit_ty (by decide +kernel)
theorem ok_initial (T : Txt K mg) : Ok P w K mg base (a_are_initial_stores K) ["stores", "slots"] 4 (spInitial K) := by
  have GO : Ok P w K mg base (a_is_store_of K) _ 3 spIsStoreOf := ok_is_store_of T
  obtain ⟨t8, m8⟩ := T.i_MOST_STORES
  refine ok_of T.f_are_initial_stores sc_ais (fun _ _ _ _ _ _ us hl => match us, hl with | [_, _], _ => rfl) (fun vs H Q E h => ?_) (fun cdv A outer s H vs Q E hr h => ?_)
  · obtain ⟨l, S, n, rfl, _⟩ := h
    rfl
  · obtain ⟨l, S, n, rfl, hl, hS, ⟨lo, hi, each, nd⟩, k⟩ := h
    have hu : _ + 64 < cLine := hr.units
    have hlen : (refs S).length = S.length := List.length_map ..
    refine ⟨_, pss_cons (ps_if (PW.pt (pw_or (pt_not (pt_val (pe_callB call_isiT (by rfl) T.z_isinstance (by decide +kernel) (pa_cons (pv 0) (pa_cons (pe_tup (pa_cons (pe_bltn (v := .ty "list") (by rfl) T.z_list (by decide +kernel) rfl) (pa_cons (pe_bltn (v := .ty "tuple") (by rfl) T.z_tuple (by decide +kernel) rfl) pa_nil))) pa_nil)))))
        (pw_or1 (pt_not (pt_chain op_le op_le pe_int (pe_callB call_len_seq (by rfl) T.z_len PySem.boot_len (pa_cons (pv 0) pa_nil)) (pe_glob (v := .int 8) (by rfl) m8 ⟨_, rfl⟩))))))
        (pss_one (ps_ret pe_bl)) pss_nil)
      (pss_one (ps_ret (pe_and (pe_callB (cr_all rfl) (by rfl) T.z_all (by decide +kernel) (pa_cons (pe_lc (own := [("store", 2)]) (g := gName 2) (tt := tYes) rfl sc_ais.nd (pi_list (pv 0)) (blkOk_by (own := [("store", 2)]) (N := ["stores", "slots", "store"]) (sc := defScope s_are_initial_stores) (by decide +kernel))
        (fun _ _ _ _ _ => pg_name (i := 2) sc_ais.nd rfl (Or.inl rfl)) (fun _ _ _ _ _ => pts_nil)
        (fun _ _ _ _ _ => pe_c GO hr T.g_is_store_of (pa_cons (pv 2) (pa_cons (pv 1) pa_nil)))) pa_nil))
        (pe_one (pe_cmpR op_eq (pe_callB call_lenT (by rfl) T.z_len PySem.boot_len (pa_cons (pe_callTy (cr_setOfT rfl hu) (by rfl) T.z_set (by decide +kernel) (pa_cons (pv 0) pa_nil)) pa_nil)) (pe_callB call_len_seq (by rfl) T.z_len PySem.boot_len (pa_cons (pv 0) pa_nil)) (nomark _)))))), ?_⟩
    refine ⟨_, rfl, (by show 2 ≤ sizeLine; decide), fun t ht => ?_⟩
    have s1 : Same H _ := same_upd (o := .tup [V.ty "list", V.ty "tuple"]) ht
    refine ⟨_, t, _, .type "list", [.type "list", .type "tuple"], true, rfl, upd_same, .cons (.ty _) (.cons (.ty _) .nil), .base (.lst (s1 _ _ hl)), kitAny_cons kit_list (fun z => by cases z) (fun _ => rfl), true, rfl, iteF ?_⟩
    refine ⟨_, rfl, l, _, rfl, .inl (SqL.of (s1 _ _ hl)), _, _, rfl, rfl, true, ?_, iteT ⟨_, _, rfl, rfl, true, ?_, iteF ?_⟩⟩
    · rw [hlen]
      exact congrArg V.bl (decide_eq_true (by omega))
    · rw [hlen]
      exact congrArg V.bl (decide_eq_true (by omega))
    refine ⟨_, rfl, l, rfl, ⟨_, SqL.of (s1 _ _ hl)⟩, fun D hD => ?_⟩
    refine lcL_map (K := K) (a := l) (xs := refs S) (List.replicate S.length (.bl true)) hD (SqL.of (s1 _ _ hl)) (by rw [hlen]; omega) (by rw [hlen, List.length_replicate]) (fun i x y H' Qe hx hy s2 kk => ?_) fun H' s2 e => ?_
    · obtain rfl := rep_at hy
      unfold refs at hx
      rw [List.getElem?_map] at hx
      obtain ⟨p, hp, rfl⟩ := Option.map_eq_some_iff.mp hx
      have mem := List.mem_of_getElem? hp
      exact ⟨_, rfl, _, rfl, p.1, p.2, n, rfl, s2 _ _ (s1 _ _ (hS p mem)), (each p mem).1, by rw [(each p mem).2], kk⟩
    · refine ⟨D, List.replicate S.length true, rfl, ?_, true, by rw [all_true], iteT ?_⟩
      · rw [map_rep]
        exact SqL.of e
      have s3 := s1.trans s2
      refine ⟨_, rfl, l, S, rfl, SqL.of (s3 _ _ hl), fun p hp => SqT.of (s3 _ _ (hS p hp)), by omega, fun q L hq sub all => ?_⟩
      refine ⟨q, L, rfl, upd_same, fun ndL => ?_⟩
      have s4 : Same H' _ := same_upd (o := SetTO P w q L) hq
      refine ⟨_, rfl, l, _, rfl, .inl (SqL.of (s4 _ _ (s3 _ _ hl))), rfl, ?_⟩
      have l1 : (L.map (·.2)).length ≤ (S.map (·.2)).length := nodup_le ndL fun z hz => by
        obtain ⟨p, hp, e2⟩ := List.mem_map.mp hz
        exact List.mem_map.mpr ⟨p, sub p hp, e2⟩
      have l2 : (S.map (·.2)).length ≤ (L.map (·.2)).length := nodup_le nd fun z hz => by
        obtain ⟨p, hp, e2⟩ := List.mem_map.mp hz
        rw [← e2]
        exact all p hp
      rw [List.length_map, List.length_map] at l1 l2
      have e2 : decide (V.int (L.length : Int) = V.int ((refs S).length : Int)) = true := decide_eq_true (by rw [hlen, Nat.le_antisymm l1 l2])
      show Q (.bl (decide (V.int (L.length : Int) = V.int ((refs S).length : Int)))) _
      rw [e2]
      exact k _ (s3.trans s4)
/-- a name: one to eight lowercase letters -/
structure NameOk (x : Str) : Prop where
  lo : 1 ≤ x.length
  hi : x.length ≤ 8
  each : ∀ c ∈ x.cps.toList, c ∈ ("abcdefghijklmnopqrstuvwxyz" : Str).cps.toList
def spIsName : Sp := fun vs H Q _ => ∃ x : Str, vs = [.str x] ∧ NameOk x ∧ ∀ H', Same H H' → Q (.bl true) H'
theorem kit_str {K : PySem.W.Frag} : PySem.W.kitOne K (.type "str") (.type "str") = some true := kit_ty (by decide +kernel)
theorem sc_in : FnScope ["name", "letter"] ["name"] (defScope s_is_name) := ⟨rfl, rfl, rfl, by decide +kernel, rfl, by decide +kernel, by decide +kernel⟩
theorem ok_is_name (T : Txt K mg) : Ok P w K mg base (a_is_name K) ["name"] 1 spIsName := by
  obtain ⟨t8, m8⟩ := T.i_MOST_LETTERS
  obtain ⟨tl, ml⟩ := T.letters
  refine ok_of T.f_is_name sc_in (fun _ _ _ _ _ _ us hl => match us, hl with | [_], _ => rfl) (fun vs H Q E h => ?_) (fun cdv A outer s H vs Q E hr h => ?_)
  · obtain ⟨x, rfl, _⟩ := h
    rfl
  · obtain ⟨x, rfl, ⟨lo, hi, each⟩, k⟩ := h
    refine ⟨_, pss_cons (ps_if (PW.pt (pw_or (pt_not (pt_val (pe_callB call_isi (by rfl) T.z_isinstance (by decide +kernel) (pa_cons (pv 0) (pa_cons (pe_bltn (v := .ty "str") (by rfl) T.z_str (by decide +kernel) rfl) pa_nil)))))
        (pw_or1 (pt_not (pt_chain op_le op_le pe_int (pe_callB call_len_str (by rfl) T.z_len PySem.boot_len (pa_cons (pv 0) pa_nil)) (pe_glob (v := .int 8) (by rfl) m8 ⟨_, rfl⟩))))))
        (pss_one (ps_ret pe_bl)) pss_nil)
      (pss_one (ps_ret (pe_callB (cr_all rfl) (by rfl) T.z_all (by decide +kernel) (pa_cons (pe_lc (own := [("letter", 1)]) (g := gName 1) (tt := tYes) rfl sc_in.nd (pi_str (pv 0)) (blkOk_by (own := [("letter", 1)]) (N := ["name", "letter"]) (sc := defScope s_is_name) (by decide +kernel))
        (fun _ _ _ _ _ => pg_name (i := 1) sc_in.nd rfl (Or.inl rfl)) (fun _ _ _ _ _ => pts_nil)
        (fun _ _ _ _ _ => pe_cmpR op_in_sign (pv 1) (pe_glob (v := .str "abcdefghijklmnopqrstuvwxyz") (by rfl) ml ⟨_, rfl⟩) (by rfl))) pa_nil)))), ?_⟩
    refine ⟨_, rfl, _, _, _, _, true, rfl, .ty "str", .base (.str x), kit_str, true, rfl, iteF ?_⟩
    refine ⟨_, rfl, x, rfl, Nat.le_trans hi (by decide), _, _, rfl, rfl, true, congrArg V.bl (decide_eq_true (by omega)), iteT ⟨_, _, rfl, rfl, true, congrArg V.bl (decide_eq_true (by omega)), iteF ?_⟩⟩
    refine ⟨_, rfl, x, rfl, fun D hD => ?_⟩
    have hn : x.cps.size = x.length := rfl
    refine lcW_map (fun i v => ∃ c, x.cps[i]? = some c ∧ v = .str ⟨#[c]⟩) (List.replicate x.cps.size (.bl true)) walk_str hD (by rw [hn]; omega) (List.length_replicate ..) (fun _ _ => trivial) (fun i H1 v H2 _ y => y) (fun i v y H1 Qe hx hy s2 kk => ?_) fun H1 s2 e => ?_
    · obtain rfl := rep_at hy
      obtain ⟨c, hc, rfl⟩ := hx
      have mem : c ∈ x.cps.toList := by
        have q : x.cps.toList[i]? = some c := by rw [Array.getElem?_toList]; exact hc
        exact List.mem_of_getElem? q
      refine ⟨_, rfl, c, _, rfl, rfl, ?_⟩
      rw [decide_eq_true (each c mem)]
      exact kk H1 (Same.refl _)
    · refine ⟨D, List.replicate x.cps.size true, rfl, ?_, ?_⟩
      · rw [map_rep]
        exact SqL.of e
      · rw [all_true]
        exact k H1 s2
/-- uses_only(change, slots) -/
def spUses (K : PySem.W.Frag) : Sp := fun vs H Q _ => ∃ (a : Addr) (c : Chg) (n : Nat), vs = [.ref a, .int n] ∧ ChgAt K H a c ∧ c.Ok ∧ (∀ z ∈ c.slots, z < (n : Int)) ∧ ∀ H', Same H H' → Q (.bl true) H'
theorem Chg.slots_len (c : Chg) : c.slots.length ≤ 3 := by
  cases c with
  | one o => exact Nat.le_succ_of_le (One.slots_len o)
  | iff s v o => exact three_len _ _
theorem sc_uo : FnScope ["change", "slots", "slot"] ["change", "slots"] (defScope s_uses_only) := ⟨rfl, rfl, rfl, by decide +kernel, rfl, by decide +kernel, by decide +kernel⟩
theorem ok_uses_only (T : Txt K mg) : Ok P w K mg base (a_uses_only K) ["change", "slots"] 5 (spUses K) := by
  have GL : ∀ q, Ok P w K mg base (CK.slotsA K q) ["self"] 3 (spCS K q) := okC_slots T
  refine ok_of T.f_uses_only sc_uo (fun _ _ _ _ _ _ us hl => match us, hl with | [_, _], _ => rfl) (fun vs H Q E h => ?_) (fun cdv A outer s H vs Q E hr h => ?_)
  · obtain ⟨a, c, n, rfl, _⟩ := h
    rfl
  · obtain ⟨a, c, n, rfl, ha, ok, hlt, k⟩ := h
    obtain ⟨dx, fs, ho, _⟩ := ha.obj
    refine ⟨_, pss_one (ps_ret (pe_and (pe_callB call_isi (by rfl) T.z_isinstance (by decide +kernel) (pa_cons (pv 0) (pa_cons (pe_glob (v := .ref (c_Change K)) (by rfl) T.g_Change rfl) pa_nil)))
      (pe_one (pe_callB (cr_all rfl) (by rfl) T.z_all (by decide +kernel) (pa_cons (pe_lc (own := [("slot", 2)]) (g := gName 2) (tt := tYes) rfl sc_uo.nd (pi_list (pe_any fun q : CK => pe_pr (pv 0) (T.ownC q) (T.propSC q) (GL q) hr)) (blkOk_by (own := [("slot", 2)]) (N := ["change", "slots", "slot"]) (sc := defScope s_uses_only) (by decide +kernel))
        (fun _ _ _ _ _ => pg_name (i := 2) sc_uo.nd rfl (Or.inl rfl)) (fun _ _ _ _ _ => pts_nil)
        (fun _ _ _ _ _ => pe_cmpR op_lt (pv 2) (pv 1) (nomark _))) pa_nil))))), ?_⟩
    refine ⟨_, rfl, _, _, _, _, true, rfl, .own (c_Change K), (T.ownC c.ck).ty ho, T.kitCC c.ck, true, rfl, iteT ?_⟩
    refine ⟨c.ck, _, rfl, a, dx, fs, rfl, ho, a, c, rfl, rfl, ha, ok, fun r H1 s1 e1 => ⟨r, rfl, ⟨_, SqL.of e1⟩, fun D hD => ?_⟩⟩
    have hm : (c.slots.map V.int).length = c.slots.length := List.length_map ..
    refine lcL_map (K := K) (a := r) (xs := c.slots.map V.int) (List.replicate c.slots.length (.bl true)) hD (SqL.of e1) (by rw [hm]; exact Nat.le_trans (Chg.slots_len c) (by decide)) (by rw [hm, List.length_replicate]) (fun i x y H' Qe hx hy s2 kk => ?_) fun H' s2 e => ?_
    · obtain ⟨z, hz, rfl⟩ := ints_at hx
      obtain rfl := rep_at hy
      refine ⟨_, rfl, _, rfl, _, _, rfl, rfl, ?_⟩
      show Qe (.bl (decide (z < (n : Int)))) H'
      rw [decide_eq_true (hlt z (List.mem_of_getElem? hz))]
      exact kk H' (Same.refl _)
    · refine ⟨D, List.replicate c.slots.length true, rfl, ?_, ?_⟩
      · rw [map_rep]
        exact SqL.of e
      · rw [all_true]
        exact k H' (s1.trans s2)
end
end OP
namespace OP
open PySem PySem.Spec PyProof.Rows L2
/-! ### named changes: name, place, what it is -/
abbrev Ncs := List (Str × Addr × Chg)
def kvs (L : Ncs) : List (Key × V) := L.map fun p => (Sum.inr p.1, V.ref p.2.1)
def names (L : Ncs) : List Str := L.map (·.1)
def ChgsAt (K : PySem.W.Frag) (H : Hp) (L : Ncs) : Prop := ∀ p ∈ L, ChgAt K H p.2.1 p.2.2
structure ChgsOk (n : Nat) (L : Ncs) : Prop where
  lo : 2 ≤ L.length
  hi : L.length ≤ 4
  name : ∀ p ∈ L, NameOk p.1
  chg : ∀ p ∈ L, p.2.2.Ok ∧ ∀ z ∈ p.2.2.slots, z < (n : Int)
  nd : (names L).Nodup
theorem ChgsAt.ext {K : PySem.W.Frag} {H H' : Hp} {L : Ncs} (e : Same H H') (h : ChgsAt K H L) : ChgsAt K H' L := fun p hp => (h p hp).ext e
theorem ins_ne {H : Hp} {a d C dx : Addr} {fs : List (Str × V)} {kv : List (Key × V)} (h : H a = some (.ins C dx fs)) (hd : H d = some (.dK kv)) : a ≠ d := fun z => by
  rw [z, hd] at h
  cases h
theorem OneAt.lock {K : PySem.W.Frag} {H : Hp} {a d : Addr} {o : One} {kv : List (Key × V)} {u : HO} (hd : H d = some (.dK kv)) (h : OneAt K H a o) : OneAt K (upd H d u) a o := by
  obtain ⟨dx, h⟩ := h
  exact ⟨dx, by rw [upd_ne (ins_ne h hd)]; exact h⟩
theorem ChgAt.lock {K : PySem.W.Frag} {H : Hp} {a d : Addr} {c : Chg} {kv : List (Key × V)} {u : HO} (hd : H d = some (.dK kv)) (h : ChgAt K H a c) : ChgAt K (upd H d u) a c := by
  cases c with
  | one o => exact OneAt.lock hd h
  | iff s v o =>
    obtain ⟨dx, b, h1, h2⟩ := h
    exact ⟨dx, b, by rw [upd_ne (ins_ne h1 hd)]; exact h1, OneAt.lock hd h2⟩
theorem lock_same {H H' : Hp} {d : Addr} {u v : HO} (hd : H d = some u) (s : Same (upd H d v) H') : Same H (upd H' d u) := fun b o e => by
  by_cases hb : b = d
  · rw [hb, upd_same, ← hd, ← e, hb]
  · rw [upd_ne hb]
    exact s _ _ (by rw [upd_ne hb]; exact e)
theorem kvs_at {L : Ncs} {i : Nat} (h : i < L.length) : (kvs L)[i]? = some (Sum.inr L[i].1, V.ref L[i].2.1) := by
  unfold kvs
  rw [List.getElem?_map, List.getElem?_eq_getElem h] <;> rfl
theorem kvs_len (L : Ncs) : (kvs L).length = L.length := List.length_map ..
section
variable {P : Program} {w : World} {K : PySem.W.Frag} {mg : Str → Option Value} {base : Heap}
def spCheckChanges (K : PySem.W.Frag) : Sp := fun vs H Q _ => ∃ (d : Addr) (L : Ncs) (n : Nat), vs = [.ref d, .int n] ∧ H d = some (.dK (kvs L)) ∧ ChgsAt K H L ∧ ChgsOk n L ∧ ∀ H', Same H H' → Q .non H'
theorem kit_dict {K : PySem.W.Frag} : PySem.W.kitOne K (.type "dict") (.type "dict") = some true := kit_ty (by decide +kernel)
theorem sc_cc : FnScope ["changes", "slots", "name", "change"] ["changes", "slots"] (defScope s_check_changes) := ⟨rfl, rfl, rfl, by decide +kernel, rfl, by decide +kernel, by decide +kernel⟩
theorem ok_check_changes (T : Txt K mg) : Ok P w K mg base (a_check_changes K) ["changes", "slots"] 6 (spCheckChanges K) := by
  have GN : Ok P w K mg base (a_is_name K) _ 1 spIsName := ok_is_name T
  have GU : Ok P w K mg base (a_uses_only K) _ 5 (spUses K) := ok_uses_only T
  obtain ⟨t2, m2⟩ := T.i_LEAST_CHANGES
  obtain ⟨t4, m4⟩ := T.i_MOST_CHANGES
  refine ok_of T.f_check_changes sc_cc (fun _ _ _ _ _ _ us hl => match us, hl with | [_, _], _ => rfl) (fun vs H Q E h => ?_) (fun cdv A outer s0 H vs Q E hr h => ?_)
  · obtain ⟨d, L, n, rfl, _⟩ := h
    rfl
  · obtain ⟨d, L, n, rfl, hd, hL, ⟨lo, hi, nm, ch, _⟩, k⟩ := h
    have hr1 : Room 1 _ := hr.mono (by decide)
    refine ⟨_, pss_cons (ps_if (PW.pt (pw_or (pt_not (pt_val (pe_callB call_isi (by rfl) T.z_isinstance (by decide +kernel) (pa_cons (pv 0) (pa_cons (pe_bltn (v := .ty "dict") (by rfl) T.z_dict (by decide +kernel) rfl) pa_nil)))))
        (pw_or1 (pt_not (pt_chain op_le op_le (pe_glob (v := .int 2) (by rfl) m2 ⟨_, rfl⟩) (pe_callB call_lenD (by rfl) T.z_len PySem.boot_len (pa_cons (pv 0) pa_nil)) (pe_glob (v := .int 4) (by rfl) m4 ⟨_, rfl⟩))))))
        (pss_one ps_never) pss_nil)
      (pss_one (ps_lock (ps_for PassesOwn.never rfl (pi_items (pv 0)) (pg_tup rfl (pgs_cons (pg_name (i := 2) sc_cc.nd rfl (Or.inl rfl)) (pgs_cons (pg_name (i := 3) sc_cc.nd rfl (Or.inl rfl)) pgs_nil)))
        (pss_one (ps_if (PW.pt (pw_or (pt_not (pt_val (pe_c GN hr1 T.g_is_name (pa_cons (pv 2) pa_nil)))) (pw_or1 (pt_not (pt_val (pe_c GU hr T.g_uses_only (pa_cons (pv 3) (pa_cons (pv 1) pa_nil)))))))) (pss_one ps_never) pss_nil))))), ?_⟩
    refine ⟨_, rfl, _, _, _, _, true, rfl, .ty "dict", .base (.dK hd), kit_dict, true, rfl, iteF ?_⟩
    refine ⟨_, rfl, d, _, rfl, hd, _, _, rfl, rfl, true, ?_, iteT ⟨_, _, rfl, rfl, true, ?_, iteF ?_⟩⟩
    · rw [kvs_len]
      exact congrArg V.bl (decide_eq_true (by omega))
    · rw [kvs_len]
      exact congrArg V.bl (decide_eq_true (by omega))
    refine ⟨d, _, hd, trivial, fun od => ⟨_, rfl, d, od, kvs L, rfl, upd_same, ?_⟩⟩
    refine for_it walk_items (fun _ σ H' => (∃ v2 v3, σ = [some (.ref d), some (.int n), v2, v3]) ∧ Same (upd H d (.frz od (.dK (kvs L)))) H') ⟨⟨none, none, rfl⟩, Same.refl _⟩ (fun i σ H' _ p => p.2 _ _ upd_same) (fun i x σ H1 H2 hi p y => ?_) (fun σ H' p => ?_)
    · obtain ⟨⟨v2, v3, rfl⟩, s1⟩ := p
      obtain ⟨t, x1, x2, rfl, ht, rfl, e1, e2⟩ := y
      have hiL : i < L.length := by rw [kvs_len] at hi; exact hi
      dsimp only at e1 e2
      rw [kvs_at hiL] at e1 e2
      cases e1
      cases e2
      have mem : L[i] ∈ L := List.getElem_mem hiL
      have s2 : Same H1 _ := same_upd (o := .tup [V.str L[i].1, V.ref L[i].2.1]) ht
      refine ⟨t, _, rfl, SqT.of upd_same, rfl, _, _, rfl, _, _, rfl, rfl, ?_⟩
      refine ⟨_, rfl, L[i].1, rfl, nm _ mem, fun H3 s3 => ⟨true, rfl, iteF ?_⟩⟩
      refine ⟨_, rfl, _, rfl, L[i].2.1, L[i].2.2, n, rfl, ((hL _ mem).lock hd).ext ((s1.trans s2).trans s3), (ch _ mem).1, (ch _ mem).2, fun H4 s4 => ⟨true, rfl, iteF ?_⟩⟩
      exact ⟨⟨_, _, rfl⟩, ((s1.trans s2).trans s3).trans s4⟩
    · exact ⟨p.2 _ _ upd_same, k _ (lock_same hd p.2)⟩
end
end OP
namespace OP
open PySem PySem.Spec PyProof.Rows L2
theorem valV_kvs : ∀ {L : Ncs} {i : Nat} (nd : (names L).Nodup) (h : i < L.length), valV (kvs L) (Sum.inr L[i].1 : Key) = some (V.ref L[i].2.1)
  | [], i, _, h => absurd h (Nat.not_lt_zero _)
  | p :: L, 0, _, _ => valV_pos rfl
  | p :: L, i + 1, nd, h => by
    obtain ⟨n1, n2⟩ := List.nodup_cons.mp nd
    have hi : i < L.length := Nat.lt_of_succ_lt_succ h
    have ne : ¬ ((Sum.inr p.1 : Key) = Sum.inr L[i].1) := fun z => n1 (by
      have e : p.1 = L[i].1 := Sum.inr.inj z
      show p.1 ∈ names L
      rw [e]
      exact List.mem_map.mpr ⟨L[i], List.getElem_mem hi, rfl⟩)
    show valV ((Sum.inr p.1, V.ref p.2.1) :: kvs L) (Sum.inr L[i].1 : Key) = _
    rw [valV_neg ne]
    exact valV_kvs n2 hi
theorem valV_not {L : Ncs} {x : Str} (h : x ∉ names L) : valV (kvs L) (Sum.inr x : Key) = none := by
  induction L with
  | nil => rfl
  | cons p L ih =>
    have ne : ¬ ((Sum.inr p.1 : Key) = Sum.inr x) := fun z => h (by
      have e : p.1 = x := Sum.inr.inj z
      show x ∈ p.1 :: names L
      rw [e]
      exact List.mem_cons_self)
    show valV ((Sum.inr p.1, V.ref p.2.1) :: kvs L) (Sum.inr x : Key) = none
    rw [valV_neg ne]
    exact ih fun z => h (List.mem_cons_of_mem _ z)
theorem name_fresh {L : Ncs} {i : Nat} (nd : (names L).Nodup) (h : i < L.length) : L[i].1 ∉ names (L.take i) := fun z => by
  unfold names at z nd
  rw [List.map_take] at z
  obtain ⟨m, hm, em⟩ := List.mem_take_iff_getElem.mp z
  have e2 : (L.map (·.1))[m] = (L.map (·.1))[i]'(by rw [List.length_map]; exact h) := by rw [em, List.getElem_map]
  have := (List.getElem_inj nd).mp e2
  omega
theorem kvs_snoc {L : Ncs} {i : Nat} (nd : (names L).Nodup) (h : i < L.length) : putK (kvs (L.take i)) (Sum.inr L[i].1 : Key) (V.ref L[i].2.1) = kvs (L.take (i + 1)) := by
  rw [putK_new _ (valV_not (name_fresh nd h))]
  have e : L.take (i + 1) = L.take i ++ [L[i]] := by rw [List.take_add_one, List.getElem?_eq_getElem h] <;> rfl
  rw [e]
  unfold kvs
  rw [List.map_append] <;> rfl
/-- a dict comprehension over any walk -/
def DcOk (J : It) (g : TG) (tt : TT) (tk tv : TE) (vs : List Nat) (σ : L2.St) (H1 : Hp) (D : Addr) (Qd : Hp → Prop) : Prop :=
  ∃ W : Nat → Nat → Hp → Prop, (∃ m, W 0 m (upd H1 D (.dK []))) ∧ ∀ i m H, W i m H → (J.stop i H ∧ Qd H) ∨ (J.go i H ∧ ∃ Nx : Hp → Prop, (∀ H', Nx H' → ∃ m', m' < m ∧ W (i + 1) m' H') ∧
    ∀ x H', J.yld i H x H' → g x (wipe σ vs) H' fun σ2 H2 => wipe σ2 vs = wipe σ vs ∧ tt σ2 H2 fun b H3 => if b = true then tk σ2 H3 fun y H4 => tv σ2 H4 fun z H5 => ∃ kv k, y = kV k ∧ H5 D = some (.dK kv) ∧ kv.length < sizeLine ∧ Nx (upd H5 D (.dK (putK kv k z))) else Nx H3)
theorem dc_it {J : It} {n : Nat} {G : Hp → Prop} {Y : Nat → Hp → V → Hp → Prop} (wk : Walk J n G Y) {g : TG} {tt : TT} {tk tv : TE} {vs : List Nat} {σ : L2.St} {H1 : Hp} {D : Addr} {Qd : Hp → Prop} (Pv : Nat → Hp → Prop) (h0 : Pv 0 (upd H1 D (.dK []))) (hG : ∀ i H, i ≤ n → Pv i H → G H)
    (hs : ∀ i x H H', i < n → Pv i H → Y i H x H' → g x (wipe σ vs) H' fun σ2 H2 => wipe σ2 vs = wipe σ vs ∧ tt σ2 H2 fun b H3 =>
      if b = true then tk σ2 H3 fun y H4 => tv σ2 H4 fun z H5 => ∃ kv k, y = kV k ∧ H5 D = some (.dK kv) ∧ kv.length < sizeLine ∧ Pv (i + 1) (upd H5 D (.dK (putK kv k z))) else Pv (i + 1) H3) (hd : ∀ H, Pv n H → Qd H) :
    DcOk J g tt tk tv vs σ H1 D Qd := by
  refine ⟨fun i m H => m = n - i ∧ i ≤ n ∧ Pv i H, ⟨n, rfl, Nat.zero_le _, h0⟩, fun i m H hW => ?_⟩
  obtain ⟨rfl, hi, p⟩ := hW
  by_cases lt : i < n
  · exact .inr ⟨wk.goes i H lt (hG i H hi p), Pv (i + 1), fun H' p' => ⟨n - (i + 1), by omega, rfl, lt, p'⟩, fun x H' y => hs i x H H' lt p (wk.yields i H x H' lt (hG i H hi p) y)⟩
  · obtain rfl : i = n := by omega
    exact .inl ⟨wk.stops H (hG _ H hi p), hd H p⟩
/-! ### worlds -/
def wFlds (n : Nat) (l d : Addr) : List (Str × V) := [("width", .int n), ("starts", .ref l), ("made", .ref d)]
theorem w_s : ("starts" : Str) ≠ "width" := by decide +kernel
theorem w_m : ("made" : Str) ≠ "width" := by decide +kernel
theorem s_m : ("made" : Str) ≠ "starts" := by decide +kernel
structure WorldAt (K : PySem.W.Frag) (H : Hp) (p : Addr) (n : Nat) (S : Sts) (L : Ncs) : Prop where
  ob : ∃ dx l d, H p = some (.ins (c_World K) dx (wFlds n l d)) ∧ H l = some (.lst (refs S)) ∧ H d = some (.dK (kvs L))
  sts : StsAt H S
  chgs : ChgsAt K H L
structure WOk (n : Nat) (S : Sts) (L : Ncs) : Prop where
  n1 : 1 ≤ n
  n3 : n ≤ 3
  sts : StsOk n S
  chgs : ChgsOk n L
theorem WorldAt.ext {K : PySem.W.Frag} {H H' : Hp} {p : Addr} {n : Nat} {S : Sts} {L : Ncs} (e : Same H H') (h : WorldAt K H p n S L) : WorldAt K H' p n S L := by
  obtain ⟨⟨dx, l, d, h1, h2, h3⟩, h4, h5⟩ := h
  exact ⟨⟨dx, l, d, e _ _ h1, e _ _ h2, e _ _ h3⟩, h4.ext e, h5.ext e⟩
theorem OneAt.off {K : PySem.W.Frag} {H H' : Hp} {a p C dp : Addr} {o : One} (hp : H p = some (.ins C dp [])) (e : ∀ b u, b ≠ p → H b = some u → H' b = some u) (h : OneAt K H a o) : OneAt K H' a o := by
  obtain ⟨dx, h⟩ := h
  exact ⟨dx, e _ _ (fun z => by rw [z, hp] at h; cases h) h⟩
theorem ChgAt.off {K : PySem.W.Frag} {H H' : Hp} {a p C dp : Addr} {c : Chg} (hp : H p = some (.ins C dp [])) (e : ∀ b u, b ≠ p → H b = some u → H' b = some u) (h : ChgAt K H a c) : ChgAt K H' a c := by
  cases c with
  | one o => exact OneAt.off hp e h
  | iff s v o =>
    obtain ⟨dx, b, h1, h2⟩ := h
    exact ⟨dx, b, e _ _ (fun z => by rw [z, hp] at h1; cases h1) h1, OneAt.off hp e h2⟩
section
variable {P : Program} {w : World} {K : PySem.W.Frag} {mg : Str → Option Value} {base : Heap}
def spWInit (K : PySem.W.Frag) : Sp := fun vs H Q _ => ∃ (p dx l d : Addr) (n : Nat) (S : Sts) (L : Ncs), vs = [.ref p, .int n, .ref l, .ref d] ∧ WOk n S L ∧ H p = some (.ins (c_World K) dx []) ∧ H l = some (.lst (refs S)) ∧ StsAt H S ∧ H d = some (.dK (kvs L)) ∧ ChgsAt K H L ∧
  ∀ H', (∀ b u, b ≠ p → H b = some u → H' b = some u) → WorldAt K H' p n S L → Q .non H'
theorem sc_wi : FnScope ["self", "slots", "stores", "changes", "name"] ["self", "slots", "stores", "changes"] (defScope s_World_init) := ⟨rfl, rfl, rfl, by decide +kernel, rfl, by decide +kernel, by decide +kernel⟩
theorem ok_World_init (T : Txt K mg) : Ok P w K mg base (a_World_init K) ["self", "slots", "stores", "changes"] 7 (spWInit K) := by
  have GN : Ok P w K mg base (a_is_number K) _ 1 spIsNumber := ok_is_number T
  have GI : Ok P w K mg base (a_are_initial_stores K) _ 4 (spInitial K) := ok_initial T
  have GC : Ok P w K mg base (a_check_changes K) _ 6 (spCheckChanges K) := ok_check_changes T
  obtain ⟨t3, m3⟩ := T.i_MOST_SLOTS
  refine ok_of T.f_World_init sc_wi (fun _ _ _ _ _ _ us hl => match us, hl with | [_, _, _, _], _ => rfl) (fun vs H Q E h => ?_) (fun cdv A outer s0 H vs Q E hr h => ?_)
  · obtain ⟨p, dx, l, d, n, S, L, rfl, _⟩ := h
    rfl
  · obtain ⟨p, dx, l, d, n, S, L, rfl, ok, hp, hl, hS, hd, hL, k⟩ := h
    have hr1 : Room 1 _ := hr.mono (by decide)
    have hr4 : Room 4 _ := hr.mono (by decide)
    have n1 := ok.n1
    have n3 := ok.n3
    refine ⟨_, pss_cons (ps_if (pt_not (pt_val (pe_c GN hr1 T.g_is_number (pa_cons (pv 1) (pa_cons pe_int (pa_cons (pe_glob (v := .int 3) (by rfl) m3 ⟨_, rfl⟩) pa_nil)))))) (pss_one ps_never) pss_nil)
      (pss_cons (ps_if (pt_not (pt_val (pe_c GI hr4 T.g_are_initial_stores (pa_cons (pv 2) (pa_cons (pv 1) pa_nil))))) (pss_one ps_never) pss_nil)
      (pss_cons (ps_expr (pe_c GC hr T.g_check_changes (pa_cons (pv 3) (pa_cons (pv 1) pa_nil))))
      (pss_cons (ps_fld (pv 0) (pv 1) rfl)
      (pss_cons (ps_fld (pv 0) (pe_callTy call_list_of (by rfl) T.z_list (by decide +kernel) (pa_cons (pv 2) pa_nil)) rfl)
      (pss_one (ps_fld (pv 0) (pe_lock (pe_dc (own := [("name", 4)]) (g := gName 4) (tt := tYes) rfl sc_wi.nd (pi_keys (pv 3)) (blkOk_by (own := [("name", 4)]) (N := ["self", "slots", "stores", "changes", "name"]) (sc := defScope s_World_init) (by decide +kernel))
        (fun _ _ _ _ _ => pg_name (i := 4) sc_wi.nd rfl (Or.inl rfl)) (fun _ _ _ _ _ => pts_nil) (fun _ _ _ _ _ => pv 4) (fun _ _ _ _ _ => pe_dget (hu_of hr) (pv 3) (pv 4) (fun _ _ => rfl)))) rfl)))))), ?_⟩
    refine ⟨_, rfl, n, 1, 3, rfl, true, ?_, iteF ?_⟩
    · rw [decide_eq_true (show (1 : Int) ≤ n by omega), decide_eq_true (show (n : Int) ≤ 3 by omega)] <;> rfl
    refine ⟨_, rfl, _, rfl, l, S, n, rfl, hl, hS, ok.sts, fun H1 s1 => ⟨true, rfl, iteF ?_⟩⟩
    refine ⟨_, rfl, _, rfl, d, L, n, rfl, s1 _ _ hd, hL.ext s1, ok.chgs, fun H2 s2 => ?_⟩
    have s12 := s1.trans s2
    have hp2 := s12 _ _ hp
    refine ⟨_, rfl, _, rfl, p, c_World K, dx, [], rfl, hp2, T.o_World.cl, T.n_World_width, (by show 0 < 1000; decide), ?_⟩
    have npl : l ≠ p := fun z => by rw [z, hp] at hl; cases hl
    have npd : d ≠ p := fun z => by rw [z, hp] at hd; cases hd
    refine ⟨_, rfl, l, _, rfl, .inl (SqL.of (by rw [upd_ne npl]; exact s12 _ _ hl)), fun l2 hl2 => ?_⟩
    have nlp : l2 ≠ p := fun z => by rw [z, upd_same] at hl2; cases hl2
    refine ⟨_, rfl, p, c_World K, dx, _, rfl, Eq.trans (upd_ne nlp.symm) upd_same, T.o_World.cl, T.n_World_starts, (by show 1 < 1000; decide), ?_⟩
    -- the heap now
    generalize hH : upd (upd (upd H2 p (.ins (c_World K) dx (putF "width" (.int n) []))) l2 (.lst (refs S))) p (.ins (c_World K) dx (putF "starts" (.ref l2) (putF "width" (.int n) []))) = H5
    have o5 : ∀ b u, b ≠ p → H b = some u → H5 b = some u := fun b u hb e => by
      have e2 := s12 _ _ e
      rw [← hH, upd_ne hb, upd_ne (ne_of_none (by rw [upd_ne hb]; exact e2) hl2), upd_ne hb]
      exact e2
    have hp5 : H5 p = some (.ins (c_World K) dx (putF "starts" (.ref l2) (putF "width" (.int n) []))) := by rw [← hH, upd_same]
    have hl5 : H5 l2 = some (.lst (refs S)) := by rw [← hH, upd_ne nlp, upd_same]
    have hd5 := o5 _ _ npd hd
    refine ⟨d, _, hd5, trivial, fun od => ⟨_, rfl, d, od, rfl, .inl ⟨kvs L, upd_same, fun D hD => ?_⟩⟩⟩
    have nDd : D ≠ d := fun z => by rw [z, upd_same] at hD; cases hD
    have nd := ok.chgs.nd
    refine dc_it walk_keys (fun i H' => (∀ b u, b ≠ D → upd H5 d (.frz od (.dK (kvs L))) b = some u → H' b = some u) ∧ H' D = some (.dK (kvs (L.take i)))) ⟨fun b u hb e => by rw [upd_ne hb]; exact e, upd_same⟩ (fun i H' _ q => q.1 _ _ nDd.symm upd_same) (fun i x H6 H7 hi q y => ?_) (fun H6 q => ?_)
    · obtain ⟨rfl, kk, vv, ekv, rfl⟩ := y
      have hiL : i < L.length := by rw [kvs_len] at hi; exact hi
      rw [kvs_at hiL] at ekv
      cases ekv
      refine ⟨rfl, tyes (iteT ⟨_, rfl, _, rfl, _, rfl, d, V.ref L[i].2.1, rfl, ?_, ?_⟩)⟩
      · exact .inl ⟨kvs L, Sum.inr L[i].1, .inr ⟨od, q.1 _ _ nDd.symm upd_same⟩, rfl, (valV_kvs nd hiL).symm⟩
      · refine ⟨kvs (L.take i), Sum.inr L[i].1, rfl, q.2, small1000 (by rw [kvs_len, List.length_take]; have := ok.chgs.hi; omega), fun b u hb e => ?_, ?_⟩
        · rw [upd_ne hb]
          exact q.1 b u hb e
        · rw [upd_same, kvs_snoc nd hiL]
    · rw [kvs_len, List.take_length] at q
      obtain ⟨q1, q2⟩ := q
      refine ⟨q1 _ _ nDd.symm upd_same, ?_⟩
      have nDp : D ≠ p := fun z => by
        rw [upd_ne nDd, z, hp5] at hD
        cases hD
      have nDl : D ≠ l2 := fun z => by
        rw [upd_ne nDd, z, hl5] at hD
        cases hD
      have n2d : l2 ≠ d := fun z => by
        rw [z, hd5] at hl5
        cases hl5
      have o6 : ∀ b u, b ≠ d → H5 b = some u → upd H6 d (.dK (kvs L)) b = some u := fun b u hb e => by
        rw [upd_ne hb]
        refine q1 b u (fun z => ?_) (by rw [upd_ne hb]; exact e)
        rw [upd_ne nDd, ← z, e] at hD
        cases hD
      have hp6 := o6 _ _ npd.symm hp5
      refine ⟨_, rfl, p, c_World K, dx, _, rfl, hp6, T.o_World.cl, T.n_World_made, (by rw [putF2 w_s.symm]; show 2 < 1000; decide), ?_⟩
      rw [putF3 w_s.symm w_m.symm s_m.symm]
      have o7 : ∀ b u, b ≠ p → H b = some u → upd (upd H6 d (.dK (kvs L))) p (.ins (c_World K) dx [("width", .int n), ("starts", .ref l2), ("made", .ref D)]) b = some u := fun b u hb e => by
        rw [upd_ne hb]
        by_cases hbd : b = d
        · rw [hbd, upd_same]
          rw [hbd, hd] at e
          exact e
        · exact o6 b u hbd (o5 b u hb e)
      refine k _ o7 ⟨⟨dx, l2, D, upd_same, ?_, ?_⟩, fun q hq => ?_, fun q hq => ?_⟩
      · rw [upd_ne nlp]
        exact o6 _ _ n2d hl5
      · rw [upd_ne nDp, upd_ne nDd]
        exact q2
      · exact o7 _ _ (fun z => by have e := hS q hq; rw [z, hp] at e; cases e) (hS q hq)
      · exact (hL q hq).off hp o7
end
end OP
namespace OP
open PySem PySem.Spec PyProof.Rows L2
/-! ### what the changes compute -/
theorem val_ok {o : One} {xs : List Int} (ok : o.Ok) (sx : StoreOk xs) (h : ∀ n ∈ o.slots, n < (xs.length : Int)) : 0 ≤ o.val xs ∧ o.val xs ≤ 7 := by
  obtain ⟨k, s, v⟩ := o
  have v7 : v ≤ 7 := ok.v7
  have at_ : ∀ i, i < xs.length → 0 ≤ xs.getD i 0 ∧ xs.getD i 0 ≤ 7 := fun i hi => sx.each _ (List.mem_of_getElem? (getD_at hi))
  have hs := at_ s (Int.ofNat_lt.mp (h _ (One.s_mem ⟨k, s, v⟩)))
  cases k with
  | put => show 0 ≤ (v : Int) ∧ (v : Int) ≤ 7; omega
  | move => exact at_ v (Int.ofNat_lt.mp (h _ (One.v_mem ⟨.move, s, v⟩ rfl)))
  | add => show 0 ≤ (xs.getD s 0 + v) % 8 ∧ (xs.getD s 0 + v) % 8 ≤ 7; omega
  | addslot => show 0 ≤ (xs.getD s 0 + xs.getD v 0) % 8 ∧ (xs.getD s 0 + xs.getD v 0) % 8 ≤ 7; omega
  | rais =>
    show 0 ≤ (if (v : Int) > xs.getD s 0 then (v : Int) else xs.getD s 0) ∧ (if (v : Int) > xs.getD s 0 then (v : Int) else xs.getD s 0) ≤ 7
    split <;> omega
  | lower =>
    show 0 ≤ (if (v : Int) < xs.getD s 0 then (v : Int) else xs.getD s 0) ∧ (if (v : Int) < xs.getD s 0 then (v : Int) else xs.getD s 0) ≤ 7
    split <;> omega
theorem One.app_ok {o : One} {xs : List Int} (ok : o.Ok) (sx : StoreOk xs) (h : ∀ n ∈ o.slots, n < (xs.length : Int)) : StoreOk (o.app xs) ∧ (o.app xs).length = xs.length := by
  have hl : (o.app xs).length = xs.length := List.length_set ..
  refine ⟨⟨by rw [hl]; exact sx.lo, by rw [hl]; exact sx.hi, fun z hz => ?_⟩, hl⟩
  rcases List.mem_or_eq_of_mem_set hz with q | q
  · exact sx.each z q
  · rw [q]
    exact val_ok ok sx h
theorem Chg.app_ok {c : Chg} {xs : List Int} (ok : c.Ok) (sx : StoreOk xs) (h : ∀ n ∈ c.slots, n < (xs.length : Int)) : StoreOk (c.app xs) ∧ (c.app xs).length = xs.length := by
  cases c with
  | one o => exact One.app_ok ok sx h
  | iff s v o =>
    show StoreOk (if xs.getD s 0 = (v : Int) then o.app xs else xs) ∧ (if xs.getD s 0 = (v : Int) then o.app xs else xs).length = xs.length
    split
    · exact One.app_ok ok.2.2 sx fun n hn => h n ((three_mem ok.1 (One.slots_bd ok.2.2) n).mpr (.inr hn))
    · exact ⟨sx, rfl⟩
/-- the change of a name -/
def chgOf (L : Ncs) (x : Str) : Chg := ((L.find? fun p => decide (p.1 = x)).map (·.2.2)).getD (.one ⟨.put, 0, 0⟩)
def appAll (L : Ncs) (ys : List Str) (xs : List Int) : List Int := ys.foldl (fun z y => (chgOf L y).app z) xs
theorem mem_names {L : Ncs} {x : Str} (h : x ∈ names L) : ∃ i, ∃ hi : i < L.length, L[i].1 = x := by
  obtain ⟨p, hp, e⟩ := List.mem_map.mp h
  obtain ⟨i, hi, e2⟩ := List.mem_iff_getElem.mp hp
  exact ⟨i, hi, by rw [e2]; exact e⟩
theorem chgOf_at : ∀ {L : Ncs} {i : Nat} (nd : (names L).Nodup) (h : i < L.length), chgOf L L[i].1 = L[i].2.2
  | [], i, _, h => absurd h (Nat.not_lt_zero _)
  | p :: L, 0, _, _ => by
    show chgOf (p :: L) p.1 = p.2.2
    unfold chgOf
    rw [List.find?_cons_of_pos (by simp)] <;> rfl
  | p :: L, i + 1, nd, h => by
    obtain ⟨n1, n2⟩ := List.nodup_cons.mp nd
    have hi : i < L.length := Nat.lt_of_succ_lt_succ h
    have ne : ¬ (p.1 = L[i].1) := fun z => n1 (by
      show p.1 ∈ names L
      rw [z]
      exact List.mem_map.mpr ⟨L[i], List.getElem_mem hi, rfl⟩)
    have ih := chgOf_at n2 hi
    show chgOf (p :: L) L[i].1 = L[i].2.2
    unfold chgOf at ih ⊢
    rw [List.find?_cons_of_neg (by simpa using ne)]
    exact ih
section
variable {P : Program} {w : World} {K : PySem.W.Frag} {mg : Str → Option Value} {base : Heap}
def spKnown (K : PySem.W.Frag) : Sp := fun vs H Q _ => ∃ (p : Addr) (x : Str) (n : Nat) (S : Sts) (L : Ncs), vs = [.ref p, .str x] ∧ WorldAt K H p n S L ∧ (names L).Nodup ∧ x ∈ names L ∧ Q (.bl true) H
theorem sc_ik : FnScope ["world", "name"] ["world", "name"] (defScope s_is_known) := ⟨rfl, rfl, rfl, by decide +kernel, rfl, by decide +kernel, by decide +kernel⟩
theorem ok_is_known (T : Txt K mg) : Ok P w K mg base (a_is_known K) ["world", "name"] 1 (spKnown K) := by
  refine ok_of T.f_is_known sc_ik (fun _ _ _ _ _ _ us hl => match us, hl with | [_, _], _ => rfl) (fun vs H Q E h => ?_) (fun cdv A outer s H vs Q E hr h => ?_)
  · obtain ⟨p, x, n, S, L, rfl, _⟩ := h
    rfl
  · obtain ⟨p, x, n, S, L, rfl, ⟨⟨dx, l, d, hp, hl, hd⟩, _, _⟩, nd, hx, k⟩ := h
    obtain ⟨i, hi, rfl⟩ := mem_names hx
    refine ⟨_, pss_one (ps_ret (pe_and (pe_callB call_isi (by rfl) T.z_isinstance (by decide +kernel) (pa_cons (pv 1) (pa_cons (pe_bltn (v := .ty "str") (by rfl) T.z_str (by decide +kernel) rfl) pa_nil)))
      (pe_one (pe_cmp (pc_din (hu_of hr) (pv 1) (pe_fld (pv 0) rfl)) rfl)))), ?_⟩
    refine ⟨_, rfl, _, _, _, _, true, rfl, .ty "str", .base (.str _), kit_str, true, rfl, iteT ?_⟩
    refine ⟨_, rfl, _, rfl, p, c_World K, dx, _, _, rfl, hp, T.o_World.cl, T.n_World_made, lookC w_m s_m, d, _, rfl, DGet.k (k := Sum.inr L[i].1) hd, ?_⟩
    rw [valV_kvs nd hi]
    exact k
def spWidth (K : PySem.W.Frag) : Sp := fun vs H Q _ => ∃ (p : Addr) (n : Nat) (S : Sts) (L : Ncs), vs = [.ref p] ∧ WorldAt K H p n S L ∧ Q (.int n) H
theorem sc_ws : FnScope ["self"] ["self"] (defScope s_World_slots) := ⟨rfl, rfl, rfl, by decide +kernel, rfl, by decide +kernel, by decide +kernel⟩
theorem ok_World_slots (T : Txt K mg) : Ok P w K mg base (a_World_slots K) ["self"] 1 (spWidth K) := by
  refine ok_of T.f_World_slots sc_ws (fun _ _ _ _ _ _ us hl => match us, hl with | [_], _ => rfl) (fun vs H Q E h => ?_) (fun cdv A outer s H vs Q E hr h => ?_)
  · obtain ⟨p, n, S, L, rfl, _⟩ := h
    rfl
  · obtain ⟨p, n, S, L, rfl, ⟨⟨dx, l, d, hp, hl, hd⟩, _, _⟩, k⟩ := h
    refine ⟨_, pss_one (ps_ret (pe_fld (pv 0) rfl)), ?_⟩
    exact ⟨_, rfl, p, c_World K, dx, _, _, rfl, hp, T.o_World.cl, T.n_World_width, lookA, k⟩
def spStores (K : PySem.W.Frag) : Sp := fun vs H Q _ => ∃ (p : Addr) (n : Nat) (S : Sts) (L : Ncs), vs = [.ref p] ∧ WorldAt K H p n S L ∧ ∀ r H', Same H H' → H' r = some (.lst (refs S)) → Q (.ref r) H'
theorem sc_wst : FnScope ["self"] ["self"] (defScope s_World_stores) := ⟨rfl, rfl, rfl, by decide +kernel, rfl, by decide +kernel, by decide +kernel⟩
theorem ok_World_stores (T : Txt K mg) : Ok P w K mg base (a_World_stores K) ["self"] 1 (spStores K) := by
  refine ok_of T.f_World_stores sc_wst (fun _ _ _ _ _ _ us hl => match us, hl with | [_], _ => rfl) (fun vs H Q E h => ?_) (fun cdv A outer s H vs Q E hr h => ?_)
  · obtain ⟨p, n, S, L, rfl, _⟩ := h
    rfl
  · obtain ⟨p, n, S, L, rfl, ⟨⟨dx, l, d, hp, hl, hd⟩, _, _⟩, k⟩ := h
    refine ⟨_, pss_one (ps_ret (pe_callTy call_list_of (by rfl) T.z_list (by decide +kernel) (pa_cons (pe_fld (pv 0) rfl) pa_nil))), ?_⟩
    exact ⟨_, rfl, p, c_World K, dx, _, _, rfl, hp, T.o_World.cl, T.n_World_starts, lookB w_s, l, _, rfl, .inl (SqL.of hl), fun r hr => k r _ (same_upd hr) upd_same⟩
def spNames (K : PySem.W.Frag) : Sp := fun vs H Q _ => ∃ (p : Addr) (n : Nat) (S : Sts) (L : Ncs), vs = [.ref p] ∧ WorldAt K H p n S L ∧ ∀ r H', Same H H' → H' r = some (.lst ((names L).map V.str)) → Q (.ref r) H'
theorem kvs_keys (L : Ncs) : (kvs L).map (fun kv => kV kv.1) = (names L).map V.str := by
  unfold kvs names
  rw [List.map_map, List.map_map] <;> rfl
theorem sc_wn : FnScope ["self"] ["self"] (defScope s_World_names) := ⟨rfl, rfl, rfl, by decide +kernel, rfl, by decide +kernel, by decide +kernel⟩
theorem ok_World_names (T : Txt K mg) : Ok P w K mg base (a_World_names K) ["self"] 1 (spNames K) := by
  refine ok_of T.f_World_names sc_wn (fun _ _ _ _ _ _ us hl => match us, hl with | [_], _ => rfl) (fun vs H Q E h => ?_) (fun cdv A outer s H vs Q E hr h => ?_)
  · obtain ⟨p, n, S, L, rfl, _⟩ := h
    rfl
  · obtain ⟨p, n, S, L, rfl, ⟨⟨dx, l, d, hp, hl, hd⟩, _, _⟩, k⟩ := h
    refine ⟨_, pss_one (ps_ret (pe_callTy (call_list_dK rfl) (by rfl) T.z_list (by decide +kernel) (pa_cons (pe_fld (pv 0) rfl) pa_nil))), ?_⟩
    refine ⟨_, rfl, p, c_World K, dx, _, _, rfl, hp, T.o_World.cl, T.n_World_made, lookC w_m s_m, d, _, rfl, hd, fun r hr => k r _ (same_upd hr) ?_⟩
    rw [upd_same, kvs_keys]
def spChange (K : PySem.W.Frag) : Sp := fun vs H Q _ => ∃ (p : Addr) (n : Nat) (S : Sts) (L : Ncs) (i : Nat) (hi : i < L.length), vs = [.ref p, .str L[i].1] ∧ WorldAt K H p n S L ∧ (names L).Nodup ∧ Q (.ref L[i].2.1) H
theorem sc_wc : FnScope ["self", "name"] ["self", "name"] (defScope s_World_change) := ⟨rfl, rfl, rfl, by decide +kernel, rfl, by decide +kernel, by decide +kernel⟩
theorem ok_World_change (T : Txt K mg) : Ok P w K mg base (a_World_change K) ["self", "name"] 2 (spChange K) := by
  have GK : Ok P w K mg base (a_is_known K) _ 1 (spKnown K) := ok_is_known T
  refine ok_of T.f_World_change sc_wc (fun _ _ _ _ _ _ us hl => match us, hl with | [_, _], _ => rfl) (fun vs H Q E h => ?_) (fun cdv A outer s H vs Q E hr h => ?_)
  · obtain ⟨p, n, S, L, i, hi, rfl, _⟩ := h
    rfl
  · obtain ⟨p, n, S, L, i, hi, rfl, W, nd, k⟩ := h
    obtain ⟨⟨dx, l, d, hp, hl, hd⟩, _, _⟩ := id W
    refine ⟨_, pss_cons (ps_if (pt_not (pt_val (pe_c GK hr T.g_is_known (pa_cons (pv 0) (pa_cons (pv 1) pa_nil))))) (pss_one ps_never) pss_nil) (pss_one (ps_ret (pe_dget (hu_of hr) (pe_fld (pv 0) rfl) (pv 1) (fun _ _ => rfl)))), ?_⟩
    refine ⟨_, rfl, _, rfl, p, L[i].1, n, S, L, rfl, W, nd, List.mem_map.mpr ⟨L[i], List.getElem_mem hi, rfl⟩, true, rfl, iteF ?_⟩
    refine ⟨_, rfl, p, c_World K, dx, _, _, rfl, hp, T.o_World.cl, T.n_World_made, lookC w_m s_m, _, rfl, d, V.ref L[i].2.1, rfl, .inl ⟨kvs L, Sum.inr L[i].1, .inl hd, rfl, (valV_kvs nd hi).symm⟩, k⟩
def spIsOrder (K : PySem.W.Frag) : Sp := fun vs H Q _ => ∃ (p a : Addr) (ys : List Str) (n : Nat) (S : Sts) (L : Ncs), vs = [.ref p, .ref a] ∧ WorldAt K H p n S L ∧ (names L).Nodup ∧ H a = some (.tup (ys.map V.str)) ∧ ys.Nodup ∧ ys.length ≤ 4 ∧ (∀ y ∈ ys, y ∈ names L) ∧ ∀ H', Same H H' → Q (.bl true) H'
theorem strs_at' {ns : List Str} {i : Nat} {x : V} (h : (ns.map V.str)[i]? = some x) : ∃ n, ns[i]? = some n ∧ x = .str n := by
  rw [List.getElem?_map] at h
  cases e : ns[i]? with
  | none => rw [e] at h; cases h
  | some n => rw [e] at h; exact ⟨n, rfl, (Option.some.inj h).symm⟩
theorem sc_io : FnScope ["world", "order", "name"] ["world", "order"] (defScope s_is_order) := ⟨rfl, rfl, rfl, by decide +kernel, rfl, by decide +kernel, by decide +kernel⟩
theorem ok_is_order (T : Txt K mg) : Ok P w K mg base (a_is_order K) ["world", "order"] 2 (spIsOrder K) := by
  have GK : Ok P w K mg base (a_is_known K) _ 1 (spKnown K) := ok_is_known T
  refine ok_of T.f_is_order sc_io (fun _ _ _ _ _ _ us hl => match us, hl with | [_, _], _ => rfl) (fun vs H Q E h => ?_) (fun cdv A outer s H vs Q E hr h => ?_)
  · obtain ⟨p, a, ys, n, S, L, rfl, _⟩ := h
    rfl
  · obtain ⟨p, a, ys, n, S, L, rfl, W, ndL, ha, nd, h4, hin, k⟩ := h
    have hm : (ys.map V.str).length = ys.length := List.length_map ..
    refine ⟨_, pss_cons (ps_if (PW.pt (pw_or (pt_not (pt_val (pe_callB call_isi (by rfl) T.z_isinstance (by decide +kernel) (pa_cons (pv 1) (pa_cons (pe_bltn (v := .ty "tuple") (by rfl) T.z_tuple (by decide +kernel) rfl) pa_nil)))))
        (pw_or1 (pt_not (pt_val (pe_callB (cr_all rfl) (by rfl) T.z_all (by decide +kernel) (pa_cons (pe_lc (own := [("name", 2)]) (g := gName 2) (tt := tYes) rfl sc_io.nd (pi_tup (pv 1)) (blkOk_by (own := [("name", 2)]) (N := ["world", "order", "name"]) (sc := defScope s_is_order) (by decide +kernel))
          (fun _ _ _ _ _ => pg_name (i := 2) sc_io.nd rfl (Or.inl rfl)) (fun _ _ _ _ _ => pts_nil)
          (fun _ _ _ _ _ => pe_c GK hr T.g_is_known (pa_cons (pv 0) (pa_cons (pv 2) pa_nil)))) pa_nil))))))) (pss_one (ps_ret pe_bl)) pss_nil)
      (pss_one (ps_ret (pe_cmpR op_eq (pe_callB call_lenK (by rfl) T.z_len PySem.boot_len (pa_cons (pe_callTy (cr_setS rfl) (by rfl) T.z_set (by decide +kernel) (pa_cons (pv 1) pa_nil)) pa_nil)) (pe_callB call_len_seq (by rfl) T.z_len PySem.boot_len (pa_cons (pv 1) pa_nil)) (nomark _)))), ?_⟩
    refine ⟨_, rfl, _, _, _, _, true, rfl, .ty "tuple", .base (.tup ha), kit_tup, true, rfl, iteF ?_⟩
    refine ⟨_, rfl, a, rfl, ⟨_, SqT.of ha⟩, fun D hD => ?_⟩
    refine lcT_map (K := K) (a := a) (xs := ys.map V.str) (List.replicate ys.length (.bl true)) hD (SqT.of ha) (by rw [hm]; omega) (by rw [hm, List.length_replicate]) (fun i x y H' Qe hx hy s1 kk => ?_) fun H' s1 e => ?_
    · obtain ⟨z, hz, rfl⟩ := strs_at' hx
      obtain rfl := rep_at hy
      exact ⟨_, rfl, _, rfl, p, z, n, S, L, rfl, W.ext s1, ndL, hin z (List.mem_of_getElem? hz), kk H' (Same.refl _)⟩
    · refine ⟨D, List.replicate ys.length true, rfl, ?_, true, by rw [all_true], iteF ?_⟩
      · rw [map_rep]
        exact SqL.of e
      refine ⟨_, rfl, a, ys, rfl, SqT.of (s1 _ _ ha), by omega, nd, fun q hq => ?_⟩
      have s2 : Same H' _ := same_upd (o := SetK P w q (inS ys) ys.length) hq
      refine ⟨q, _, ys.length, rfl, upd_same, by omega, ?_⟩
      refine ⟨_, rfl, a, _, rfl, .inr (SqT.of (s2 _ _ (s1 _ _ ha))), rfl, ?_⟩
      have e2 : decide (V.int (ys.length : Int) = V.int ((ys.map V.str).length : Int)) = true := decide_eq_true (by rw [hm])
      show Q (.bl (decide (V.int (ys.length : Int) = V.int ((ys.map V.str).length : Int)))) _
      rw [e2]
      exact k _ (s1.trans s2)
def spEnd (K : PySem.W.Frag) : Sp := fun vs H Q _ => ∃ (p st a : Addr) (xs : List Int) (ys : List Str) (n : Nat) (S : Sts) (L : Ncs), vs = [.ref p, .ref st, .ref a] ∧ WorldAt K H p n S L ∧ WOk n S L ∧ H st = some (.tup (xs.map V.int)) ∧ StoreOk xs ∧ xs.length = n ∧
  H a = some (.tup (ys.map V.str)) ∧ ys.Nodup ∧ ys.length ≤ 4 ∧ (∀ y ∈ ys, y ∈ names L) ∧ ∀ r H', Same H H' → H' r = some (.tup ((appAll L ys xs).map V.int)) → Q (.ref r) H'
theorem sc_we : FnScope ["self", "store", "order", "reached", "name"] ["self", "store", "order"] (defScope s_World_end) := ⟨rfl, rfl, rfl, by decide +kernel, rfl, by decide +kernel, by decide +kernel⟩
theorem ok_World_end (T : Txt K mg) : Ok P w K mg base (a_World_end K) ["self", "store", "order"] 6 (spEnd K) := by
  have GS : Ok P w K mg base (a_is_store_of K) _ 3 spIsStoreOf := ok_is_store_of T
  have GO : Ok P w K mg base (a_is_order K) _ 2 (spIsOrder K) := ok_is_order T
  have GA : ∀ q, Ok P w K mg base (CK.applyA K q) ["self", "store"] 5 (spCA K q) := okC_apply T
  refine ok_of T.f_World_end sc_we (fun _ _ _ _ _ _ us hl => match us, hl with | [_, _, _], _ => rfl) (fun vs H Q E h => ?_) (fun cdv A outer s H vs Q E hr h => ?_)
  · obtain ⟨p, st, a, xs, ys, n, S, L, rfl, _⟩ := h
    rfl
  · obtain ⟨p, st, a, xs, ys, n, S, L, rfl, W, ok, hst, sx, hn, ha, nd, h4, hin, k⟩ := h
    obtain ⟨⟨dx, l, d, hp, hl, hd⟩, _, hL⟩ := id W
    have hr2 : Room 2 _ := hr.mono (by decide)
    have hr3 : Room 3 _ := hr.mono (by decide)
    refine ⟨_, pss_cons (ps_if (pt_not (pt_val (pe_c GS hr3 T.g_is_store_of (pa_cons (pv 1) (pa_cons (pe_fld (pv 0) rfl) pa_nil))))) (pss_one ps_never) pss_nil)
      (pss_cons (ps_if (pt_not (pt_val (pe_c GO hr2 T.g_is_order (pa_cons (pv 0) (pa_cons (pv 2) pa_nil))))) (pss_one ps_never) pss_nil)
      (pss_cons (ps_set (i := 3) sc_we.nd rfl (Or.inl rfl) (pv 1))
      (pss_cons (ps_for PassesOwn.never rfl (pi_tup (pv 2)) (pg_name (i := 4) sc_we.nd rfl (Or.inl rfl))
        (pss_one (ps_set (i := 3) sc_we.nd rfl (Or.inl rfl) (pe_any fun q : CK => pe_mt (pe_dget (hu_of hr) (pe_fld (pv 0) rfl) (pv 4) (fun _ _ => rfl)) (T.ownC q) (T.methAC q) (GA q) hr (pa_cons (pv 3) pa_nil)))))
      (pss_one (ps_ret (pv 3)))))), ?_⟩
    refine ⟨_, rfl, _, rfl, p, c_World K, dx, _, _, rfl, hp, T.o_World.cl, T.n_World_width, lookA, st, xs, n, rfl, hst, sx, by rw [hn], fun H1 s1 => ⟨true, rfl, iteF ?_⟩⟩
    refine ⟨_, rfl, _, rfl, p, a, ys, n, S, L, rfl, W.ext s1, ok.chgs.nd, s1 _ _ ha, nd, h4, hin, fun H2 s2 => ⟨true, rfl, iteF ?_⟩⟩
    refine ⟨_, rfl, ?_⟩
    have s12 := s1.trans s2
    have hm : (ys.map V.str).length = ys.length := List.length_map ..
    refine ⟨_, rfl, a, rfl, ⟨_, SqT.of (s12 _ _ ha)⟩, for_tup (K := K) (a := a) (xs := ys.map V.str) (fun i σ H' => ∃ r v zs, σ = [some (.ref p), some (.ref st), some (.ref a), some (.ref r), v] ∧ Same H H' ∧ zs = appAll L (ys.take i) xs ∧ StoreOk zs ∧ zs.length = n ∧ H' r = some (.tup (zs.map V.int)))
      ⟨st, none, xs, rfl, s12, rfl, sx, hn, s12 _ _ hst⟩ (fun i σ H' _ q => ?_) (fun i x σ H' hx q => ?_) fun σ H' q => ?_⟩
    · obtain ⟨_, _, _, _, s3, _⟩ := q
      exact SqT.of (s3 _ _ ha)
    · obtain ⟨r, v, zs, rfl, s3, ez, sz, hz, hr'⟩ := q
      obtain ⟨y, hy, rfl⟩ := strs_at' hx
      obtain ⟨j, hj, rfl⟩ := mem_names (hin y (List.mem_of_getElem? hy))
      have mem : L[j] ∈ L := List.getElem_mem hj
      have hc := (hL _ mem).ext s3
      obtain ⟨dc, fs, ho, hna⟩ := hc.obj
      have ch := ok.chgs.chg _ mem
      have hlt : ∀ z ∈ L[j].2.2.slots, z < (zs.length : Int) := fun z h => by rw [hz]; exact ch.2 z h
      refine ⟨L[j].2.2.ck, _, rfl, p, c_World K, dx, _, _, rfl, s3 _ _ hp, T.o_World.cl, T.n_World_made, lookC w_m s_m, _, rfl, d, V.ref L[j].2.1, rfl, .inl ⟨kvs L, Sum.inr L[j].1, .inl (s3 _ _ hd), rfl, (valV_kvs ok.chgs.nd hj).symm⟩, L[j].2.1, dc, fs, rfl, ho, hna,
        _, rfl, L[j].2.1, r, L[j].2.2, zs, rfl, rfl, hc, ch.1, hr', sz, hlt, fun r2 H4 s4 e4 => ?_⟩
      have ap := Chg.app_ok ch.1 sz hlt
      refine ⟨r2, _, L[j].2.2.app zs, rfl, s3.trans s4, ?_, ap.1, ap.2.trans hz, e4⟩
      rw [ez, List.take_add_one, hy]
      unfold appAll
      rw [List.foldl_append]
      show _ = (chgOf L L[j].1).app _
      rw [chgOf_at ok.chgs.nd hj]
    · obtain ⟨r, v, zs, rfl, s3, ez, sz, hz, hr'⟩ := q
      refine ⟨_, rfl, k r H' s3 ?_⟩
      rw [hr', ez, hm, List.take_length]
end
end OP
namespace OP
open PySem PySem.Spec PyProof.Rows L2
/-! ### data: stores, lists of stores, texts -/
def dT (xs : List Int) : PyData := .tuple (xs.map PyData.int)
def dN (ys : List Str) : PyData := .tuple (ys.map PyData.str)
theorem lay_T (xs : List Int) : (dT xs).canLay0 = true := by
  unfold dT
  simp only [PyData.canLay0]
  exact PySem.W.ke_canLayAll0 xs
theorem dep_T (xs : List Int) : (dT xs).depth = 1 := by
  unfold dT
  simp only [PyData.depth, PySem.W.ke_depthAll xs]
theorem lay_strs : ∀ ys : List Str, (∀ y ∈ ys, PyData.strOk y = true) → PyData.canLayAll0 (ys.map PyData.str) = true
  | [], _ => rfl
  | y :: ys, h => by
    simp only [List.map_cons, PyData.canLayAll0, PyData.canLay0, h y List.mem_cons_self, lay_strs ys fun z hz => h z (List.mem_cons_of_mem _ hz), Bool.and_self]
theorem dep_strs : ∀ ys : List Str, PyData.depthAll (ys.map PyData.str) = 0
  | [] => rfl
  | y :: ys => by simp only [List.map_cons, PyData.depthAll, PyData.depth, dep_strs ys, Nat.max_self]
theorem lay_all {α : Type} {f : α → PyData} : ∀ xs : List α, (∀ x ∈ xs, (f x).canLay0 = true) → PyData.canLayAll0 (xs.map f) = true
  | [], _ => rfl
  | x :: xs, h => by
    simp only [List.map_cons, PyData.canLayAll0, h x List.mem_cons_self, lay_all xs fun z hz => h z (List.mem_cons_of_mem _ hz), Bool.and_self]
theorem dep_all {α : Type} {f : α → PyData} {n : Nat} : ∀ xs : List α, (∀ x ∈ xs, (f x).depth ≤ n) → PyData.depthAll (xs.map f) ≤ n
  | [], _ => Nat.zero_le _
  | x :: xs, h => by
    simp only [List.map_cons, PyData.depthAll]
    exact Nat.max_le.mpr ⟨h x List.mem_cons_self, dep_all xs fun z hz => h z (List.mem_cons_of_mem _ hz)⟩
theorem shp {d : PyData} (h1 : d.canLay0 = true) (h2 : d.depth ≤ 64) : SeqAt.shaped d = true := by
  show (d.canLay0 && decide (d.depth ≤ 64)) = true
  rw [h1, decide_eq_true h2]
  rfl
theorem shp_T (xs : List Int) : SeqAt.shaped (dT xs) = true := shp (lay_T xs) (by rw [dep_T]; decide)
theorem shp_Ts (xs : List (List Int)) : SeqAt.shaped (.list (xs.map dT)) = true := shp (by simp only [PyData.canLay0]; exact lay_all xs fun x _ => lay_T x) (by
  simp only [PyData.depth]
  have := dep_all (n := 1) (f := dT) xs fun x _ => by rw [dep_T]; exact Nat.le_refl _
  omega)
theorem shp_strs {ys : List Str} (h : ∀ y ∈ ys, PyData.strOk y = true) : SeqAt.shaped (.list (ys.map PyData.str)) = true := shp (by simp only [PyData.canLay0]; exact lay_strs ys h) (by
  simp only [PyData.depth, dep_strs]
  decide)
theorem lay_N {ys : List Str} (h : ∀ y ∈ ys, PyData.strOk y = true) : (dN ys).canLay0 = true := by
  unfold dN
  simp only [PyData.canLay0]
  exact lay_strs ys h
theorem dep_N (ys : List Str) : (dN ys).depth = 1 := by
  unfold dN
  simp only [PyData.depth, dep_strs]
theorem shp_Ns {zs : List (List Str)} (h : ∀ z ∈ zs, ∀ y ∈ z, PyData.strOk y = true) : SeqAt.shaped (.list (zs.map dN)) = true := shp (by simp only [PyData.canLay0]; exact lay_all zs fun x hx => lay_N (h x hx)) (by
  simp only [PyData.depth]
  have := dep_all (n := 1) (f := dN) zs fun x _ => by rw [dep_N]; exact Nat.le_refl _
  omega)
theorem eqv_shp {d : PyData} (h : SeqAt.shaped d = true) : PyData.eqv d d = true := SeqAt.eqv_refl d (SeqAt.canLay_of_shaped h)
theorem eqvAll_ints : ∀ xs ys : List Int, PyData.eqvAll (xs.map PyData.int) (ys.map PyData.int) = decide (xs = ys)
  | [], [] => by simp [PyData.eqvAll]
  | [], _ :: _ => by simp [PyData.eqvAll]
  | _ :: _, [] => by simp [PyData.eqvAll]
  | a :: r, b :: t => by
    simp only [List.map_cons, PyData.eqvAll, PyData.eqv, eqvAll_ints r t]
    by_cases h : a = b <;> by_cases h' : r = t <;> simp [h, h']
theorem eqv_T (xs ys : List Int) : PyData.eqv (dT xs) (dT ys) = decide (xs = ys) := by
  unfold dT
  simp only [PyData.eqv]
  exact eqvAll_ints xs ys
section
variable {K : PySem.W.Frag} {H : Hp}
theorem dp_ints : ∀ xs : List Int, DpAll K H (xs.map V.int) (xs.map PyData.int)
  | [] => .nil
  | x :: xs => .cons (.int x) (dp_ints xs)
theorem dp_strs : ∀ xs : List Str, DpAll K H (xs.map V.str) (xs.map PyData.str)
  | [] => .nil
  | x :: xs => .cons (.str x) (dp_strs xs)
theorem dp_T {a : Addr} {xs : List Int} (h : H a = some (.tup (xs.map V.int))) : Dp K H (.ref a) (dT xs) := .tup (SqT.of h) (dp_ints xs)
theorem dp_N {a : Addr} {xs : List Str} (h : H a = some (.tup (xs.map V.str))) : Dp K H (.ref a) (dN xs) := .tup (SqT.of h) (dp_strs xs)
theorem dp_refs : ∀ S : Sts, StsAt H S → DpAll K H (refs S) ((S.map (·.2)).map dT)
  | [], _ => .nil
  | p :: S, h => .cons (dp_T (h p List.mem_cons_self)) (dp_refs S fun q hq => h q (List.mem_cons_of_mem _ hq))
theorem dp_Ts {l : Addr} {S : Sts} (hl : H l = some (.lst (refs S))) (h : StsAt H S) : Dp K H (.ref l) (.list ((S.map (·.2)).map dT)) := .lst (SqL.of hl) (dp_refs S h)
end
/-! ### the same rules, the written part by its name -/
section
variable {X : Cx}
theorem op_eqDK (K : PySem.W.Frag) (hu : X.A.units + 64 < cLine) (hK : X.K = K := by rfl) : OpR X (compareOp .Eq) (rEqD K) := by
  subst hK
  exact op_eqD hu
theorem op_neDK (K : PySem.W.Frag) (hu : X.A.units + 64 < cLine) (hK : X.K = K := by rfl) : OpR X (compareOp .NotEq) (rNeD K) := by
  subst hK
  exact op_neD hu
theorem ix_tupK (K : PySem.W.Frag) (hK : X.K = K := by rfl) : IxR X (rIxT K) := by
  subst hK
  exact ix_tup
theorem ix_listK (K : PySem.W.Frag) (hK : X.K = K := by rfl) : IxR X (rIxL K) := by
  subst hK
  exact ix_list
theorem op_catAK (K : PySem.W.Frag) (hK : X.K = K := by rfl) : OpR X (binaryOp .Add) (rCatA K) := by
  subst hK
  exact op_catA
end
end OP
namespace OP
open PySem PySem.Spec PyProof.Rows L2
/-! the written part by its name, for what stands in a comprehension -/
section
variable {X : Cx}
theorem pg_tupK {es : List Expr} {k n : Nat} {t : TGs} {pos : Pos} (K : PySem.W.Frag) (hc : X.calm = true) (h : PGs X es t) (hn : (assignEach es X.env).length = n := by rfl) (hst : (assignEach es X.env).findIdx? (·.1) = none := by rfl) (hK : X.K = K := by rfl) : PG X (.Tuple es k pos) (gTup K n t) := by
  subst hK
  exact pg_tup hc h hn hst
theorem pi_listK {tg e : Expr} {te : TE} (K : PySem.W.Frag) (h : PE X e te) (hK : X.K = K := by rfl) : PI X tg e (iList K te) := by
  subst hK
  exact pi_list h
theorem pi_tupK {tg e : Expr} {te : TE} (K : PySem.W.Frag) (h : PE X e te) (hK : X.K = K := by rfl) : PI X tg e (iTup K te) := by
  subst hK
  exact pi_tup h
theorem tbmK {T : String} {r : V → List V → Hp → VK → Prop} {to : TE} {t : TA} {e : Expr} (K : PySem.W.Frag) (h : PE X e (tBM X.K T r to t)) (hK : X.K = K := by rfl) : PE X e (tBM K T r to t) := by
  subst hK
  exact h
theorem mt_indexK (K : PySem.W.Frag) (hK : X.K = K := by rfl) : MtR X "list.index" (rIndex K) := by
  subst hK
  exact mt_index
theorem cr_anyK (K : PySem.W.Frag) (hc : X.calm = true) (hK : X.K = K := by rfl) : CallR X (.builtin "any") (rAny K) := by
  subst hK
  exact cr_any hc
theorem cr_allK (K : PySem.W.Frag) (hc : X.calm = true) (hK : X.K = K := by rfl) : CallR X (.builtin "all") (rAll K) := by
  subst hK
  exact cr_all hc
theorem op_notInK (K : PySem.W.Frag) (hK : X.K = K := by rfl) : OpR X (compareOp .NotIn) (rIn K true) := by
  subst hK
  exact op_notIn_seq
theorem op_inK (K : PySem.W.Frag) (hK : X.K = K := by rfl) : OpR X (compareOp .In) (rIn K false) := by
  subst hK
  exact op_in_seq
end
end OP
namespace OP
open PySem PySem.Spec PyProof.Rows L2
theorem inV_strs (y : Str) : ∀ ys : List Str, inV (.str y) (ys.map V.str) = decide (y ∈ ys)
  | [] => rfl
  | x :: ys => by
    have ih := inV_strs y ys
    unfold inV at ih ⊢
    rw [List.map_cons, List.any_cons, ih]
    show ((x == y) || decide (y ∈ ys)) = _
    by_cases h : x = y
    · rw [h, beq_self_eq_true, Bool.true_or, decide_eq_true List.mem_cons_self]
    · rw [beq_eq_false_iff_ne.mpr h, Bool.false_or]
      refine decide_eq_decide.mpr ⟨fun z => List.mem_cons_of_mem _ z, fun z => ?_⟩
      rcases List.mem_cons.mp z with z | z
      · exact absurd z.symm h
      · exact z
theorem flat_strs (ys : List Str) : (ys.map V.str).all flatV = true := by
  rw [List.all_eq_true]
  intro v hv
  obtain ⟨_, _, rfl⟩ := List.mem_map.mp hv
  rfl
end OP
/-! xs += ys of two lists: the left one grows in place -/
namespace OP
open PySem PySem.Spec PyProof.Rows L2
theorem li_seq : isSeqSlot (some (.builtin "list.__iadd__")) = true := by decide +kernel
theorem li_slot : seqSlot? (.type "list") (dunderI "add") = pure (some (.builtin "list.__iadd__")) := PySem.seqSlot_of F.slot_list_iadd.lookup li_seq
theorem li_fill : fillsInplaceSlot (.type "list") "add" (Operator.Add == .Add) = pure false := by
  unfold fillsInplaceSlot
  show (typeLookup (.type "list") (dunderI "add") >>= fun fi => pure (fi.isSome && !isSeqSlot fi)) = pure false
  have lk : typeLookup (.type "list") (dunderI "add") = pure (some (.builtin "list.__iadd__")) := F.slot_list_iadd.lookup
  rw [lk]
  show (pure (true && !isSeqSlot (some (.builtin "list.__iadd__"))) : Sem Bool) = pure false
  rw [li_seq] <;> rfl
section
variable {X : Cx}
def rIadd : V → V → Hp → VK → Prop := fun x y H Q => ∃ l b xs zs, x = .ref l ∧ y = .ref b ∧ H l = some (.lst xs) ∧ H b = some (.lst zs) ∧ xs.length + zs.length ≤ sizeLine ∧ Q (.ref l) (upd H l (.lst (xs ++ zs)))
theorem ip_list : PIp X .Add rIadd := by
  intro pins s σ H x y v u Q I rx ry h
  obtain ⟨l, b, xs, zs, rfl, rfl, hH, hB, hz, q⟩ := h
  cases rx
  cases ry
  obtain ⟨z, its, n, r, hl, e⟩ := I.lstM hH
  obtain ⟨z2, its2, n2, r2, hl2, e2⟩ := I.lstM hB
  have fit : its.toArray.size + its2.toArray.size ≤ sizeLine := by rw [List.size_toArray, List.size_toArray]; omega
  have short : ¬ (!its.toArray.isEmpty && Builtin.List.listTooLong (its.toArray.size + its2.toArray.size)) = true := by
    rw [notLongL fit, Bool.and_false]
    exact Bool.false_ne_true
  unfold inplaceOp
  refine wpAny_holding ?_
  refine wpAny_bind (wpAny_typeOf (T := "list") ⟨_, e, rfl⟩ (wpAny_bind (wpAny_of_eq li_fill ?_)))
  show wpAny _ _ (if false = true then _ else _) _ _ s
  rw [if_neg Bool.false_ne_true]
  refine wpAny_bind (wpAny_binaryOp1_none (T := "list") (nm := "add") ⟨_, e, rfl⟩ ⟨_, e2, rfl⟩ noFill_list_add ?_)
  refine wpAny_bind (wpAny_of_eq li_slot (wpAny_bind (wpAny_rule ?_)))
  refine call_meets F.slot_list_iadd ⟨_, e, rfl⟩ F.entry_list_iadd (F.args_list_iadd_2 _ _) (AutoSeq1.list___iadd___list_list_0 l its.toArray n b its2.toArray n2 short (by rw [List.size_toArray]; omega) (by omega)) ⟨e, e2, ?_⟩
  refine ⟨.ref l, _, I.lset (its' := its ++ its2) hH e (by simp) (r.append r2) ?_, rfl, q⟩
  rw [List.length_append]
  omega
end
end OP
namespace OP
open PySem PySem.Spec PyProof.Rows L2
/-! ### one_larger -/
def below (p : List Int) (at' : Nat) : Bool := p.isEmpty || decide (p.getLastD 0 < (at' : Int))
def ext1 (p : List Int) : Nat → List (List Int)
  | 0 => []
  | n + 1 => ext1 p n ++ if below p n = true then [p ++ [(n : Int)]] else []
def larger (ps : List (List Int)) (n : Nat) : List (List Int) := ps.flatMap fun p => ext1 p n
theorem ext1_len (p : List Int) : ∀ n, (ext1 p n).length ≤ n
  | 0 => Nat.le_refl _
  | n + 1 => by
    have := ext1_len p n
    unfold ext1
    rw [List.length_append]
    split
    · rw [List.length_singleton]; omega
    · rw [List.length_nil]; omega
theorem larger_len (n : Nat) : ∀ ps : List (List Int), (larger ps n).length ≤ ps.length * n
  | [] => Nat.zero_le _
  | p :: ps => by
    have h1 := larger_len n ps
    have h2 := ext1_len p n
    unfold larger at h1 ⊢
    rw [List.flatMap_cons, List.length_append, List.length_cons, Nat.succ_mul]
    omega
theorem larger_take {ps : List (List Int)} {n i : Nat} (h : i < ps.length) : larger (ps.take (i + 1)) n = larger (ps.take i) n ++ ext1 ps[i] n := by
  unfold larger
  rw [List.take_add_one, List.getElem?_eq_getElem h, Option.toList_some, List.flatMap_append]
  congr 1
  simp
theorem below_ne {p : List Int} {j : Nat} (h : p ≠ []) : below p j = decide (p.getLastD 0 < (j : Int)) := by
  cases p with
  | nil => exact absurd rfl h
  | cons z zs => exact Bool.false_or _
theorem at_lastI {p : List Int} (h : p ≠ []) : atI (p.map V.int) (-1) = some (V.int (p.getLastD 0)) := by
  have e3 : p.dropLast ++ [p.getLast h] = p := List.dropLast_concat_getLast h
  have e4 : p.getLastD 0 = p.getLast h := by rw [List.getLastD_eq_getLast?, List.getLast?_eq_some_getLast h] <;> rfl
  rw [e4, ← show (p.dropLast.map V.int) ++ [V.int (p.getLast h)] = p.map V.int by rw [show [V.int (p.getLast h)] = [p.getLast h].map V.int from rfl, ← List.map_append, e3]]
  exact atI_last _ _
/-- tuples at their places in the list at D -/
structure GrT (H1 : Hp) (D : Addr) (A : Sts) (H : Hp) : Prop where
  same : Same H1 H
  lst : H D = some (.lst (refs A))
  at' : StsAt H A
theorem GrT.start {H1 : Hp} {D : Addr} (hD : H1 D = none) : GrT H1 D [] (upd H1 D (.lst [])) := ⟨same_upd hD, upd_same, fun _ h => by cases h⟩
theorem tup_ne {H : Hp} {a D : Addr} {xs ys : List V} (h : H a = some (.tup xs)) (hd : H D = some (.lst ys)) : a ≠ D := fun z => by
  rw [z, hd] at h
  cases h
theorem StsAt.snoc {H : Hp} {A : Sts} {a : Addr} {xs : List Int} (h : StsAt H A) (ha : H a = some (.tup (xs.map V.int))) : StsAt H (A ++ [(a, xs)]) := fun p hp => by
  rcases List.mem_append.mp hp with q | q
  · exact h p q
  · obtain rfl := List.mem_singleton.mp q
    exact ha
theorem StsAt.off {H : Hp} {A : Sts} {D : Addr} {ys : List V} {o : HO} (hd : H D = some (.lst ys)) (h : StsAt H A) : StsAt (upd H D o) A := fun p hp => by
  rw [upd_ne (tup_ne (h p hp) hd)]
  exact h p hp
theorem GrT.step {H1 H H4 : Hp} {D : Addr} {A : Sts} {a : Addr} {xs : List Int} (hD : H1 D = none) (g : GrT H1 D A H) (s : Same H H4) (ha : H4 a = some (.tup (xs.map V.int))) : H4 D = some (.lst (refs A)) ∧ GrT H1 D (A ++ [(a, xs)]) (upd H4 D (.lst (refs A ++ [V.ref a]))) := by
  have e := s _ _ g.lst
  refine ⟨e, fun b o eb => by rw [upd_ne (ne_of_none eb hD)]; exact s _ _ (g.same _ _ eb), ?_, StsAt.off e (((g.at').ext s).snoc ha)⟩
  rw [upd_same]
  unfold refs
  rw [List.map_append] <;> rfl
theorem GrT.ext {H1 H H4 : Hp} {D : Addr} {A : Sts} (g : GrT H1 D A H) (s : Same H H4) : GrT H1 D A H4 := ⟨g.same.trans s, s _ _ g.lst, g.at'.ext s⟩
section
variable {P : Program} {w : World} {K : PySem.W.Frag} {mg : Str → Option Value} {base : Heap}
def spLarger (K : PySem.W.Frag) : Sp := fun vs H Q _ => ∃ (l : Addr) (C : Sts) (n : Nat), vs = [.ref l, .int n] ∧ H l = some (.lst (refs C)) ∧ StsAt H C ∧ n ≤ 4 ∧ C.length ≤ 16 ∧ (∀ p ∈ C, p.2.length ≤ 4) ∧
  ∀ r (C' : Sts) H', Same H H' → H r = none → H' r = some (.lst (refs C')) → StsAt H' C' → C'.map (·.2) = larger (C.map (·.2)) n → Q (.ref r) H'
theorem sc_ol : FnScope ["chosen", "many", "places", "at"] ["chosen", "many"] (defScope s_one_larger) := ⟨rfl, rfl, rfl, by decide +kernel, rfl, by decide +kernel, by decide +kernel⟩
theorem ok_one_larger (T : Txt K mg) : Ok P w K mg base (a_one_larger K) ["chosen", "many"] 1 (spLarger K) := by
  refine ok_of T.f_one_larger sc_ol (fun _ _ _ _ _ _ us hl => match us, hl with | [_, _], _ => rfl) (fun vs H Q E h => ?_) (fun cdv A outer s H vs Q E hr h => ?_)
  · obtain ⟨l, C, n, rfl, _⟩ := h
    rfl
  · obtain ⟨l, C, n, rfl, hl, hC, hn, h16, h4, k⟩ := h
    have hu : _ + 64 < cLine := hr.units
    have hlen : (refs C).length = C.length := List.length_map ..
    refine ⟨_, pss_one (ps_ret (pe_lc2 (own := [("places", 2), ("at", 3)]) (vs1 := [3]) (g := gName 2) (g1 := gName 3) (tt := tYes) rfl sc_ol.nd (pi_list (pv 0)) (blkOk_by (own := [("places", 2), ("at", 3)]) (N := ["chosen", "many", "places", "at"]) (sc := defScope s_one_larger) (by decide +kernel)) (by decide)
        (fun _ _ _ _ _ => pg_name (i := 2) sc_ol.nd rfl (Or.inl rfl)) (fun _ _ _ _ _ => pts_nil)
        (fun _ _ _ _ _ => pi_range1 (by rfl) T.z_range (pa_cons (pv 1) pa_nil))
        (fun _ _ _ _ _ => pg_name (i := 3) sc_ol.nd rfl (Or.inl rfl))
        (fun _ _ _ _ _ => pts_one (PW.pt (pw_or (pt_cmpR (op_eqDK K hu) (pv 2) (pe_tup pa_nil) (nomark _)) (pw_or1 (pt_cmpR op_lt (pe_ix (ix_tupK K) (pv 2) (pe_un un_neg pe_int) (fun _ _ => rfl)) (pv 3) (nomark _))))))
        (fun _ _ _ _ _ => pe_op (op_catAK K) (pv 2) (pe_tup (pa_cons (pv 3) pa_nil))))), ?_⟩
    refine ⟨_, rfl, l, rfl, ⟨_, SqL.of hl⟩, fun D hD => ?_⟩
    refine ⟨fun i m H' => m = C.length - i ∧ i ≤ C.length ∧ ∃ A, GrT H D A H' ∧ A.map (·.2) = larger ((C.map (·.2)).take i) n, ⟨C.length, rfl, Nat.zero_le _, [], GrT.start hD, rfl⟩, fun i m H' hW => ?_⟩
    obtain ⟨rfl, hi, A0, g, eA⟩ := hW
    have hlC : (C.map (·.2)).length = C.length := List.length_map ..
    by_cases lt : i < C.length
    · refine .inr ⟨walk_list.goes i H' (by rw [hlen]; exact lt) (Same.seq g.same (SqL.of hl)), fun H2 => ∃ A, GrT H D A H2 ∧ A.map (·.2) = larger ((C.map (·.2)).take (i + 1)) n, fun H2 q => ⟨C.length - (i + 1), by omega, rfl, lt, q⟩, fun x H2 y => ?_⟩
      obtain ⟨rfl, ex⟩ := walk_list.yields i H' x H2 (by rw [hlen]; exact lt) (Same.seq g.same (SqL.of hl)) y
      unfold refs at ex
      rw [List.getElem?_map, List.getElem?_eq_getElem lt] at ex
      obtain rfl := (Option.some.inj ex).symm
      have mem : C[i] ∈ C := List.getElem_mem lt
      have hp : H2 C[i].1 = some (.tup (C[i].2.map V.int)) := g.same _ _ (hC _ mem)
      have e2 : (C.map (·.2))[i]'(by rw [hlC]; exact lt) = C[i].2 := List.getElem_map ..
      refine ⟨rfl, tyes (iteT ?_)⟩
      refine ⟨_, rfl, n, rfl, by omega, by omega, ?_⟩
      refine ⟨fun j m H3 => m = n - j ∧ j ≤ n ∧ ∃ A, GrT H D A H3 ∧ A.map (·.2) = larger ((C.map (·.2)).take i) n ++ ext1 C[i].2 j, ⟨n, rfl, Nat.zero_le _, A0, g, by rw [eA]; exact (List.append_nil _).symm⟩, fun j m H3 hW => ?_⟩
      obtain ⟨rfl, hj, A1, g1, eA1⟩ := hW
      by_cases ltj : j < n
      · refine .inr ⟨ltj, fun H4 => ∃ A, GrT H D A H4 ∧ A.map (·.2) = larger ((C.map (·.2)).take i) n ++ ext1 C[i].2 (j + 1), fun H4 q => ⟨n - (j + 1), by omega, rfl, ltj, q⟩, fun x H4 y => ?_⟩
        obtain ⟨rfl, rfl⟩ := y
        have hz : (0 : Int) + (j : Int) = (j : Int) := Int.zero_add _
        rw [hz]
        refine ⟨rfl, ?_⟩
        have hp3 : H4 C[i].1 = some (.tup (C[i].2.map V.int)) := g1.same _ _ (hC _ mem)
        have room : A1.length ≤ 1000 - 1 := by
          have h1 : A1.length = (A1.map (·.2)).length := (List.length_map ..).symm
          rw [h1, eA1, List.length_append]
          have h2 := larger_len n ((C.map (·.2)).take i)
          have h3 := ext1_len C[i].2 j
          rw [List.length_take, hlC] at h2
          have h5 : min i C.length * n ≤ 16 * 4 := Nat.mul_le_mul (by omega) hn
          omega
        have rl : (refs A1).length = A1.length := List.length_map ..
        have step : below C[i].2 j = true → ∀ (H7 : Hp) (q : Addr), Same H4 H7 → H7 q = some (.tup ((C[i].2 ++ [(j : Int)]).map V.int)) → ∃ acc, H7 D = some (.lst acc) ∧ acc.length < sizeLine ∧ ∃ A, GrT H D A (upd H7 D (.lst (acc ++ [V.ref q]))) ∧ A.map (·.2) = larger ((C.map (·.2)).take i) n ++ ext1 C[i].2 (j + 1) := fun hb H7 q s7 hq => by
          obtain ⟨e1, g2⟩ := g1.step hD s7 hq
          refine ⟨_, e1, small1000 (by rw [rl]; omega), _, g2, ?_⟩
          rw [List.map_append, eA1, ext1, if_pos hb, List.append_assoc] <;> rfl
        have elt : below C[i].2 j = true → ∀ (H5 : Hp) (t : Addr), Same H4 H5 → H5 t = none → rCatA K (.ref C[i].1) (.ref t) (upd H5 t (.tup [V.int j])) (fun y H7 => ∃ acc, H7 D = some (.lst acc) ∧ acc.length < sizeLine ∧ ∃ A, GrT H D A (upd H7 D (.lst (acc ++ [y]))) ∧ A.map (·.2) = larger ((C.map (·.2)).take i) n ++ ext1 C[i].2 (j + 1)) := fun hb H5 t s5 ht => by
          have s6 : Same H4 (upd H5 t (.tup [V.int j])) := s5.push ht
          have l4 := h4 _ mem
          refine ⟨C[i].1, t, C[i].2.map V.int, [V.int j], rfl, rfl, SqT.of (s6 _ _ hp3), SqT.of upd_same, ?_, fun e => ?_, fun _ z => absurd z (List.cons_ne_nil _ _), fun _ _ q hq => ?_⟩
          · rw [List.length_map, List.length_singleton]
            exact Nat.le_trans (show C[i].2.length + 1 ≤ 1000 by omega) (by decide)
          · refine step hb _ t s6 ?_
            rw [List.map_append, e] <;> exact upd_same
          · refine step hb _ q (s6.push hq) ?_
            rw [List.map_append] <;> exact upd_same
        have no : below C[i].2 j = false → ∀ H5, Same H4 H5 → ∃ A, GrT H D A H5 ∧ A.map (·.2) = larger ((C.map (·.2)).take i) n ++ ext1 C[i].2 (j + 1) := fun hb H5 s5 => ⟨A1, g1.ext s5, by rw [eA1, ext1, if_neg (by rw [hb]; decide), List.append_nil]⟩
        refine ⟨_, rfl, (by show 0 ≤ sizeLine; exact Nat.zero_le _), fun t ht => ?_⟩
        have s5 : Same H4 _ := same_upd (o := .tup []) ht
        refine ⟨dT C[i].2, dT [], dp_T (s5 _ _ hp3), dp_T upd_same, shp_T _, shp_T _, _, rfl, ?_⟩
        rw [eqv_T]
        by_cases ep : C[i].2 = []
        · have hb : below C[i].2 j = true := by rw [ep]; rfl
          rw [decide_eq_true ep]
          refine iteT (iteT ?_)
          exact ⟨_, rfl, _, rfl, (by show 1 ≤ sizeLine; decide), fun t2 ht2 => elt hb _ t2 s5 ht2⟩
        · rw [decide_eq_false ep]
          refine iteF ?_
          have hb : below C[i].2 j = decide (C[i].2.getLastD 0 < (j : Int)) := below_ne ep
          refine ⟨_, rfl, _, rfl, C[i].1, _, -1, _, rfl, rfl, SqT.of (s5 _ _ hp3), at_lastI ep, _, rfl, _, _, rfl, rfl, _, rfl, ?_⟩
          rw [← hb]
          cases hb2 : below C[i].2 j with
          | false => exact iteF (no hb2 _ s5)
          | true =>
            refine iteT ?_
            exact ⟨_, rfl, _, rfl, (by show 1 ≤ sizeLine; decide), fun t2 ht2 => elt hb2 _ t2 s5 ht2⟩
      · obtain rfl : j = n := by omega
        refine .inl ⟨Nat.le_refl _, A1, g1, ?_⟩
        rw [eA1, larger_take (by rw [hlC]; exact lt), e2]
    · obtain rfl : i = C.length := by omega
      refine .inl ⟨(by have := walk_list.stops H' (Same.seq (K := K) g.same (SqL.of hl)); rw [hlen] at this; exact this), ?_⟩
      refine k D A0 H' g.same hD g.lst g.at' ?_
      rw [eA, List.take_of_length_le (by rw [hlC]; exact Nat.le_refl _)]
end
end OP
namespace OP
open PySem PySem.Spec PyProof.Rows GenW L2
/-! a for in a generator's body: what it hands out stands in ys -/
def tGFor (wi : TI) (g : TG) (tb : TGn) : TGn := fun D ys σ H => wi σ H fun J H1 => ∃ W : Nat → Nat → List V → L2.St → Hp → Prop, (∃ m, W 0 m ys σ H1) ∧ ∀ i m ys σ H, W i m ys σ H →
  (J.stop i H ∧ D.nx ys σ H) ∨ (J.go i H ∧ ∃ N : List V → L2.St → Hp → Prop, (∀ ys' σ' H', N ys' σ' H' → ∃ m', m' < m ∧ W (i + 1) m' ys' σ' H') ∧
    ∀ x H', J.yld i H x H' → g x σ H' fun σ2 H2 => tb { D with nx := N, ct := N, bk := D.nx } ys σ2 H2)
section
variable {X : Cx}
theorem gs_for {tg iter : Expr} {body : List Stmt} {pos : Pos} {wi : TI} {g : TG} {tb : TGn} (hp : PassesOwn (model X.prog X.w) X.A X.env X.xe) (hc : X.calm = true) (hi : PI X tg iter wi) (hg : PG X tg g) (hb : GSs X body tb)
    (hs : ∀ x, foldedSetIterable iter X.env x = pure x := by intro _; rfl) : GS X (.For tg iter body [] pos) (tGFor wi g tb) := by
  refine ⟨fun A S ip R n ys s₀ c fs K J gd lv s σ H D gc hn k hI ht => ?_⟩
  obtain ⟨acc, cc, r, I⟩ := hI
  rw [exec_For]
  refine seg_bind_wrap (wpAny_standAt ?_)
  refine seg_bind_wrap ?_
  rw [gc.over]
  refine wpAny_mono (hi.run _ s σ H _ I ht) (fun v s1 h1 => ?_) fun x s' hx => k.exc n s₀ x s' hx
  refine seg_bind_wrap (wpAny_of_eq (hs v) ?_)
  refine seg_bind_wrap (wpAny_standAt ?_)
  refine seg_bind_wrap (wpAny_holding ?_)
  rw [gc.over]
  refine wpAny_mono h1 (fun itv s2 h2 => ?_) fun x s' hx => k.exc n s₀ x s' hx
  obtain ⟨it, fp, tn, Jt, H2, rfl, I2, T, st2, f2, W, ⟨m0, w0⟩, turn⟩ := h2
  show Seg _ _ _ _ n s₀ c ((runOwn (.forLoop tg (.ref it) body [] X.env) X.env).wrap K J gd lv) fs s2
  refine seg_call fun p => ?_
  -- the iterator's objects: apart from the consumer's list, from all else
  have hSfp : ∀ b ∈ fp, S ≠ b := fun b hb => (f2 b hb).2.2.2.2.2 (S, lstObj acc cc) (List.mem_append_right _ List.mem_cons_self)
  have stat : ∀ {H' : Hp} (ac : Array Value) (cn : Nat), (∀ b ∈ fp, H' b = none) → ∀ b ∈ fp, FpOk X ((S, lstObj ac cn) :: ip) H' b := fun {H'} ac cn hz b hb => by
    obtain ⟨_, q1, q2, q3, q4, q5⟩ := f2 b hb
    refine ⟨hz b hb, q1, q2, q3, q4, fun q hq => ?_⟩
    rcases List.mem_append.mp hq with z | z
    · exact q5 q (List.mem_append_left _ z)
    · rcases List.mem_cons.mp z with z | z
      · rw [z]; exact hSfp b hb
      · exact q5 q (List.mem_append_right _ (List.mem_cons_of_mem _ z))
  have gl := fun (kk : Result → Sem PySem.Fin) => gc_loop (k := kk) (c' := .forLoop tg (.ref it) body [] X.env) (l := lv []) (kp := []) (p := p) gc rfl rfl
  have loop : ∀ (m n i : Nat) (ys : List V) (s₀ s : Shared) (σ : L2.St) (H : Hp), n + ys.length = sizeLine → W i m ys σ H → GI X S ip ys σ H s → tn i s.heap → (∀ b ∈ fp, H b = none) →
      Seg (model X.prog X.w) A R (GY X S) n s₀ (.forLoop tg (.ref it) body [] X.env) ((model X.prog X.w).den (.forLoop tg (.ref it) body [] X.env))
        (.ret (fun r => ((match r with | .ok f => (.pure f : Sem Flow) | .error e => .raise e).onRaise (cameBack X.env)).wrap K J gd lv) none (gd false) (lv []) c p [] :: fs) s := by
    intro m
    induction m using Nat.strongRecOn with
    | ind m ih =>
      intro n i ys s₀ s σ H hn w hI hst hfr
      have ee : ∀ (n : Nat) (s₀ : Shared) (x : Value) (s' : Shared), X.xe x s' → Seg (model X.prog X.w) A R (GY X S) n s₀ (.forLoop tg (.ref it) body [] X.env)
          ((do noteFrame x X.env; theTreesLotGoes x : Sem Unit).bind fun _ => .raise x)
          (.ret (fun r => ((match r with | .ok f => (.pure f : Sem Flow) | .error e => .raise e).onRaise (cameBack X.env)).wrap K J gd lv) none (gd false) (lv []) c p [] :: fs) s' := fun n s₀ x s' hx => by
        rw [Sem.bind_eq_wrap]
        refine seg_wrap ?_
        rw [(gl _).over]
        refine wpAny_bind (wpAny_mono (hp x s' hx) (fun _ s'' hcb => wpAny_theTreesLotGoes ?_) fun y s'' hcb => ?_)
        · exact seg_leaf (.error x) (seg_cameBack gc k hcb)
        · exact seg_leaf (.error y) (seg_cameBack gc k hcb)
      show Seg _ A R _ n s₀ _ ((forTurn tg (.ref it) body [] X.env).onRaise (fun x => do noteFrame x X.env; theTreesLotGoes x)) _ s
      rw [Sem.onRaise_eq_wrap]
      unfold forTurn
      refine seg_bind_wrap (wpAny_standAt ?_)
      refine seg_bind_wrap (wpAny_onRaise ?_)
      rw [(gl _).over]
      obtain ⟨acc, cc, r, I⟩ := hI
      rcases turn i m ys σ H w with ⟨stop, qn⟩ | ⟨go, N, hN, step⟩
      · refine wpAny_mono (T.done X rfl rfl rfl hc i _ s σ H X.xe I (stat acc cc hfr) hst stop) (fun r4 s4 h4 => ?_) fun x s' hx => wpAny_standAt (ee n s₀ x s' hx)
        obtain ⟨rfl, I4⟩ := h4
        refine seg_again rfl ?_
        show Seg _ A R _ n s₀ _ (leafOf (.ok .next)) _ s4
        exact seg_leaf (.ok .next) (k.ok n ys s₀ s4 .next hn ⟨σ, H, ⟨acc, cc, r, I4⟩, qn⟩)
      · refine wpAny_mono (T.item X rfl rfl rfl hc i _ s σ H X.xe I (stat acc cc hfr) hst go) (fun r4 s4 h4 => ?_) fun x s' hx => wpAny_standAt (ee n s₀ x s' hx)
        obtain ⟨u, rfl, h4⟩ := h4
        refine seg_bind_wrap ?_
        rw [(gl _).over]
        refine wpAny_mono h4 (fun _ s5 h5 => ?_) fun x s' hx => ee n s₀ x s' hx
        obtain ⟨x, H5, I5, r5, y5, st5, fr5⟩ := h5
        have I5' := I5.pinned (stat acc cc fr5) (T.obj _ _ st5)
        refine seg_bind_wrap ?_
        rw [(gl _).over]
        refine wpAny_mono (hg.run _ s5 σ H5 x u _ I5' r5 (step x H5 y5)) (fun _ s6 h6 => ?_) fun x s' hx => ee n s₀ x s' hx
        obtain ⟨σ6, H6, I6, q6⟩ := h6
        rw [Sem.bind_eq_wrap', Sem.wrap_wrap]
        have hip : ∀ q ∈ ip ++ pinsAt fp s5.heap, q.1 ≠ S := fun q hq => by
          rcases List.mem_append.mp hq with z | z
          · exact gc.ip q z
          · exact fun e => hSfp q.1 (of_pinsAt z).1 e.symm
        refine hb.run A S (ip ++ pinsAt fp s5.heap) R n ys s₀ _ _ _ _ _ _ s6 σ6 H6 { D with nx := N, ct := N, bk := D.nx } ⟨gc.pn, hip, gc.apart, (gl _).over, (gl _).split, (gl _).guard, rfl⟩ hn
          ⟨fun n' ys' s₀' s7 f hn' hs7 => ?_, fun n' s₀' x s7 hx => ?_⟩ ⟨acc, cc, r, I6⟩ q6
        · have unp : ∀ {σ7 : L2.St} {H7 : Hp}, GI X S (ip ++ pinsAt fp s5.heap) ys' σ7 H7 s7 → GI X S ip ys' σ7 H7 s7 ∧ tn (i + 1) s7.heap ∧ ∀ b ∈ fp, H7 b = none := fun {σ7 H7} ⟨ac, cn, rv, I7⟩ => by
            refine ⟨⟨ac, cn, rv, I7.pins_of fun q hq => I7.pin q (List.mem_append_right _ ?_)⟩, ?_, ?_⟩
            · rcases List.mem_cons.mp hq with z | z
              · rw [z]; exact List.mem_cons_self
              · exact List.mem_cons_of_mem _ (List.mem_append_left _ z)
            · exact T.keep _ _ _ st5 fun b hb o e => (I7.pin (b, o) (List.mem_append_right _ (List.mem_cons_of_mem _ (List.mem_append_right _ (mem_pinsAt hb e))))).1
            · intro b hb
              obtain ⟨o, e, d⟩ := T.obj _ _ st5 b hb
              exact (I7.pin (b, o) (List.mem_append_right _ (List.mem_cons_of_mem _ (List.mem_append_right _ (mem_pinsAt hb e))))).2.1
          cases f with
          | next =>
            obtain ⟨σ7, H7, I7, n7⟩ := hs7
            obtain ⟨m', hm, w7⟩ := hN ys' σ7 H7 n7
            obtain ⟨I7', t7, f7⟩ := unp I7
            exact seg_again rfl (ih m' hm n' (i + 1) ys' s₀' s7 σ7 H7 hn' w7 I7' t7 f7)
          | cont =>
            obtain ⟨σ7, H7, I7, n7⟩ := hs7
            obtain ⟨m', hm, w7⟩ := hN ys' σ7 H7 n7
            obtain ⟨I7', t7, f7⟩ := unp I7
            exact seg_again rfl (ih m' hm n' (i + 1) ys' s₀' s7 σ7 H7 hn' w7 I7' t7 f7)
          | brk =>
            obtain ⟨σ7, H7, I7, n7⟩ := hs7
            exact seg_leaf (.ok .next) (k.ok n' ys' s₀' s7 .next hn' ⟨σ7, H7, (unp I7).1, n7⟩)
          | ret v =>
            obtain ⟨z, σ7, H7, I7, rz, n7⟩ := hs7
            exact seg_leaf (.ok (.ret v)) (k.ok n' ys' s₀' s7 (.ret v) hn' ⟨z, σ7, H7, (unp I7).1, rz, n7⟩)
        · exact ee n' s₀' x s7 hx
  exact loop m0 n 0 ys s₀ s2 σ H2 hn w0 ⟨acc, cc, r, I2⟩ st2 fun b hb => (f2 b hb).1
end
end OP
namespace OP
open PySem PySem.Spec PyProof.Rows GenW L2
theorem gfor_it {J : It} {n : Nat} {G : Hp → Prop} {Y : Nat → Hp → V → Hp → Prop} (w : Walk J n G Y) {g : TG} {tb : TGn} {D : GEnds} {ys : List V} {σ : L2.St} {H : Hp} (Pv : Nat → List V → L2.St → Hp → Prop) (h0 : Pv 0 ys σ H) (hG : ∀ i ys σ H, i ≤ n → Pv i ys σ H → G H)
    (hs : ∀ i x ys σ H H', i < n → Pv i ys σ H → Y i H x H' → g x σ H' fun σ2 H2 => tb { D with nx := Pv (i + 1), ct := Pv (i + 1), bk := D.nx } ys σ2 H2) (hd : ∀ ys σ H, Pv n ys σ H → D.nx ys σ H) :
    ∃ W : Nat → Nat → List V → L2.St → Hp → Prop, (∃ m, W 0 m ys σ H) ∧ ∀ i m ys σ H, W i m ys σ H → (J.stop i H ∧ D.nx ys σ H) ∨ (J.go i H ∧ ∃ N : List V → L2.St → Hp → Prop, (∀ ys' σ' H', N ys' σ' H' → ∃ m', m' < m ∧ W (i + 1) m' ys' σ' H') ∧
      ∀ x H', J.yld i H x H' → g x σ H' fun σ2 H2 => tb { D with nx := N, ct := N, bk := D.nx } ys σ2 H2) := by
  refine ⟨fun i m ys σ H => m = n - i ∧ i ≤ n ∧ Pv i ys σ H, ⟨n, rfl, Nat.zero_le _, h0⟩, ?_⟩
  rintro i m ys σ H ⟨rfl, hi, p⟩
  have q := hG i ys σ H hi p
  by_cases hlt : i < n
  · exact .inr ⟨w.goes i H hlt q, Pv (i + 1), fun ys' σ' H' p' => ⟨n - (i + 1), by omega, rfl, hlt, p'⟩, fun x H' y => hs i x ys σ H H' hlt p (w.yields i H x H' hlt q y)⟩
  · obtain rfl : i = n := by omega
    exact .inl ⟨w.stops H q, hd ys σ H p⟩
/-! ### the sets of a world, by their sizes -/
def lev (n : Nat) : Nat → List (List Int)
  | 0 => [[]]
  | i + 1 => larger (lev n i) n
def upTo (n : Nat) : Nat → List (List Int)
  | 0 => []
  | i + 1 => upTo n i ++ lev n i
def pick (ys : List Str) (p : List Int) : List Str := p.map fun z => ys.getD z.toNat ""
/-- texts at their places -/
abbrev Nts := List (Addr × List Str)
def NtsAt (H : Hp) (Z : Nts) : Prop := ∀ p ∈ Z, H p.1 = some (.tup (p.2.map V.str))
def nrefs (Z : Nts) : List V := Z.map fun p => V.ref p.1
theorem NtsAt.ext {H H' : Hp} {Z : Nts} (e : Same H H') (h : NtsAt H Z) : NtsAt H' Z := fun p hp => e _ _ (h p hp)
theorem NtsAt.snoc {H : Hp} {A : Nts} {a : Addr} {xs : List Str} (h : NtsAt H A) (ha : H a = some (.tup (xs.map V.str))) : NtsAt H (A ++ [(a, xs)]) := fun p hp => by
  rcases List.mem_append.mp hp with q | q
  · exact h p q
  · obtain rfl := List.mem_singleton.mp q
    exact ha
theorem nrefs_snoc (A : Nts) (a : Addr) (xs : List Str) : nrefs (A ++ [(a, xs)]) = nrefs A ++ [V.ref a] := by
  unfold nrefs
  rw [List.map_append] <;> rfl
def setsOf (ys : List Str) : List (List Str) := (upTo ys.length (ys.length + 1)).map (pick ys)
structure LevOk (n : Nat) : Prop where
  len : ∀ i, i ≤ n + 1 → (lev n i).length ≤ 16
  each : ∀ i, i ≤ n + 1 → ∀ p ∈ lev n i, p.length ≤ 4 ∧ ∀ z ∈ p, 0 ≤ z ∧ z < (n : Int)
  some : ∀ i, i ≤ n → lev n i ≠ []
  none : lev n (n + 1) = []
  all : ∀ i, i ≤ n + 1 → (upTo n i).length ≤ 16
theorem lev_ok {n : Nat} (h2 : 2 ≤ n) (h4 : n ≤ 4) : LevOk n := by
  obtain rfl | rfl | rfl : n = 2 ∨ n = 3 ∨ n = 4 := by omega
  · exact ⟨by decide +kernel, by decide +kernel, by decide +kernel, by decide +kernel, by decide +kernel⟩
  · exact ⟨by decide +kernel, by decide +kernel, by decide +kernel, by decide +kernel, by decide +kernel⟩
  · exact ⟨by decide +kernel, by decide +kernel, by decide +kernel, by decide +kernel, by decide +kernel⟩
section
variable {P : Program} {w : World} {K : PySem.W.Frag} {mg : Str → Option Value} {base : Heap}
def spSets (K : PySem.W.Frag) : SpG := fun vs H Q _ => ∃ (p : Addr) (n : Nat) (S : Sts) (L : Ncs), vs = [.ref p] ∧ WorldAt K H p n S L ∧ WOk n S L ∧ ∀ (Z : Nts) H', Same H H' → NtsAt H' Z → Z.map (·.2) = setsOf (names L) → Q (nrefs Z) H'
theorem sc_ss : GScope ["self", "names", "chosen", "places", "at"] ["self"] (defScope s_World_sets) := ⟨rfl, rfl, rfl, by decide +kernel, rfl, by decide +kernel, by decide +kernel⟩
theorem gok_sets (T : Txt K mg) : ∃ fd, GFn P w K mg base 3 (a_World_sets K) fd ["self"] (spSets K) ∧ Binds K fd ["self"] [] ∧ PySem.W.keepIn K (.ref (a_World_sets K)) = true := by
  have GN : Ok P w K mg base (a_World_names K) _ 1 (spNames K) := ok_World_names T
  have GL : Ok P w K mg base (a_one_larger K) _ 1 (spLarger K) := ok_one_larger T
  obtain ⟨fd, F⟩ := T.f_World_sets
  obtain ⟨oc, od, kV, doc, pm, an, cdv, ct, osl, rfl, lk, hcd⟩ := F.ex
  refine ⟨_, gfn_of lk hcd sc_ss (fun vs H Q E h => ?_) (fun A outer s H vs Q E pn hr h => ?_), F.binds (fun _ _ _ _ _ _ us hl => match us, hl with | [_], _ => rfl), F.kp⟩
  · obtain ⟨p, n, S, L, rfl, _⟩ := h
    rfl
  · obtain ⟨p, n, S, L, rfl, W, ok, k⟩ := h
    have hr1 : Room 1 _ := hr.mono (by decide)
    refine ⟨_, gss_cons (gs_ps (ps_set (i := 1) sc_ss.nd rfl (Or.inr rfl) (pe_pr (pv 0) T.o_World T.p_World_names GN hr)))
      (gss_cons (gs_ps (ps_set (i := 2) sc_ss.nd rfl (Or.inl rfl) (pe_lst (pa_cons (pe_tup pa_nil) pa_nil))))
      (gss_cons (gs_while owns_gcx (pt_truth (pv 2) (fun _ => rfl))
        (gss_cons (gs_for owns_gcx rfl (pi_list (pv 2)) (pg_name (i := 3) sc_ss.nd rfl (Or.inl rfl))
            (gss_cons (gs_yield (pe_tupleOf (by rfl) T.z_tuple (pe_lc (own := [("at", 4)]) (g := gName 4) (tt := tYes) rfl sc_ss.nd (pi_tup (pv 3)) (blkOk_by (own := [("at", 4)]) (N := ["self", "names", "chosen", "places", "at"]) (sc := defScope s_World_sets) (by decide +kernel))
              (fun _ _ _ _ _ => pg_name (i := 4) sc_ss.nd rfl (Or.inl rfl)) (fun _ _ _ _ _ => pts_nil)
              (fun _ _ _ _ _ => pe_ix (ix_listK K) (pv 1) (pv 4) (fun _ _ => rfl))))) gss_nil))
        (gss_cons (gs_ps (ps_set (i := 2) sc_ss.nd rfl (Or.inl rfl) (pe_c GL hr1 T.g_one_larger (pa_cons (pv 2) (pa_cons (pe_callB call_len_seq (by rfl) T.z_len PySem.boot_len (pa_cons (pv 1) pa_nil)) pa_nil))))) gss_nil)))
      gss_nil)), ?_⟩
    have hL := ok.chgs
    have hnl : (names L).length = L.length := List.length_map ..
    have lv : LevOk L.length := lev_ok hL.lo hL.hi
    obtain ⟨⟨dx, l, d, hp, hl, hd⟩, _⟩ := id W
    refine ⟨_, rfl, p, dx, _, rfl, hp, p, n, S, L, rfl, W, fun a H1 s1 ha => ?_⟩
    refine ⟨(by show 0 ≤ sizeLine; exact Nat.zero_le _), fun t ht => ⟨(by show 1 ≤ sizeLine; decide), fun c hc => ?_⟩⟩
    have s2 : Same H1 _ := same_upd (o := .tup []) ht
    have s3 : Same _ _ := s2.push (o := .lst [V.ref t]) hc
    refine ⟨fun m ys σ H' => ∃ i, i ≤ L.length + 1 ∧ m = L.length + 1 - i ∧ ∃ (c : Addr) (v3 : Option V) (C : Sts) (Z : Nts), σ = [some (.ref p), some (.ref a), some (.ref c), v3, none] ∧ ys = nrefs Z ∧ Same H1 H' ∧ H' c = some (.lst (refs C)) ∧ StsAt H' C ∧ C.map (·.2) = lev L.length i ∧ NtsAt H' Z ∧ Z.map (·.2) = (upTo L.length i).map (pick (names L)),
      ⟨L.length + 1, 0, Nat.zero_le _, rfl, c, none, [(t, [])], [], rfl, rfl, s3, upd_same, fun q hq => ?_, rfl, fun q hq => (by cases hq), rfl⟩, fun m ys σ H' hW => ?_⟩
    · obtain rfl := List.mem_singleton.mp hq
      show upd _ c _ t = _
      rw [upd_ne (ne_of_none upd_same hc)]
      exact upd_same
    obtain ⟨i, hi, rfl, c, v3, C, Z, rfl, rfl, s4, hc, hC, eC, hZ, eZ⟩ := hW
    have lC : C.length = (lev L.length i).length := by rw [← eC, List.length_map]
    have lrC : (refs C).length = C.length := List.length_map ..
    have a4 := s4 _ _ ha
    refine ⟨_, rfl, _, .inl ⟨_, SqL.of hc, rfl⟩, ?_⟩
    by_cases hin : i ≤ L.length
    · have hne : C ≠ [] := fun z => lv.some i hin (by rw [← eC, z]; rfl)
      have e1 : (!(refs C).isEmpty) = true := by
        cases C with
        | nil => exact absurd rfl hne
        | cons _ _ => rfl
      rw [e1]
      refine iteT ⟨fun ys' σ' H2 => ∃ (c : Addr) (v3 : Option V) (C : Sts) (Z : Nts), σ' = [some (.ref p), some (.ref a), some (.ref c), v3, none] ∧ ys' = nrefs Z ∧ Same H1 H2 ∧ H2 c = some (.lst (refs C)) ∧ StsAt H2 C ∧ C.map (·.2) = lev L.length (i + 1) ∧ NtsAt H2 Z ∧ Z.map (·.2) = (upTo L.length (i + 1)).map (pick (names L)),
        fun ys' σ' H2 q => ⟨L.length + 1 - (i + 1), by omega, i + 1, by omega, rfl, q⟩, ?_⟩
      refine ⟨_, rfl, c, rfl, ⟨_, SqL.of hc⟩, ?_⟩
      refine gfor_it (walk_list (K := K) (a := c) (xs := refs C)) (fun j ys' σ' H2 => ∃ v3 Z', σ' = [some (.ref p), some (.ref a), some (.ref c), v3, none] ∧ ys' = nrefs Z' ∧ Same H' H2 ∧ NtsAt H2 Z' ∧ Z'.map (·.2) = (upTo L.length i ++ (lev L.length i).take j).map (pick (names L))) ?_ ?_ ?_ ?_
      · exact ⟨v3, Z, rfl, rfl, Same.refl _, hZ, by rw [eZ, List.take_zero, List.append_nil]⟩
      · rintro j ys' σ' H2 _ ⟨_, _, _, _, s5, _⟩
        exact SqL.of (s5 _ _ hc)
      · rintro j x ys' σ' H2 H3 hj ⟨v3', Z', rfl, rfl, s5, hZ', eZ'⟩ ⟨rfl, hx⟩
        have hjC : j < C.length := by rw [← lrC]; exact hj
        unfold refs at hx
        rw [List.getElem?_map, List.getElem?_eq_getElem hjC] at hx
        obtain rfl := (Option.some.inj hx).symm
        have mem : C[j] ∈ C := List.getElem_mem hjC
        have hjl : j < (lev L.length i).length := by rw [← lC]; exact hjC
        have e2 : (lev L.length i)[j] = C[j].2 := by
          rw [List.getElem_of_eq eC.symm hjl, List.getElem_map]
        obtain ⟨len4, bnd⟩ := lv.each i hi C[j].2 (by rw [← e2]; exact List.getElem_mem hjl)
        have hq : H3 C[j].1 = some (.tup (C[j].2.map V.int)) := s5 _ _ (hC _ mem)
        have lz : (nrefs Z').length ≤ 1000 := by
          have h1 : (nrefs Z').length = (Z'.map (·.2)).length := by unfold nrefs; rw [List.length_map, List.length_map]
          rw [h1, eZ', List.length_map, List.length_append, List.length_take]
          have h2 := lv.all i hi
          have h3 := lv.len i hi
          omega
        refine ⟨small1000 lz, ?_⟩
        refine ⟨_, rfl, C[j].1, rfl, ⟨_, SqT.of hq⟩, fun D hD => ?_⟩
        have hm : (C[j].2.map V.int).length = C[j].2.length := List.length_map ..
        refine lcT_map (K := K) (a := C[j].1) (xs := C[j].2.map V.int) ((pick (names L) C[j].2).map V.str) hD (SqT.of hq) (by rw [hm]; omega) (by rw [hm, List.length_map]; exact List.length_map ..) (fun i' x y H4 Qe hx' hy s6 kk => ?_) fun H4 s6 e => ?_
        · obtain ⟨z, hz, rfl⟩ := ints_at hx'
          obtain ⟨b1, b2⟩ := bnd z (List.mem_of_getElem? hz)
          unfold pick at hy
          rw [List.getElem?_map, List.getElem?_map, hz] at hy
          obtain rfl := Option.some.inj hy
          have hzl : z.toNat < (names L).length := by rw [hnl]; omega
          refine ⟨_, rfl, _, rfl, a, (names L).map V.str, z, _, rfl, rfl, SqL.of (s6 _ _ (s5 _ _ a4)), ?_, kk H4 (Same.refl _)⟩
          unfold atI ixN
          rw [if_pos b1, List.length_map, if_pos (by rw [hnl]; omega)]
          show ((names L).map V.str)[z.toNat]? = _
          have e5 : (names L).getD z.toNat "" = (names L)[z.toNat] := by rw [List.getD_eq_getElem?_getD, List.getElem?_eq_getElem hzl] <;> rfl
          rw [List.getElem?_map, List.getElem?_eq_getElem hzl]
          show some (V.str (names L)[z.toNat]) = some (V.str ((names L).getD z.toNat ""))
          rw [e5]
        · refine .inl ⟨D, _, rfl, SqL.of e, fun q hq' => ?_⟩
          have s7 : Same H4 _ := same_upd (o := .tup ((pick (names L) C[j].2).map V.str)) hq'
          refine ⟨_, Z' ++ [(q, pick (names L) C[j].2)], rfl, (nrefs_snoc _ _ _).symm, (s5.trans s6).trans s7, (hZ'.ext (s6.trans s7)).snoc upd_same, ?_⟩
          have e6 : (lev L.length i).take (j + 1) = (lev L.length i).take j ++ [C[j].2] := by
            rw [List.take_add_one, List.getElem?_eq_getElem hjl, e2] <;> rfl
          rw [List.map_append, eZ', e6, ← List.append_assoc, List.map_append, List.map_append, List.map_append] <;> rfl
      · rintro ys' σ' H2 ⟨v3', Z', rfl, rfl, s5, hZ', eZ'⟩
        refine ⟨_, rfl, _, rfl, a, _, rfl, .inl (SqL.of (s5 _ _ a4)), c, C, L.length, ?_, s5 _ _ hc, hC.ext s5, hL.hi, by rw [lC]; exact lv.len i hi, fun q hq => ?_, fun r C' H3 s6 _ hr' hC' eC' => ?_⟩
        · show [V.ref c, V.int (((names L).map V.str).length : Int)] = _
          rw [List.length_map, hnl]
        · have : q.2 ∈ lev L.length i := by rw [← eC]; exact List.mem_map.mpr ⟨q, hq, rfl⟩
          exact (lv.each i hi _ this).1
        · refine ⟨r, v3', C', Z', rfl, rfl, (s4.trans s5).trans s6, hr', hC', by rw [eC', eC]; rfl, hZ'.ext s6, ?_⟩
          rw [eZ', List.take_of_length_le (by rw [lrC, lC]; exact Nat.le_refl _)]
          rfl
    · obtain rfl : i = L.length + 1 := by omega
      have e0 : C = [] := by
        rw [lv.none] at eC
        exact List.map_eq_nil_iff.mp eC
      rw [e0]
      refine iteF ?_
      refine k Z H' (s1.trans s4) hZ ?_
      unfold setsOf
      rw [eZ, hnl]
end
end OP
/-! two dicts compared whose values have their own == -/
namespace OP
open PySem PySem.Calls PySem.Spec PyProof.Rows L2
section
variable {prog : Program} {w : World} {κ : Type} [DecidableEq κ] {knd : KeyKind prog w κ} {A : Around} {E : Value → Shared → Prop}
/-- all pairs the same: the two objects stand as they were at every turn -/
theorem pairs_same {nm : String} {a b : Addr} {oa ob : Obj} {es es' : Array DictEntry} {ep ep' : Nat} {ka kb : List (κ × Value)} {Q : Bool → Shared → Prop} (ya : (a == sysModules) = false) (yb : (b == sysModules) = false)
    (fa : oa.data = .dict es ep) (fb : ob.data = .dict es' ep') (qa : KeysOf knd es) (qb : KeysOf knd es') (ra : Pairs knd es.toList ka) (rb : Pairs knd es'.toList kb) (hl : ka.length = kb.length)
    (I : Nat → Shared → Prop) (at' : ∀ i s, I i s → s.heap.get? a = some oa ∧ s.heap.get? b = some ob)
    (turn : ∀ i k v s, ka[i]? = some (k, v) → I i s → ∃ y, valueAt kb k = some y ∧ wpAny (model prog w) A (eqBool v y) (fun r s' => r = true ∧ I (i + 1) s') E s)
    (fin : ∀ s, I ka.length s → Q true s) {s : Shared} (h0 : I 0 s) : wpAny (model prog w) A (Builtin.Dict.samePairs nm a b) Q E s := by
  have n1 : ka.length = es.size := ra.length.symm.trans Array.length_toList
  have n2 : kb.length = es'.size := rb.length.symm.trans Array.length_toList
  have n3 : es.size = es'.size := by omega
  have look : ∀ k, findBy knd.is es' k = valueAt kb k := fun k => by
    rw [← rb.find k]; clear n2 n3 rb qb fb turn; obtain ⟨l⟩ := es'; simp [findBy]
  obtain ⟨ga, gb⟩ := at' 0 s h0
  have no_a : ¬ (a == sysModules) = true := by rw [ya]; decide
  have no_b : ¬ (b == sysModules) = true := by rw [yb]; decide
  unfold Builtin.Dict.samePairs Builtin.Dict.showsAll
  rw [if_neg no_a, if_neg no_b]
  refine wpAny_bind (wpAny_pure (wpAny_bind (wpAny_pure (wpAny_bind (wpAny_dictEntries ga fa ?_)))))
  dsimp only
  refine wpAny_bind (wpAny_dictEntries gb fb ?_)
  rw [if_neg (by rw [n3]; simp)]
  refine wpAny_bind (wpAny_dictEpoch ga fa (wpAny_bind ?_))
  rw [Std.Legacy.Range.forIn_eq_forIn_range']
  simp only [Std.Legacy.Range.size, Nat.sub_zero, Nat.add_sub_cancel, Nat.div_one]
  refine wpAny_forIn_list _ (fun rest q s1 => q = (none, ()) ∧ ∃ i, rest = List.range' i (es.size - i) ∧ i ≤ es.size ∧ I i s1) _ ?_ ?_ _ _ ⟨rfl, 0, by simp, Nat.zero_le _, h0⟩
  · rintro x rest q s1 ⟨rfl, i, er, le, hI⟩
    have lt : i < es.size := by
      refine Nat.lt_of_not_le fun z => ?_
      rw [Nat.sub_eq_zero_of_le z] at er; simp at er
    have er2 : x = i ∧ rest = List.range' (i + 1) (es.size - (i + 1)) := by
      rw [show es.size - i = (es.size - (i + 1)) + 1 by omega, List.range'_succ] at er
      injection er with z1 z2; exact ⟨z1, z2⟩
    obtain ⟨rfl, er3⟩ := er2
    obtain ⟨g1, g2⟩ := at' x s1 hI
    refine wpAny_bind (wpAny_dictEntries g1 fa ?_)
    rw [Array.getElem?_eq_getElem lt]
    have ltk : x < ka.length := by rw [n1]; exact lt
    obtain ⟨k, v, ekv⟩ : ∃ k v, ka[x]? = some (k, v) := ⟨ka[x].1, ka[x].2, List.getElem?_eq_getElem ltk⟩
    obtain ⟨isk, isv⟩ := ra.get? (i := x) (e := es[x]) (k := k) (v := v) ((Array.getElem?_toList).trans (Array.getElem?_eq_getElem lt)) ekv
    obtain ⟨k2, isk2, hash⟩ := qa es[x] (Array.getElem_mem lt)
    rw [knd.inj _ _ _ isk2 isk] at hash
    obtain ⟨y, hy, cmp⟩ := turn x k v s1 ekv hI
    show wpAny _ _ (holding [es[x].key, es[x].val] _ >>= _) _ _ _
    rw [hash]
    refine wpAny_bind (wpAny_holding (wpAny_bind (wpAny_dictFind_of isk g2 fb qb ?_)))
    cases ej : es'.findIdx? fun e => knd.is k e.key with
    | none =>
      have z : valueAt kb k = none := by rw [← look k, findBy_of_findIdx?, ej]
      rw [hy] at z; cases z
    | some j =>
      have jl : j < es'.size := (Array.findIdx?_eq_some_iff_getElem.mp ej).1
      have ey : es'[j].val = y := by
        have z : valueAt kb k = some es'[j].val := by rw [← look k, findBy_of_findIdx?, ej]; simp [Array.getElem?_eq_getElem jl]
        exact Option.some.inj (z.symm.trans hy)
      refine wpAny_bind (wpAny_dictEntries g2 fb ?_)
      rw [Array.getElem?_eq_getElem jl]
      show wpAny _ _ (holding [es'[j].val] (eqBool es[x].val es'[j].val)) _ _ _
      rw [ey, isv]
      refine wpAny_holding (wpAny_mono cmp (fun r s2 z => ?_) fun _ _ z => z)
      obtain ⟨rfl, hI2⟩ := z
      rw [if_neg (by decide)]
      refine wpAny_bind (wpAny_dictEpoch (at' _ s2 hI2).1 fa ?_)
      rw [if_neg (by simp)]
      exact wpAny_pure ⟨rfl, x + 1, er3, lt, hI2⟩
  · rintro q s1 ⟨rfl, i, er, le, hI⟩
    have ei : i = es.size := Nat.le_antisymm le (Nat.le_of_not_lt fun z => by
      rw [show es.size - i = (es.size - (i + 1)) + 1 by omega, List.range'_succ] at er; cases er)
    exact wpAny_pure (fin s1 (by rw [n1, ← ei]; exact hI))
theorem dict_rc {a b : Addr} {oa ob : Obj} {es es' : Array DictEntry} {ep ep' : Nat} {ka kb : List (κ × Value)} {Q : Value → Shared → Prop} (ya : (a == sysModules) = false) (yb : (b == sysModules) = false)
    (fa : oa.data = .dict es ep) (fb : ob.data = .dict es' ep') (qa : KeysOf knd es) (qb : KeysOf knd es') (ra : Pairs knd es.toList ka) (rb : Pairs knd es'.toList kb) (hl : ka.length = kb.length)
    (I : Nat → Shared → Prop) (at' : ∀ i s, I i s → s.heap.get? a = some oa ∧ s.heap.get? b = some ob)
    (turn : ∀ i k v s, ka[i]? = some (k, v) → I i s → ∃ y, valueAt kb k = some y ∧ wpAny (model prog w) A.in1 (eqBool v y) (fun r s' => r = true ∧ I (i + 1) s') E s)
    (hu : A.units < cLine) (fin : ∀ s, I ka.length s → Q (.bool true) s) {s : Shared} (ta : s.TypeIs (.ref a) "dict") (tb : s.TypeIs (.ref b) "dict") (h0 : I 0 s) : wpAny (model prog w) A (richCompare .Eq (.ref a) (.ref b)) Q E s := by
  refine wpAny_richCompare_same_room (op := .Eq) ta tb PySem.F.slot_dict_eq (wpAny_call_entry PySem.F.slot_dict_eq ta PySem.F.entry_dict_eq ?_ (PySem.F.args_dict_eq_2 _ _)) hu
  refine wpAny_bind (?_ : wpAny _ _ (Builtin.Dict.dictSlotArgs "__eq__" ⟨[.ref a, .ref b], []⟩) _ _ s)
  unfold Builtin.Dict.dictSlotArgs
  refine wpAny_bind (wpAny_notOrdered_dict ta (?_ : wpAny _ _ (pure (Value.ref a, Value.ref b)) _ _ s))
  refine wpAny_pure (wpAny_bind (wpAny_isInstance (T := "dict") tb PySem.F.sub_dict_dict ?_))
  simp only [Bool.not_true, Bool.false_eq_true, if_false]
  refine wpAny_bind (wpAny_pure (wpAny_bind (wpAny_pure (wpAny_bind ?_))))
  refine pairs_same ya yb fa fb qa qb ra rb hl I at' turn (fun s1 hI => wpAny_pure ⟨_, rfl, ?_, ?_⟩) h0
  · exact fun z => nomatch z
  · simpa using fin s1 hI
end
/-- two dicts at different places, the value of each key the same by D while both are locked -/
def DDict (D : Eqv) : Eqv := fun x y H => ∃ a b ks ls, x = .ref a ∧ y = .ref b ∧ H a = some (.dK ks) ∧ H b = some (.dK ls) ∧ ks.length = ls.length ∧
  ∀ oa ob, ∀ p ∈ ks, ∃ y, valV ls p.1 = some y ∧ D p.2 y (upd (upd H a (.frz oa (.dK ks))) b (.frz ob (.dK ls)))
theorem kv_mem {ks : List (Key × V)} {va : List (Key × Value)} (r : KV ks va) : ∀ {i : Nat} {k : Key} {v : Value}, va[i]? = some (k, v) → ∃ p, p ∈ ks ∧ p.1 = k ∧ RelV p.2 v := by
  unfold KV at r
  induction r with
  | nil => intro i k v h; simp at h
  | @cons p q ps qs h t ih =>
    intro i k v e
    cases i with
    | zero =>
      obtain rfl := Option.some.inj e
      exact ⟨p, List.mem_cons_self, h⟩
    | succ i =>
      obtain ⟨p', hp, z⟩ := ih (i := i) e
      exact ⟨p', List.mem_cons_of_mem _ hp, z⟩
section
variable {X : Cx} {n : Nat} {D : Eqv}
theorem rcG_dict (hD : Mon D) (h : EqG X n D) : RcG X (n + 1) (DDict D) := by
  intro A pins s σ H x y u v sb I rx ry d
  obtain ⟨a, b, ks, ls, rfl, rfl, ha, hb, hlen, hp⟩ := d
  cases rx
  cases ry
  by_cases ne : a = b
  · obtain rfl := ne
    obtain rfl : ks = ls := by
      rw [ha] at hb
      injection hb with z
      injection z
    obtain ⟨oa, I1⟩ := I.lock ha trivial
    obtain ⟨ea, _, ya, va, rva, oa', es, ep, ea', xa, da, kka, pa, _⟩ := (show ObjOk X.prog X.w _ s.heap a (.frz oa (.dK ks)) from I1.hok a _ upd_same)
    obtain rfl : oa' = oa := Option.some.inj (ea'.symm.trans ea)
    have uu : upd (upd H a (.frz oa' (.dK ks))) a (.frz oa' (.dK ks)) = upd H a (.frz oa' (.dK ks)) := by
      funext c
      by_cases hc : c = a
      · rw [hc, upd_same, upd_same]
      · rw [upd_ne hc]
    refine dict_rc (knd := mixKind X.prog X.w) ya ya da da kka kka pa pa rfl (fun _ s' => ∃ H', Inv X pins σ H' s' ∧ Ext (upd H a (.frz oa' (.dK ks))) H') (fun i s' hI => ?_) (fun i k v s' hk hI => ?_) sb.room.units0 (fun s' hI => ?_) ⟨_, ea, xa.1⟩ ⟨_, ea, xa.1⟩ ⟨_, I1, Ext.rfl'⟩
    · obtain ⟨H', J, ex⟩ := hI
      have z := (show ObjOk X.prog X.w _ s'.heap a (.frz oa' (.dK ks)) from J.hok a _ (ex _ _ upd_same)).1
      exact ⟨z, z⟩
    · obtain ⟨H', J, ex⟩ := hI
      obtain ⟨p, hpk, e1, rp⟩ := kv_mem rva hk
      obtain ⟨z, hz, dz⟩ := hp oa' oa' p hpk
      rw [uu] at dz
      have rr : RelO (some z) (valueAt va k) := by rw [← hz, e1]; exact rva.val k
      obtain ⟨y, hy, ry⟩ := rr.some_of
      refine ⟨y, hy, wpAny_mono (h A.in1 pins s' σ H' p.2 z v y sb.in1 J rp ry (hD _ _ _ _ ex dz)) (fun r s2 q => ?_) fun _ _ q => q⟩
      obtain ⟨hr, H2, J2, ex2⟩ := q
      exact ⟨hr, H2, J2, ex.trans ex2⟩
    · obtain ⟨H', J, ex⟩ := hI
      refine ⟨rfl, _, J.unlock (ex _ _ upd_same) (I.nofrz ha trivial), fun c o e => ?_⟩
      by_cases ca : c = a
      · rw [ca, upd_same, ← ha, ← e, ca]
      · rw [upd_ne ca]
        exact ex _ _ (by rw [upd_ne ca]; exact e)
  obtain ⟨oa, I1⟩ := I.lock ha trivial
  have hb1 : upd H a (.frz oa (.dK ks)) b = some (.dK ls) := by rw [upd_ne (Ne.symm ne)]; exact hb
  obtain ⟨ob, I2⟩ := I1.lock hb1 trivial
  have ha2 : upd (upd H a (.frz oa (.dK ks))) b (.frz ob (.dK ls)) a = some (.frz oa (.dK ks)) := by rw [upd_ne ne, upd_same]
  have hb2 : upd (upd H a (.frz oa (.dK ks))) b (.frz ob (.dK ls)) b = some (.frz ob (.dK ls)) := upd_same
  obtain ⟨ea, _, ya, va, rva, oa', es, ep, ea', xa, da, kka, pa, _⟩ := (show ObjOk X.prog X.w _ s.heap a (.frz oa (.dK ks)) from I2.hok a _ ha2)
  obtain ⟨eb, _, yb, vb, rvb, ob', es', ep', eb', xb, db, kkb, pb, _⟩ := (show ObjOk X.prog X.w _ s.heap b (.frz ob (.dK ls)) from I2.hok b _ hb2)
  obtain rfl : oa' = oa := Option.some.inj (ea'.symm.trans ea)
  obtain rfl : ob' = ob := Option.some.inj (eb'.symm.trans eb)
  refine dict_rc (knd := mixKind X.prog X.w) ya yb da db kka kkb pa pb (by rw [← rva.length, ← rvb.length]; exact hlen)
    (fun _ s' => ∃ H', Inv X pins σ H' s' ∧ Ext (upd (upd H a (.frz oa' (.dK ks))) b (.frz ob' (.dK ls))) H') (fun i s' hI => ?_) (fun i k v s' hk hI => ?_) sb.room.units0 (fun s' hI => ?_) ?_ ?_ ⟨_, I2, Ext.rfl'⟩
  · obtain ⟨H', J, ex⟩ := hI
    exact ⟨(show ObjOk X.prog X.w _ s'.heap a (.frz oa' (.dK ks)) from J.hok a _ (ex _ _ ha2)).1, (show ObjOk X.prog X.w _ s'.heap b (.frz ob' (.dK ls)) from J.hok b _ (ex _ _ hb2)).1⟩
  · obtain ⟨H', J, ex⟩ := hI
    obtain ⟨p, hpk, e1, rp⟩ : ∃ p, p ∈ ks ∧ p.1 = k ∧ RelV p.2 v := by
      exact kv_mem rva hk
    obtain ⟨z, hz, dz⟩ := hp oa' ob' p hpk
    have rr : RelO (some z) (valueAt vb k) := by rw [← hz, e1]; exact rvb.val k
    obtain ⟨y, hy, ry⟩ := rr.some_of
    refine ⟨y, hy, wpAny_mono (h A.in1 pins s' σ H' p.2 z v y sb.in1 J rp ry (hD _ _ _ _ ex dz)) (fun r s2 q => ?_) fun _ _ q => q⟩
    obtain ⟨hr, H2, J2, ex2⟩ := q
    exact ⟨hr, H2, J2, ex.trans ex2⟩
  · obtain ⟨H', J, ex⟩ := hI
    have J1 := J.unlock (ex _ _ hb2) (I1.nofrz hb1 trivial)
    have ha3 : upd H' b (.dK ls) a = some (.frz oa' (.dK ks)) := by rw [upd_ne ne]; exact ex _ _ ha2
    have J2 := J1.unlock ha3 (I.nofrz ha trivial)
    refine ⟨rfl, _, J2, fun c o e => ?_⟩
    by_cases ca : c = a
    · rw [ca, upd_same, ← ha, ← e, ca]
    · rw [upd_ne ca]
      by_cases cb : c = b
      · rw [cb, upd_same, ← hb, ← e, cb]
      · rw [upd_ne cb]
        exact ex _ _ (by rw [upd_ne cb, upd_ne ca]; exact e)
  · exact ⟨_, ea, xa.1⟩
  · exact ⟨_, eb, xb.1⟩
end
end OP
namespace OP
open PySem PySem.Spec PyProof.Rows L2
/-- the same world at two places -/
structure Twin (S S' : Sts) (L L' : Ncs) : Prop where
  sts : S.map (·.2) = S'.map (·.2)
  chgs : L.map (fun p => (p.1, p.2.2)) = L'.map (fun p => (p.1, p.2.2))
def DChg (K : PySem.W.Frag) : Eqv := fun x y H => ∃ q : CK, DIns (q.cls K) (REq K q) x y H
theorem mon_chg {K : PySem.W.Frag} : Mon (DChg K) := fun x y H H' e ⟨q, d⟩ => ⟨q, mon_ins (fun a b H H' e ⟨c, h1, h2, h3⟩ => ⟨c, h1, h2.ext e, h3.ext e⟩) x y H H' e d⟩
theorem eqG_chg {X : Cx} (h : ∀ q : CK, RcG X 2 (DIns (q.cls X.K) (REq X.K q))) : EqG X 2 (DChg X.K) := by
  intro A pins s σ H x y u v sb I rx ry ⟨q, d⟩
  exact (h q).eqG (fun _ _ _ d => let ⟨a, b, _, _, _, _, hx, hy, _⟩ := d; ⟨a, b, hx, hy⟩) A pins s σ H x y u v sb I rx ry d
def REqW (K : PySem.W.Frag) (a b : Addr) (H : Hp) : Prop := ∃ n S L S' L', WorldAt K H a n S L ∧ WorldAt K H b n S' L' ∧ Twin S S' L L' ∧ ChgsOk n L
theorem strOk_name {x : Str} (h : NameOk x) : PyData.strOk x = true := by
  unfold PyData.strOk
  rw [Array.all_eq_true_iff_forall_mem]
  intro c hc
  have all : ∀ c ∈ ("abcdefghijklmnopqrstuvwxyz" : Str).cps.toList, decide (c < 0x110000) = true := by decide +kernel
  exact all c (h.each c (Array.mem_toList_iff.mpr hc))
theorem Twin.names {S S' : Sts} {L L' : Ncs} (t : Twin S S' L L') : names L = names L' := by
  have := congrArg (List.map Prod.fst) t.chgs
  rw [List.map_map, List.map_map] at this
  exact this
section
variable {P : Program} {w : World} {K : PySem.W.Frag} {mg : Str → Option Value} {base : Heap}
theorem kit_World {K : PySem.W.Frag} : PySem.W.kitOne K (.ref (c_World K)) (.ref (c_World K)) = some true := by
  unfold PySem.W.kitOne
  rw [if_pos (by simp)]
theorem sc_weq : FnScope ["self", "other"] ["self", "other"] (defScope s_World_eq) := ⟨rfl, rfl, rfl, by decide +kernel, rfl, by decide +kernel, by decide +kernel⟩
theorem ok_World_eq (T : Txt K mg) : Ok P w K mg base (a_World_eq K) ["self", "other"] 4 (spEq (REqW K)) := by
  have GE : ∀ q, Ok P w K mg base (CK.eqA K q) ["self", "other"] 2 (spEq (REq K q)) := okC_eq T
  have GN : Ok P w K mg base (a_World_names K) _ 1 (spNames K) := ok_World_names T
  refine ok_of T.f_World_eq sc_weq (fun _ _ _ _ _ _ us hl => match us, hl with | [_, _], _ => rfl) (fun vs H Q E h => ?_) (fun cdv A outer s0 H vs Q E hr h => ?_)
  · obtain ⟨a, b, rfl, _⟩ := h
    rfl
  · obtain ⟨a, b, rfl, ⟨n, S, L, S', L', W, W', tw, cok⟩, k⟩ := h
    have hu : _ + 64 < cLine := hr.units
    have hr2 : Room 2 _ := hr.mono (by decide)
    refine ⟨_, pss_one (ps_ret (pe_and (pe_callB call_isi (by rfl) T.z_isinstance (by decide +kernel) (pa_cons (pv 1) (pa_cons (pe_glob (v := .ref (c_World K)) (by rfl) T.g_World rfl) pa_nil)))
        (pe_and (pe_cmpR op_eq (pe_fld (pv 0) rfl) (pe_fld (pv 1) rfl) (nomark _)) (pe_and (pe_cmpR (op_eqD hu) (pe_fld (pv 0) rfl) (pe_fld (pv 1) rfl) (nomark _))
        (pe_and (pe_cmpR (op_eqD hu) (pe_pr (pv 0) T.o_World T.p_World_names GN hr2) (pe_pr (pv 1) T.o_World T.p_World_names GN hr2) (nomark _))
        (pe_one (pe_cmpR (op_eqG (rcG_dict mon_chg (eqG_chg fun q => rc_of (GE q) (T.methEC q))) hr) (pe_fld (pv 0) rfl) (pe_fld (pv 1) rfl) (nomark _)))))))), ?_⟩
    obtain ⟨⟨dx, l, d, hp, hl, hd⟩, hS, hL⟩ := id W
    obtain ⟨⟨dx', l', d', hp', hl', hd'⟩, hS', hL'⟩ := id W'
    refine ⟨_, rfl, _, _, _, _, true, rfl, .own (c_World K), T.o_World.ty hp', kit_World, true, rfl, iteT ?_⟩
    refine ⟨_, rfl, a, c_World K, dx, _, _, rfl, hp, T.o_World.cl, T.n_World_width, lookA, _, rfl, b, c_World K, dx', _, _, rfl, hp', T.o_World.cl, T.n_World_width, lookA, rfl, true, congrArg V.bl (decide_eq_true rfl), iteT ?_⟩
    have dS := dp_Ts (K := K) hl hS
    have dS' := dp_Ts (K := K) hl' hS'
    rw [tw.sts] at dS
    refine ⟨_, rfl, a, c_World K, dx, _, _, rfl, hp, T.o_World.cl, T.n_World_starts, lookB w_s, _, rfl, b, c_World K, dx', _, _, rfl, hp', T.o_World.cl, T.n_World_starts, lookB w_s, _, _, dS, dS', shp_Ts _, shp_Ts _, true, congrArg V.bl (eqv_shp (shp_Ts _)), iteT ?_⟩
    refine ⟨_, rfl, a, dx, _, rfl, hp, a, n, S, L, rfl, W, fun r1 H1 s1 e1 => ?_⟩
    refine ⟨_, rfl, b, dx', _, rfl, s1 _ _ hp', b, n, S', L', rfl, W'.ext s1, fun r2 H2 s2 e2 => ?_⟩
    have e1' := s2 _ _ e1
    rw [tw.names] at e1'
    have so : ∀ y ∈ names L', PyData.strOk y = true := fun y hy => by
      rw [← tw.names] at hy
      obtain ⟨p, hp, rfl⟩ := List.mem_map.mp hy
      exact strOk_name (cok.name p hp)
    refine ⟨_, _, .lst (SqL.of e1') (dp_strs _), .lst (SqL.of e2) (dp_strs _), shp_strs so, shp_strs so, true, congrArg V.bl (eqv_shp (shp_strs so)), iteT ?_⟩
    have s3 := s1.trans s2
    refine ⟨_, rfl, a, c_World K, dx, _, _, rfl, s3 _ _ hp, T.o_World.cl, T.n_World_made, lookC w_m s_m, _, rfl, b, c_World K, dx', _, _, rfl, s3 _ _ hp', T.o_World.cl, T.n_World_made, lookC w_m s_m, ?_, fun H' e => k H' (s3.trans e)⟩
    have ll : L.length = L'.length := by
      have := congrArg List.length tw.chgs
      rw [List.length_map, List.length_map] at this
      exact this
    refine ⟨d, d', kvs L, kvs L', rfl, rfl, s3 _ _ hd, s3 _ _ hd', by rw [kvs_len, kvs_len]; exact ll, fun oa ob p hp => ?_⟩
    obtain ⟨z, hz, rfl⟩ := List.mem_map.mp hp
    obtain ⟨i, hi, rfl⟩ := List.mem_iff_getElem.mp hz
    have hi' : i < L'.length := by rw [← ll]; exact hi
    have nd' : (names L').Nodup := by rw [← tw.names]; exact cok.nd
    have e5 : (L[i].1, L[i].2.2) = (L'[i].1, L'[i].2.2) := by
      have := List.getElem_of_eq tw.chgs (i := i) (by rw [List.length_map]; exact hi)
      rw [List.getElem_map, List.getElem_map] at this
      exact this
    obtain ⟨e6, e7⟩ := Prod.mk.inj e5
    refine ⟨V.ref L'[i].2.1, by rw [e6]; exact valV_kvs nd' hi', L[i].2.2.ck, ?_⟩
    have c1 : ChgAt K H2 L[i].2.1 L[i].2.2 := (hL _ (List.getElem_mem hi)).ext s3
    have c2 : ChgAt K H2 L'[i].2.1 L[i].2.2 := by rw [e7]; exact (hL' _ (List.getElem_mem hi')).ext s3
    have hd2 := s3 _ _ hd
    have hd2' := s3 _ _ hd'
    have lk : ∀ {x : Addr} {c : Chg} {u v : HO}, ChgAt K H2 x c → ChgAt K (upd (upd H2 d u) d' v) x c := fun {x c u v} h => by
      by_cases dd : d' = d
      · rw [dd]
        have uu : upd (upd H2 d u) d v = upd H2 d v := by
          funext y
          by_cases hy : y = d
          · rw [hy, upd_same, upd_same]
          · rw [upd_ne hy, upd_ne hy, upd_ne hy]
        rw [uu]
        exact h.lock hd2
      · exact (h.lock hd2).lock (kv := kvs L') (by rw [upd_ne dd]; exact hd2')
    obtain ⟨dc, fs, ho, _⟩ := (lk (u := .frz oa (.dK (kvs L))) (v := .frz ob (.dK (kvs L'))) c1).obj
    obtain ⟨dc', fs', ho', _⟩ := (lk (u := .frz oa (.dK (kvs L))) (v := .frz ob (.dK (kvs L'))) c2).obj
    exact ⟨_, _, dc, dc', fs, fs', rfl, rfl, ho, ho', L[i].2.2, rfl, lk c1, lk c2⟩
end
end OP
namespace OP
open PySem PySem.Spec PyProof.Rows L2
/-! ### numbers drawn: only their bounds matter -/
theorem at_in {α : Type} {xs : List α} {i : Int} (h0 : 0 ≤ i) (h1 : i < xs.length) : ∃ (h : i.toNat < xs.length), atI xs i = some xs[i.toNat] := by
  refine ⟨by omega, ?_⟩
  unfold atI ixN
  rw [if_pos h0, if_pos h1]
  exact List.getElem?_eq_getElem (by omega)
def Below (b : Int) (Q : VK) (H : Hp) : Prop := ∀ v, 0 ≤ v → v < b → Q (.int v) H
def primes : List Int := [1000003, 1000033, 1000037, 1000039, 1000081, 1000099, 1000117, 1000121, 1000133, 1000151, 1000159, 1000171, 1000183, 1000187, 1000193, 1000199]
theorem primes_pos : ∀ p ∈ primes, 0 < p := by decide
section
variable {P : Program} {w : World} {K : PySem.W.Frag} {mg : Str → Option Value} {base : Heap}
def spDraw : Sp := fun vs H Q _ => ∃ c k b : Int, vs = [.int c, .int k, .int b] ∧ 0 < b ∧ ∀ H', Same H H' → Below b Q H'
theorem sc_draw : FnScope ["_law_cell", "_law_k", "_law_many", "_law_primes"] ["_law_cell", "_law_k", "_law_many"] (defScope s__law_draw) := ⟨rfl, rfl, rfl, by decide +kernel, rfl, by decide +kernel, by decide +kernel⟩
theorem ok_draw (T : Txt K mg) : Ok P w K mg base (a__law_draw K) ["_law_cell", "_law_k", "_law_many"] 1 spDraw := by
  refine ok_of T.f__law_draw sc_draw (fun _ _ _ _ _ _ us hl => match us, hl with | [_, _, _], _ => rfl) (fun vs H Q E h => ?_) (fun cdv A outer s H vs Q E hr h => ?_)
  · obtain ⟨c, k, b, rfl, _⟩ := h
    rfl
  · obtain ⟨c, k, b, rfl, hb, kk⟩ := h
    refine ⟨_, pss_cons (ps_set (i := 3) sc_draw.nd rfl (Or.inl rfl) (pe_tup (pa_cons pe_int (pa_cons pe_int (pa_cons pe_int (pa_cons pe_int (pa_cons pe_int (pa_cons pe_int (pa_cons pe_int (pa_cons pe_int (pa_cons pe_int (pa_cons pe_int (pa_cons pe_int (pa_cons pe_int (pa_cons pe_int (pa_cons pe_int (pa_cons pe_int (pa_cons pe_int pa_nil))))))))))))))))))
      (pss_one (ps_ret (pe_op op_mod (pe_op op_mod (pe_op op_add (pe_op op_mul (pv 0) pe_int) (pe_op op_mul (pv 1) pe_int)) (pe_ix ix_tup (pv 3) (pe_op op_mod (pv 1) pe_int) (fun _ _ => rfl))) (pv 2)))), ?_⟩
    refine ⟨(by show 16 ≤ sizeLine; decide), fun t ht => ?_⟩
    have s1 : Same H _ := same_upd (o := .tup (primes.map V.int)) ht
    have hm : 0 ≤ k % 16 ∧ k % 16 < ((primes.map V.int).length : Int) := ⟨by omega, by show _ < (16 : Int); omega⟩
    obtain ⟨hl, e⟩ := at_in hm.1 hm.2
    rw [List.getElem_map] at e
    have hp : 0 < primes[(k % 16).toNat]'(by rw [← List.length_map (f := V.int)]; exact hl) := primes_pos _ (List.getElem_mem _)
    refine ⟨_, rfl, _, _, rfl, rfl, .inr ⟨by decide, by decide⟩, _, rfl, _, _, rfl, rfl, .inr ⟨by decide, by decide⟩, _, _, rfl, rfl, _, rfl, _, rfl, _, _, rfl, rfl, (show (0 : Int) < 16 by decide), t, _, k % 16, _, rfl, rfl, SqT.of (show _ = some (.tup (primes.map V.int)) from upd_same), e, _, _, rfl, rfl, hp, _, rfl, _, _, rfl, rfl, hb, ?_⟩
    exact kk _ s1 _ (Int.emod_nonneg _ (by omega)) (Int.emod_lt_of_pos _ hb)
def spCell (K : PySem.W.Frag) : Sp := fun vs H Q _ => ∃ (sc : Addr) (ns : List Int) (k : Int), vs = [.ref sc, .int k] ∧ SqL K H sc (ns.map V.int) ∧ 0 ≤ k ∧ ∀ v H', Same H H' → 0 ≤ v → Q (.int v) H'
theorem sc_cell : FnScope ["_law_script", "_law_k"] ["_law_script", "_law_k"] (defScope s__law_cell_at) := ⟨rfl, rfl, rfl, by decide +kernel, rfl, by decide +kernel, by decide +kernel⟩
theorem ok_cell (T : Txt K mg) : Ok P w K mg base (a__law_cell_at K) ["_law_script", "_law_k"] 2 (spCell K) := by
  have GD : Ok P w K mg base (a__law_draw K) _ 1 spDraw := ok_draw T
  refine ok_of T.f__law_cell_at sc_cell (fun _ _ _ _ _ _ us hl => match us, hl with | [_, _], _ => rfl) (fun vs H Q E h => ?_) (fun cdv A outer s H vs Q E hr h => ?_)
  · obtain ⟨sc, ns, k, rfl, _⟩ := h
    rfl
  · obtain ⟨sc, ns, k, rfl, hs, hk, kk⟩ := h
    refine ⟨_, pss_cons (ps_if (pt_cmpR op_lt (pv 1) (pe_callB call_len_seq (by rfl) T.z_len PySem.boot_len (pa_cons (pv 0) pa_nil)) (nomark _)) (pss_one (ps_ret (pe_callB call_abs (by rfl) T.z_abs (by decide +kernel) (pa_cons (pe_ix ix_list (pv 0) (pv 1) (fun _ _ => rfl)) pa_nil)))) pss_nil)
      (pss_one (ps_ret (pe_c GD hr T.g__law_draw (pa_cons (pe_op op_add (pe_callB call_abs (by rfl) T.z_abs (by decide +kernel) (pa_cons (pe_callB (cr_sum rfl) (by rfl) T.z_sum (by decide +kernel) (pa_cons (pv 0) pa_nil)) pa_nil)) (pe_op op_mul pe_int (pv 1))) (pa_cons (pv 1) (pa_cons pe_int pa_nil)))))), ?_⟩
    refine ⟨_, rfl, _, rfl, sc, _, rfl, .inl hs, _, _, rfl, rfl, _, rfl, ?_⟩
    by_cases lt : k < ((ns.map V.int).length : Int)
    · rw [decide_eq_true lt]
      obtain ⟨hl, e⟩ := at_in hk lt
      rw [List.getElem_map] at e
      refine iteT ⟨_, rfl, _, rfl, sc, _, k, _, rfl, rfl, hs, e, _, rfl, ?_⟩
      refine kk _ _ (Same.refl _) ?_
      split <;> omega
    · rw [decide_eq_false lt]
      refine iteF ⟨_, rfl, sc, ns, rfl, hs, _, rfl, _, rfl, _, _, rfl, rfl, .inl ⟨by decide, by decide⟩, _, _, rfl, rfl, _, rfl, _, _, _, rfl, by decide, fun H1 s1 v h0 _ => ?_⟩
      exact kk v H1 s1 h0
end
end OP
namespace OP
open PySem PySem.Spec PyProof.Rows L2
theorem room65 {k : Nat} {A : Around} (r : Room k A) : A.units + 65 < cLine := by have := r.un; omega
theorem room64 {k : Nat} {A : Around} (r : Room k A) : A.units + 64 < cLine := by have := r.un; omega
/-! ### the draws: one list of ints that gets shorter; all else stays -/
def StD (D : Addr) (H : Hp) : Prop := ∃ ns : List Int, H D = some (.lst (ns.map V.int))
structure Kd (D : Addr) (H H' : Hp) : Prop where
  a : StD D H
  b : StD D H'
  k : ∀ x u, x ≠ D → H x = some u → H' x = some u
def NotInts (u : HO) : Prop := ∀ ns : List Int, u ≠ .lst (ns.map V.int)
theorem ni_tup (xs : List V) : NotInts (.tup xs) := fun _ z => by cases z
theorem ni_ins (C d : Addr) (fs : List (Str × V)) : NotInts (.ins C d fs) := fun _ z => by cases z
theorem ni_dK (kv : List (Key × V)) : NotInts (.dK kv) := fun _ z => by cases z
theorem ni_strs {ys : List Str} (h : ys ≠ []) : NotInts (.lst (ys.map V.str)) := fun ns z => by
  cases ys with
  | nil => exact h rfl
  | cons y ys => cases ns with
    | nil => cases z
    | cons n ns => injection z with z; injection z with z _; cases z
theorem ni_refs {α : Type} {f : α → Addr} {ys : List α} (h : ys ≠ []) : NotInts (.lst (ys.map fun p => V.ref (f p))) := fun ns z => by
  cases ys with
  | nil => exact h rfl
  | cons y ys => cases ns with
    | nil => cases z
    | cons n ns => injection z with z; injection z with z _; cases z
section
variable {D : Addr} {H H' H2 : Hp}
theorem StD.ext (d : StD D H) (s : Same H H') : StD D H' := by
  obtain ⟨ns, h⟩ := d
  exact ⟨ns, s _ _ h⟩
theorem Kd.refl (d : StD D H) : Kd D H H := ⟨d, d, fun _ _ _ e => e⟩
theorem Kd.trans (a : Kd D H H') (b : Kd D H' H2) : Kd D H H2 := ⟨a.a, b.b, fun x u n e => b.k x u n (a.k x u n e)⟩
theorem Kd.of (d : StD D H) (s : Same H H') : Kd D H H' := ⟨d, d.ext s, fun x u _ e => s x u e⟩
theorem Kd.same (a : Kd D H H') (s : Same H' H2) : Kd D H H2 := a.trans (Kd.of a.b s)
theorem StD.ne (d : StD D H) {x : Addr} {u : HO} (n : NotInts u) (h : H x = some u) : x ≠ D := fun z => by
  obtain ⟨ns, e⟩ := d
  rw [z, e] at h
  exact n ns (Option.some.inj h).symm
theorem StD.new (d : StD D H) {x : Addr} (h : H x = none) : x ≠ D := fun z => by
  obtain ⟨ns, e⟩ := d
  rw [z, e] at h
  cases h
theorem Kd.at (k : Kd D H H') {x : Addr} {u : HO} (n : NotInts u) (h : H x = some u) : H' x = some u := k.k x u (k.a.ne n h) h
theorem Kd.tup (k : Kd D H H') {x : Addr} {xs : List V} (h : H x = some (.tup xs)) : H' x = some (.tup xs) := k.at (ni_tup _) h
theorem Kd.ins (k : Kd D H H') {x C d : Addr} {fs : List (Str × V)} (h : H x = some (.ins C d fs)) : H' x = some (.ins C d fs) := k.at (ni_ins _ _ _) h
theorem Kd.dK (k : Kd D H H') {x : Addr} {kv : List (Key × V)} (h : H x = some (.dK kv)) : H' x = some (.dK kv) := k.at (ni_dK _) h
theorem Kd.upd (k : Kd D H H') {l : Addr} {x : HO} (hl : H l = none) (n : l ≠ D) : Kd D H (upd H' l x) := by
  refine ⟨k.a, ?_, fun a u na e => ?_⟩
  · obtain ⟨ns, e⟩ := k.b
    exact ⟨ns, by rw [upd_ne (Ne.symm n)]; exact e⟩
  · rw [upd_ne (ne_of_none e hl)]
    exact k.k a u na e
theorem StD.upd (d : StD D H) {l : Addr} {x : HO} (n : l ≠ D) : StD D (upd H l x) := by
  obtain ⟨ns, e⟩ := d
  exact ⟨ns, by rw [upd_ne (Ne.symm n)]; exact e⟩
end
theorem eqv_ints (xs ys : List Int) : PyData.eqv (.list (xs.map PyData.int)) (.list (ys.map PyData.int)) = decide (xs = ys) := by
  simp only [PyData.eqv]
  exact eqvAll_ints xs ys
theorem shp_ints (xs : List Int) : SeqAt.shaped (.list (xs.map PyData.int)) = true := shp (by simp only [PyData.canLay0]; exact PySem.W.ke_canLayAll0 xs) (by
  simp only [PyData.depth, PySem.W.ke_depthAll xs]
  decide)
section
variable {P : Program} {w : World} {K : PySem.W.Frag} {mg : Str → Option Value} {base : Heap}
def spTake : Sp := fun vs H Q _ => ∃ (D : Addr) (b : Int), vs = [.ref D, .int b] ∧ 0 < b ∧ StD D H ∧ ∀ H', Kd D H H' → Below b Q H'
theorem sc_take : FnScope ["_law_draws", "_law_many"] ["_law_draws", "_law_many"] (defScope s__law_take) := ⟨rfl, rfl, rfl, by decide +kernel, rfl, by decide +kernel, by decide +kernel⟩
theorem ok_take (T : Txt K mg) : Ok P w K mg base (a__law_take K) ["_law_draws", "_law_many"] 1 spTake := by
  refine ok_of T.f__law_take sc_take (fun _ _ _ _ _ _ us hl => match us, hl with | [_, _], _ => rfl) (fun vs H Q E h => ?_) (fun cdv A outer s H vs Q E hr h => ?_)
  · obtain ⟨D, b, rfl, _⟩ := h
    rfl
  · obtain ⟨D, b, rfl, hb, hD, kk⟩ := h
    obtain ⟨ns, hD'⟩ := id hD
    refine ⟨_, pss_one (ps_ret (pe_ifExp (pt_cmpR (op_neD (room64 hr)) (pv 0) (pe_lst pa_nil) (nomark _)) (pe_op op_mod (pe_bm PySem.F.plainAttrs_list PySem.F.slot_list_pop PySem.F.type_list_pop mt_popAt (pv 0) (pa_cons pe_int pa_nil)) (pv 1)) pe_int)), ?_⟩
    refine ⟨_, rfl, (by show 0 ≤ sizeLine; exact Nat.zero_le _), fun l hl => ?_⟩
    have s1 : Same H _ := same_upd (o := .lst []) hl
    have hD1 := s1 _ _ hD'
    refine ⟨.list (ns.map PyData.int), .list (([] : List Int).map PyData.int), .lst (SqL.of hD1) (dp_ints ns), .lst (SqL.of upd_same) .nil, shp_ints ns, shp_ints [], ?_⟩
    rw [eqv_ints]
    refine ⟨_, rfl, ?_⟩
    cases ns with
    | nil =>
      rw [decide_eq_true rfl]
      exact iteF (kk _ (Kd.of hD s1) 0 (by omega) hb)
    | cons n ns =>
      rw [decide_eq_false (List.cons_ne_nil _ _)]
      refine iteT ⟨_, rfl, .inl ⟨rfl, _, SqL.of hD1⟩, D, _, 0, 0, .int n, rfl, rfl, hD1, by decide, by decide, ?_, rfl, _, rfl, _, _, rfl, rfl, hb, ?_⟩
      · unfold seqIndex?
        simp
      · refine kk _ ⟨hD, ⟨ns, upd_same⟩, fun a u na e => ?_⟩ _ (Int.emod_nonneg _ (by omega)) (Int.emod_lt_of_pos _ hb)
        rw [upd_ne na]
        exact s1 _ _ e
end
end OP
namespace OP
open PySem PySem.Spec PyProof.Rows L2
section
variable {P : Program} {w : World} {K : PySem.W.Frag} {mg : Str → Option Value} {base : Heap}
def spDigits (K : PySem.W.Frag) : Sp := fun vs H Q _ => ∃ (sc : Addr) (ns : List Int) (at' m b : Int), vs = [.ref sc, .int at', .int m, .int b] ∧ SqL K H sc (ns.map V.int) ∧ 0 ≤ at' ∧ 0 ≤ m ∧ m ≤ 150 ∧ 0 < b ∧ b < 1073741824 ∧
  ∀ r (ms : List Int) H', Same H H' → H' r = some (.lst (ms.map V.int)) → ms.length ≤ 150 → Q (.ref r) H'
abbrev nDigits : List Str := ["_law_script", "_law_at", "_law_many", "_law_base", "_law_cell", "_law_found", "_law_left", "_law_turn", "_law_blend", "_law_more"]
theorem sc_digits : FnScope nDigits ["_law_script", "_law_at", "_law_many", "_law_base"] (defScope s__law_digits) := ⟨rfl, rfl, rfl, by decide +kernel, rfl, by decide +kernel, by decide +kernel⟩
theorem ok_digits (T : Txt K mg) : Ok P w K mg base (a__law_digits K) ["_law_script", "_law_at", "_law_many", "_law_base"] 3 (spDigits K) := by
  have GC : Ok P w K mg base (a__law_cell_at K) _ 2 (spCell K) := ok_cell T
  have GD : Ok P w K mg base (a__law_draw K) _ 1 spDraw := ok_draw T
  refine ok_of T.f__law_digits sc_digits (fun _ _ _ _ _ _ us hl => match us, hl with | [_, _, _, _], _ => rfl) (fun vs H Q E h => ?_) (fun cdv A outer s H vs Q E hr h => ?_)
  · obtain ⟨sc, ns, at', m, b, rfl, _⟩ := h
    rfl
  · obtain ⟨sc, ns, at', m, b, rfl, hs, h0, m0, m1, b0, b1, kk⟩ := h
    have hr1 : Room 1 _ := hr.mono (by decide)
    refine ⟨_, (pss_cons (ps_par rfl sc_digits.nd (i := 4) (j := 5) rfl rfl (by decide) rfl rfl (pa_cons (pe_c GC hr T.g__law_cell_at (pa_cons (pv 0) (pa_cons (pv 1) pa_nil))) (pa_cons (pe_lst pa_nil) pa_nil)) (by rfl))
      (pss_cons (ps_set (i := 6) sc_digits.nd rfl (Or.inl rfl) (pe_op op_sub (pv 4) (pe_op op_pow pe_int pe_int)))
      (pss_cons (ps_for PassesOwn.never rfl (pi_range1 (by rfl) T.z_range (pa_cons (pv 2) pa_nil)) (pg_name (i := 7) sc_digits.nd rfl (Or.inl rfl)) (pss_one (ps_if (pt_cmpR op_ge (pv 4) (pe_op op_pow pe_int pe_int) (nomark _)) (pss_cons (ps_expr (pe_bm PySem.F.plainAttrs_list PySem.F.slot_list_append PySem.F.type_list_append mt_append (pv 5) (pa_cons (pe_op op_mod (pv 6) (pv 3)) pa_nil)))
      (pss_one (ps_set (i := 6) sc_digits.nd rfl (Or.inl rfl) (pe_op op_fdiv (pv 6) (pv 3))))) (pss_cons (ps_set (i := 8) sc_digits.nd rfl (Or.inl rfl) (pe_c GD hr1 T.g__law_draw (pa_cons (pe_op op_mul (pe_op op_add (pv 4) (pe_op op_mul pe_int (pv 7))) (pe_op op_add (pe_op op_add (pv 4) (pe_op op_mul pe_int (pv 7))) pe_int)) (pa_cons (pe_op op_add (pe_op op_mod (pv 7) pe_int) pe_int) (pa_cons pe_int pa_nil)))))
      (pss_cons (ps_set (i := 9) sc_digits.nd rfl (Or.inl rfl) (pe_c GD hr1 T.g__law_draw (pa_cons (pe_op op_add (pe_op op_mul (pe_op op_add (pv 4) (pe_op op_mul pe_int (pv 7))) (pe_op op_add (pv 4) pe_int)) (pe_op op_mul pe_int (pv 7))) (pa_cons (pe_op op_add (pe_op op_mod (pv 7) pe_int) pe_int) (pa_cons pe_int pa_nil)))))
      (pss_one (ps_expr (pe_bm PySem.F.plainAttrs_list PySem.F.slot_list_append PySem.F.type_list_append mt_append (pv 5) (pa_cons (pe_op op_mod (pe_op op_add (pe_op op_mul (pv 8) pe_int) (pv 9)) (pv 3)) pa_nil)))))))))
      (pss_one (ps_ret (pv 5)))))), ?_⟩
    refine ⟨_, rfl, _, rfl, sc, ns, at', rfl, hs, h0, fun c H1 s1 c0 => ⟨(by show 0 ≤ sizeLine; exact Nat.zero_le _), fun f hf => ⟨_, _, rfl, ?_⟩⟩⟩
    have s2 : Same H _ := s1.push (o := .lst []) hf
    have nf : ∀ x u, H x = some u → x ≠ f := fun x u e => ne_of_none (s1 _ _ e) hf
    have hf2 : upd H1 f (.lst []) f = some (.lst (([] : List Int).map V.int)) := upd_same
    generalize upd H1 f (.lst []) = H2 at s2 hf2
    refine ⟨_, rfl, _, _, rfl, rfl, ⟨by decide, by decide, by decide⟩, _, _, rfl, rfl, ?_⟩
    refine ⟨_, rfl, m, rfl, by omega, by omega, ?_⟩
    refine for_range (fun i σ H' => i ≤ 150 ∧ ∃ (l : Int) (ms : List Int) (v7 v8 v9 : Option V), σ = [some (.ref sc), some (.int at'), some (.int m), some (.int b), some (.int c), some (.ref f), some (.int l), v7, v8, v9] ∧ Same H H' ∧ H' f = some (.lst (ms.map V.int)) ∧ ms.length = i)
      ⟨Nat.zero_le _, _, [], none, none, none, rfl, s2, hf2, rfl⟩ (fun i σ H' hi q => ?_) fun σ H' q => ?_
    · obtain ⟨_, l, ms, v7, v8, v9, rfl, s3, hf3, lms⟩ := q
      have grow : ∀ (z : Int) (H4 : Hp), Same H' H4 → Same H (upd H4 f (.lst (ms.map V.int ++ [.int z]))) ∧ upd H4 f (.lst (ms.map V.int ++ [.int z])) f = some (.lst ((ms ++ [z]).map V.int)) := fun z H4 s4 => by
        refine ⟨fun x u e => ?_, ?_⟩
        · rw [upd_ne (nf x u e)]
          exact s4 _ _ (s3 _ _ e)
        · rw [upd_same, List.map_append] <;> rfl
      refine ⟨_, rfl, _, _, rfl, rfl, ⟨by decide, by decide, by decide⟩, _, _, rfl, rfl, _, rfl, ?_⟩
      by_cases big : (10 : Int) ^ (18 : Int).toNat ≤ c
      · rw [decide_eq_true big]
        refine iteT ⟨_, rfl, .inl ⟨rfl, _, SqL.of hf3⟩, _, rfl, _, rfl, _, _, rfl, rfl, b0, f, _, _, rfl, rfl, hf3, small1000 (by rw [List.length_map]; omega), ?_⟩
        obtain ⟨g1, g2⟩ := grow (l % b) H' (Same.refl _)
        refine ⟨_, rfl, _, rfl, _, _, rfl, rfl, ⟨b0, b1⟩, by omega, _, _, _, _, _, rfl, g1, g2, by rw [List.length_append, lms] <;> rfl⟩
      · rw [decide_eq_false big]
        have cs : c < 10 ^ 18 := Int.not_le.mp big
        refine iteF ⟨_, rfl, _, rfl, _, _, rfl, rfl, .inl ⟨by decide, by decide⟩, _, _, rfl, rfl, _, rfl, _, rfl, _, _, rfl, rfl, .inl ⟨by decide, by decide⟩, _, _, rfl, rfl, _, _, rfl, rfl, _, _, rfl, rfl, .inl ⟨by omega, by omega⟩, _, rfl, _, _, rfl, rfl, (by show (0 : Int) < 9; decide), _, _, rfl, rfl, _, _, _, rfl, by decide, fun H4 s4 v4 a4 b4 => ?_⟩
        refine ⟨_, rfl, _, rfl, _, _, rfl, rfl, .inl ⟨by decide, by decide⟩, _, _, rfl, rfl, _, rfl, _, _, rfl, rfl, _, _, rfl, rfl, .inl ⟨by omega, by omega⟩, _, rfl, _, _, rfl, rfl, .inl ⟨by decide, by decide⟩, _, _, rfl, rfl, _, rfl, _, _, rfl, rfl, (by show (0 : Int) < 7; decide), _, _, rfl, rfl, _, _, _, rfl, by decide, fun H5 s5 v5 a5 b5 => ?_⟩
        have s45 := s4.trans s5
        have hf5 := s45 _ _ hf3
        refine ⟨_, rfl, .inl ⟨rfl, _, SqL.of hf5⟩, _, rfl, _, _, rfl, rfl, .inr ⟨by decide, by decide⟩, _, rfl, _, _, rfl, rfl, _, rfl, _, _, rfl, rfl, b0, f, _, _, rfl, rfl, hf5, small1000 (by rw [List.length_map]; omega), ?_⟩
        obtain ⟨g1, g2⟩ := grow ((v4 * 1000003 + v5) % b) H5 s45
        exact ⟨by omega, _, _, _, _, _, rfl, g1, g2, by rw [List.length_append, lms] <;> rfl⟩
    · obtain ⟨_, l, ms, v7, v8, v9, rfl, s3, hf3, lms⟩ := q
      exact ⟨_, rfl, kk f ms H' s3 hf3 (by omega)⟩
end
end OP
/-! enumerate over a tuple -/
namespace OP
open PySem PySem.Spec PyProof.Rows L2
abbrev tupIter (l : Addr) : Obj := { cls := .type "tuple_iterator", data := .fields #[.ref l, .int 0 0] }
abbrev enumObj (it : Addr) : Obj := { cls := .type "enumerate", data := .fields #[.none, .bool false, .ref it, rawInt 0, .none, .none] }
theorem enum_new {v : Value} {o : Obj} {Hv : Heap → Prop} (B : Begins v o Hv) :
    Meets (Builtin.«enumerate.__new__» ⟨[.type "enumerate", v], []⟩) (fun _ R s => Hv s.heap ∧ R (.ok (.ret (.ref (s.heap.push o).objs.size))) { s with heap := (s.heap.push o).push (enumObj s.heap.objs.size) }) := by
  refine .of_wp fun prog w A R s h => ?_
  obtain ⟨hp, gs, dr, tk, os⟩ := s
  obtain ⟨hv, h⟩ := h
  have sube := sub_enumerate
  have go : ∀ {A' : Around} {E : Value → Shared → Prop} {Q : Value → Shared → Prop}, Q (.ref hp.objs.size) ⟨hp.push o, gs, dr, tk, os⟩ → wpAny (model prog w) A' (pyIter v) Q E ⟨hp, gs, dr, tk, os⟩ := fun q => B.iter prog w _ _ ⟨hp, gs, dr, tk, os⟩ _ hv q
  wp_walk using go
  refine wpAny_stack_any fun st => wpAny_pure ?_
  split
  · rename_i c _ _ _ _ _
    cases (c == Value.type "enumerate") <;> (wp_walk using go; exact ⟨_, rfl, h⟩)
  · wp_walk using go
    exact ⟨_, rfl, h⟩
section
variable {prog : Program} {w : PySem.World} {A : Around} {E : Value → Shared → Prop} {s : Shared}
theorem enum_begin {v : Value} {o : Obj} {Hv : Heap → Prop} {Q : Value → Shared → Prop} (B : Begins v o Hv) (hv : Hv s.heap)
    (h : ∀ h', IsEnum h' (s.heap.objs.size + 1) s.heap.objs.size 0 .none → h'.get? s.heap.objs.size = some o → (∀ b o, s.heap.get? b = some o → h'.get? b = some o) → Q (.ref (s.heap.objs.size + 1)) { s with heap := h' }) :
    wpAny (model prog w) A (call (.type "enumerate") [v]) Q E s := by
  refine callType_new F.called_enumerate (by decide) (F.typeCall_enumerate_1 _) (F.newCall_enumerate_1 _) (fun ob => F.args_object_init_2 ob _) F.entry_enumerate_new (enum_new B) ⟨hv, ?_⟩
  have sz : (s.heap.push o).objs.size = s.heap.objs.size + 1 := Heap.size_push ..
  show _ ∧ _
  rw [sz]
  have en : IsEnum ((s.heap.push o).push (enumObj s.heap.objs.size)) (s.heap.objs.size + 1) s.heap.objs.size 0 .none := by
    have z := Heap.get?_push_size (s.heap.push o) (o := enumObj s.heap.objs.size) rfl
    rw [sz] at z
    exact z
  exact ⟨⟨_, en, rfl⟩, h _ en (Heap.get?_push_of_some _ (Heap.get?_push_size _ B.free)) fun b o x => Heap.get?_push_of_some _ (Heap.get?_push_of_some _ x)⟩
end
/-- the tuple at a, each item in a new pair with its number -/
def IteT (K : PySem.W.Frag) (a : Addr) : It :=
  ⟨fun i H => ∃ (xs : List V) (x : V), SqT K H a xs ∧ xs[i]? = some x, fun i H v H' => ∃ T x, v = .ref T ∧ H T = none ∧ H' = upd H T (.tup [.int (i : Nat), x]) ∧ ∀ xs, SqT K H a xs → xs[i]? = some x, fun i H => ∃ xs : List V, SqT K H a xs ∧ xs.length ≤ i⟩
theorem turn_enumT {P : Program} {w : PySem.World} {K : PySem.W.Frag} {elts : List Expr} {kk : Nat} {tpos : Pos} (a e it : Addr) :
    Turn P w K (.Tuple elts kk tpos) (IteT K a) [e, it] e (fun i h => (∃ old, IsEnum h e it ((i : Nat) : Int) old) ∧ h.IsTupleIter it a i ∧ e ≠ it ∧ a ≠ it ∧ a ≠ e) where
  mem := by simp
  obj := fun i h st b hb => by
    obtain ⟨⟨old, he⟩, ⟨o, ho, hc, hd⟩, _⟩ := st
    have e' : b = e ∨ b = it := by simpa using hb
    rcases e' with z | z
    · rw [z]; exact ⟨_, he, fun v q => nomatch q⟩
    · rw [z]; exact ⟨o, ho, fun v q => by rw [hd] at q; cases q⟩
  keep := fun i h h' st k => by
    obtain ⟨⟨old, he⟩, hi, r⟩ := st
    exact ⟨⟨old, k e (by simp) _ he⟩, hi.at fun o q => k it (by simp) o q, r⟩
  item := by
    intro X hP hw hK hc i pins s σ H E I hf st hg
    subst hP hw hK
    obtain ⟨⟨old, he⟩, hit, hne, hai, hae⟩ := st
    obtain ⟨xs, x, hq, hx⟩ := hg
    obtain ⟨its, rv, p, hz⟩ := I.tuple hq
    obtain ⟨u, hu, ru⟩ := rv.get hx
    have hel : e < s.heap.objs.size := Heap.lt_size he
    have hil : it < s.heap.objs.size := by obtain ⟨_, q, _⟩ := hit; exact Heap.lt_size q
    have isz : i < its.toArray.size := by
      have z := (List.getElem?_eq_some_iff.mp hu).1
      simpa using z
    have D := Draws.tuple (prog := X.prog) (w := X.w) (A := X.A.in1) (I.ok.hd hc) it a hai its.toArray
    refine wpAny_pyNext_enum_itemD D he ⟨hit, (show s.heap.IsTuple a its.toArray from p)⟩ isz hne (by simp; exact ⟨hne, fun z => hae z.symm⟩) fun x' h' tk hx' ho hit' hT hsz hk => ?_
    obtain rfl : x' = u := by
      have z : its.toArray[i]? = some u := by simpa using hu
      exact Option.some.inj (hx'.symm.trans z)
    refine ⟨_, rfl, wpAny_letOwnedTupleGo_enum (s := { s with heap := h', toks := tk + 1 }) ho fun h'' he' sb => ?_⟩
    have hT2 : h''.get? s.heap.objs.size = some { cls := .type "tuple", data := .seq #[.int i tk, x'] } := (sb.2 _ (Nat.ne_of_gt hel)).trans hT
    have new : ObjOk X.prog X.w (upd H s.heap.objs.size (.tup [.int (i : Nat), x])) h'' s.heap.objs.size (.tup [.int (i : Nat), x]) :=
      ⟨by show 2 ≤ sizeLine; decide, [.int i tk, x'], .cons ⟨_, rfl⟩ (.cons ru .nil), ⟨_, hT2, rfl, _, rfl⟩⟩
    have I1 : Inv X pins σ (upd H s.heap.objs.size (.tup [.int (i : Nat), x])) { s with heap := h'', toks := tk + 1 } :=
      I.turnedNew (ch := [e, it]) (fun b ob hb q => (sb.2 b (fun z => hb (by simp [z]))).trans (hk b ob (fun z => hb (by simp [z])) (fun z => hb (by simp [z])) q)) hf (Nat.le_refl _) new
    refine ⟨.ref s.heap.objs.size, _, I1, rfl, ⟨_, x, rfl, I.hok.fresh (Nat.le_refl _), rfl, fun ys hy => by rw [I.tuple_inj hy hq]; exact hx⟩, ⟨⟨x', ?_⟩, hit'.1.at fun o q => (sb.2 it (Ne.symm hne)).trans q, hne, hai, hae⟩, fun b hb => ?_⟩
    · have e1 : ((i + 1 : Nat) : Int) = (i : Int) + 1 := by omega
      rw [e1]
      exact he'
    · have hb' : b < s.heap.objs.size := by
        have e' : b = e ∨ b = it := by simpa using hb
        rcases e' with z | z
        · rw [z]; exact hel
        · rw [z]; exact hil
      rw [upd_ne (Nat.ne_of_lt hb')]
      exact (hf b hb).1
  done := by
    intro X hP hw hK hc i pins s σ H E I hf st hg
    subst hP hw hK
    obtain ⟨⟨old, he⟩, hit, hne, hai, hae⟩ := st
    obtain ⟨xs, hq, hx⟩ := hg
    obtain ⟨its, rv, p, hz⟩ := I.tuple hq
    obtain ⟨f0, f1, f2, f3, f4, f5⟩ := hf it (by simp)
    have hl := rv.length
    have hT : s.TypeIs (.ref e) "enumerate" := ⟨_, he, rfl⟩
    unfold pyNext
    refine wpAny_bind (wpAny_attempt (wpAny_callSpecial?_slot (name := Str.ofString "__next__") hT F.slot_enumerate_next (wpAny_call_entry F.slot_enumerate_next hT F.entry_enumerate_next ?_ (F.args_enumerate_next_1 _))))
    show wpAny _ _ (field (.ref e) 2 >>= _) _ _ _
    refine wpAny_bind (wpAny_field he rfl (x := .ref it) rfl ?_)
    refine wpAny_bind (wpAny_nextOf_tuple_end (A := X.A.in1) (I.ok.hd hc) hit (show s.heap.IsTuple a its.toArray from p) (by simp; omega) fun h' x eb hx' => ?_)
    obtain ⟨o, ho, hc'⟩ := hx'
    refine wpAny_bind (wpAny_isInstance (T := "StopIteration") (b := true) ⟨o, ho, hc'⟩ isSubtype_stop ?_)
    exact wpAny_pure ⟨rfl, I.turned (t' := s.toks) (fun b o hb q => eb b o hb q) f0 f1 f3 f4 f5⟩
  self := fun A i s Q E st h => by
    obtain ⟨⟨_, he⟩, _⟩ := st
    exact wpAny_pyIter_enum he h
def iEnumT (K : PySem.W.Frag) (ta : TA) : TI := fun σ H R => ta σ H fun vs H1 => ∃ a xs, vs = [.ref a] ∧ SqT K H1 a xs ∧ R (IteT K a) H1
theorem pi_enumT {X : Cx} {e : Expr} {ta : TA} {p pos tpos : Pos} {elts : List Expr} {kk : Nat} (hg : Gl X "enumerate") (hm : X.mg "enumerate" = none) (ha : PA X [e] ta) (hs : starEach [e] X.env = [(false, eval e X.env)] := by rfl) :
    PI X (.Tuple elts kk tpos) (.Call (.Name "enumerate" p) [e] [] pos) (iEnumT X.K ta) := by
  refine ⟨fun pins s σ H R I h => ?_⟩
  refine Call_ (ld_blt I hg hm boot_enumerate (PyProof.Rows.callWith_type1 (thn (ha.run pos pins s σ H _ I h) fun us s1 ⟨vs, H1, I1, r1, q1⟩ => ?_) hs rfl))
  obtain ⟨a, xs, ex, hq, q⟩ := q1
  subst ex
  cases r1 with
  | cons r rr =>
    cases rr
    cases r
    obtain ⟨its, rv, p', hz⟩ := I1.tuple hq
    have isT : s1.heap.IsTuple a its.toArray := p'
    have al : a < s1.heap.objs.size := by obtain ⟨_, z, _⟩ := isT; exact Heap.lt_size z
    refine enum_begin (begins_tuple a its.toArray) isT fun h' he hit hk => wpAny_pyIter_enum he ?_
    have I2 : Inv X pins σ H1 { s1 with heap := h' } := I1.kept (t' := s1.toks) hk
    refine ⟨s1.heap.objs.size + 1, [s1.heap.objs.size + 1, s1.heap.objs.size], _, _, H1, rfl, I2, turn_enumT a (s1.heap.objs.size + 1) s1.heap.objs.size, ⟨⟨.none, he⟩, ⟨_, hit, rfl, rfl⟩, Nat.succ_ne_self _, Nat.ne_of_lt al, Nat.ne_of_lt (Nat.lt_succ_of_lt al)⟩, fun b hb => ?_, q⟩
    have e' : b = s1.heap.objs.size + 1 ∨ b = s1.heap.objs.size := by simpa using hb
    have hle : s1.heap.objs.size ≤ b := by
      rcases e' with z | z
      · rw [z]; exact Nat.le_add_right _ _
      · rw [z]; exact Nat.le_refl _
    exact I1.fpOk hle (I1.hok.fresh hle)
section
variable {K : PySem.W.Frag} {a : Addr} {xs : List V}
theorem walk_enumT : Walk (IteT K a) xs.length (fun H => SqT K H a xs) (YPair (fun i => some (.int (i : Nat))) (fun i => xs[i]?)) := by
  refine ⟨fun i H lt q => ⟨xs, xs[i], q, List.getElem?_eq_getElem lt⟩, fun H q => ⟨xs, q, Nat.le_refl _⟩, fun i H v H' lt q y => ?_⟩
  obtain ⟨t, x, e1, e2, e3, e4⟩ := y
  exact ⟨t, .int (i : Nat), x, e1, e2, e3, rfl, e4 xs q⟩
end
end OP
namespace OP
open PySem PySem.Spec PyProof.Rows L2
section
variable {P : Program} {w : World} {K : PySem.W.Frag} {mg : Str → Option Value} {base : Heap}
def spPool (K : PySem.W.Frag) : Sp := fun vs H Q _ => ∃ (sc bt : Addr) (ns : List Int), vs = [.ref sc, .ref bt] ∧ SqL K H sc (ns.map V.int) ∧ H bt = some (.tup [.int 1000003, .int 999983]) ∧
  ∀ r H', Same H H' → StD r H' → Q (.ref r) H'
abbrev nPool : List Str := ["_law_script", "_law_bases", "_law_found", "_law_at", "_law_base"]
theorem sc_pool : FnScope nPool ["_law_script", "_law_bases"] (defScope s__law_pool) := ⟨rfl, rfl, rfl, by decide +kernel, rfl, by decide +kernel, by decide +kernel⟩
theorem ok_pool (T : Txt K mg) : Ok P w K mg base (a__law_pool K) ["_law_script", "_law_bases"] 4 (spPool K) := by
  have GG : Ok P w K mg base (a__law_digits K) _ 3 (spDigits K) := ok_digits T
  refine ok_of T.f__law_pool sc_pool (fun _ _ _ _ _ _ us hl => match us, hl with | [_, _], _ => rfl) (fun vs H Q E h => ?_) (fun cdv A outer s H vs Q E hr h => ?_)
  · obtain ⟨sc, bt, ns, rfl, _⟩ := h
    rfl
  · obtain ⟨sc, bt, ns, rfl, hs, hb, kk⟩ := h
    refine ⟨_, (pss_cons (ps_set (i := 2) sc_pool.nd rfl (Or.inl rfl) (pe_lst pa_nil))
      (pss_cons (ps_for PassesOwn.never rfl (pi_enumT (by rfl) T.z_enumerate (pa_cons (pv 1) pa_nil)) (pg_tup rfl (pgs_cons (pg_name (i := 3) sc_pool.nd rfl (Or.inl rfl)) (pgs_cons (pg_name (i := 4) sc_pool.nd rfl (Or.inl rfl)) pgs_nil))) (pss_one (ps_set (i := 2) sc_pool.nd rfl (Or.inl rfl) (pe_op op_cat (pv 2) (pe_c GG hr T.g__law_digits (pa_cons (pv 0) (pa_cons (pv 3) (pa_cons pe_int (pa_cons (pv 4) pa_nil)))))))))
      (pss_one (ps_ret (pv 2))))), ?_⟩
    refine ⟨(by show 0 ≤ sizeLine; exact Nat.zero_le _), fun f hf => ?_⟩
    have s1 : Same H _ := same_upd (o := .lst []) hf
    refine ⟨_, rfl, bt, _, rfl, SqT.of (s1 _ _ hb), for_it (walk_enumT (K := K) (a := bt) (xs := [V.int 1000003, V.int 999983])) (fun i σ H' => ∃ (f : Addr) (ms : List Int) (v3 v4 : Option V), σ = [some (.ref sc), some (.ref bt), some (.ref f), v3, v4] ∧ Same H H' ∧ H' f = some (.lst (ms.map V.int)) ∧ ms.length ≤ 150 * i)
      ⟨f, [], none, none, rfl, s1, upd_same, Nat.le_refl _⟩ (fun i σ H' _ q => ?_) (fun i x σ H' H2 hi q y => ?_) fun σ H' q => ?_⟩
    · obtain ⟨_, _, _, _, _, s3, _⟩ := q
      exact SqT.of (s3 _ _ hb)
    · obtain ⟨f, ms, v3, v4, rfl, s3, hf3, lm⟩ := q
      obtain ⟨t, x1, x2, rfl, ht, rfl, e1, e2⟩ := y
      obtain rfl := (Option.some.inj e1).symm
      obtain ⟨b, rfl, b0, b1⟩ : ∃ b : Int, x2 = .int b ∧ 0 < b ∧ b < 1073741824 := by
        have hi : i < 2 := hi
        match i, hi with
        | 0, _ => exact ⟨_, (Option.some.inj e2).symm, by decide, by decide⟩
        | 1, _ => exact ⟨_, (Option.some.inj e2).symm, by decide, by decide⟩
      have s4 : Same H' _ := same_upd (o := .tup [.int (i : Nat), .int b]) ht
      have s34 := s3.trans s4
      refine ⟨t, _, rfl, SqT.of upd_same, rfl, _, _, rfl, _, _, rfl, rfl, ?_⟩
      refine ⟨_, rfl, _, rfl, _, rfl, _, rfl, sc, ns, _, _, _, rfl, Same.seq s34 hs, by omega, by decide, by decide, b0, b1, fun r ms2 H5 s5 e5 l5 => ?_⟩
      refine ⟨f, r, _, _, rfl, rfl, s5 _ _ (s4 _ _ hf3), e5, ?_, fun p hp => ?_⟩
      · have hi : i < 2 := hi
        rw [List.length_map, List.length_map]
        exact Nat.le_trans (show ms.length + ms2.length ≤ 1000 by omega) (by decide)
      · refine ⟨p, ms ++ ms2, _, _, rfl, (s34.trans s5).push hp, ?_, ?_⟩
        · rw [upd_same, List.map_append]
        · rw [List.length_append]
          omega
    · obtain ⟨f, ms, v3, v4, rfl, s3, hf3, lm⟩ := q
      exact ⟨_, rfl, kk f H' s3 ⟨ms, hf3⟩⟩
end
end OP
namespace OP
open PySem PySem.Spec PyProof.Rows L2
/-! ### changes as rows -/
def Kind.word : Kind → Str
  | .put => "put"
  | .move => "move"
  | .add => "add"
  | .addslot => "addslot"
  | .rais => "raise"
  | .lower => "lower"
def word : Option Kind → Str
  | none => "if"
  | some k => k.word
def oneRow (o : One) : List V := [.str o.k.word, .int o.s, .int o.v]
def RowAt (H : Hp) (a : Addr) : Chg → Prop
  | .one o => H a = some (.tup (oneRow o))
  | .iff s v o => ∃ b, H a = some (.tup [.str "if", .int s, .int v, .ref b]) ∧ H b = some (.tup (oneRow o))
theorem RowAt.ext {H H' : Hp} {a : Addr} {c : Chg} (k : Same H H') (h : RowAt H a c) : RowAt H' a c := by
  cases c with
  | one o => exact k _ _ h
  | iff s v o =>
    obtain ⟨b, h1, h2⟩ := h
    exact ⟨b, k _ _ h1, k _ _ h2⟩
theorem RowAt.kd {D : Addr} {H H' : Hp} {a : Addr} {c : Chg} (k : Kd D H H') (h : RowAt H a c) : RowAt H' a c := by
  cases c with
  | one o => exact k.tup h
  | iff s v o =>
    obtain ⟨b, h1, h2⟩ := h
    exact ⟨b, k.tup h1, k.tup h2⟩
def Fits (n : Nat) (c : Chg) : Prop := ∀ z ∈ c.slots, z < (n : Int)
theorem fits_one {n : Nat} {o : One} (h : o.s < n) (h2 : o.k.src = true → o.v < n) : Fits n (.one o) := fun z hz => by
  have hz : z ∈ o.slots := hz
  unfold One.slots at hz
  split at hz
  · rename_i hs
    have := h2 hs
    unfold two at hz
    split at hz
    · obtain rfl := List.mem_singleton.mp hz; omega
    · split at hz
      · rcases List.mem_cons.mp hz with rfl | hz
        · omega
        · obtain rfl := List.mem_singleton.mp hz; omega
      · rcases List.mem_cons.mp hz with rfl | hz
        · omega
        · obtain rfl := List.mem_singleton.mp hz; omega
  · obtain rfl := List.mem_singleton.mp hz
    omega
theorem fits_iff {n s v : Nat} {o : One} (h : s < n) (h2 : Fits n (.one o)) : Fits n (.iff s v o) := fun z hz => by
  have hz : z ∈ three s o.slots := hz
  unfold three at hz
  obtain ⟨_, q⟩ := List.mem_filter.mp hz
  rcases of_decide_eq_true q with rfl | q
  · omega
  · exact h2 z q
theorem w_if (q : Option Kind) : decide (V.str (word q) = V.str "if") = decide (q = none) := by
  cases q with
  | none => decide +kernel
  | some k => cases k <;> decide +kernel
theorem w_move (q : Option Kind) : decide (V.str (word q) = V.str "move") = decide (q = some .move) := by
  cases q with
  | none => decide +kernel
  | some k => cases k <;> decide +kernel
theorem w_addslot (q : Option Kind) : decide (V.str (word q) = V.str "addslot") = decide (q = some .addslot) := by
  cases q with
  | none => decide +kernel
  | some k => cases k <;> decide +kernel
theorem w_put (q : Option Kind) : decide (V.str (word q) = V.str "put") = decide (q = some .put) := by
  cases q with
  | none => decide +kernel
  | some k => cases k <;> decide +kernel
theorem w_add (q : Option Kind) : decide (V.str (word q) = V.str "add") = decide (q = some .add) := by
  cases q with
  | none => decide +kernel
  | some k => cases k <;> decide +kernel
theorem w_raise (q : Option Kind) : decide (V.str (word q) = V.str "raise") = decide (q = some .rais) := by
  cases q with
  | none => decide +kernel
  | some k => cases k <;> decide +kernel
theorem tand_pure {tA tB : TT} {σ : L2.St} {H : Hp} {Q : Bool → Hp → Prop} (p r : Bool) (hA : ∀ Q' : Bool → Hp → Prop, Q' p H → tA σ H Q') (hB : ∀ Q' : Bool → Hp → Prop, Q' r H → tB σ H Q') (h : Q (p && r) H) : tAnd tA tB σ H Q := by
  refine hA _ ?_
  cases p with
  | false => exact iteF h
  | true => exact iteT (hB _ h)
theorem seq_and {tA tB : TT} {u v z : TS} {D : Ends} {σ : L2.St} {H : Hp} (p r : Bool) (hA : ∀ Q' : Bool → Hp → Prop, Q' p H → tA σ H Q') (hB : ∀ Q' : Bool → Hp → Prop, Q' r H → tB σ H Q') (h : if (p && r) = true then u { D with nx := z D } σ H else v { D with nx := z D } σ H) : tSeq (tIfS (tAnd tA tB) u v) z D σ H := tand_pure p r hA hB h
theorem nat_of {v : Int} (h : 0 ≤ v) : ∃ m : Nat, v = (m : Int) := ⟨v.toNat, by omega⟩
section
variable {P : Program} {w : World} {K : PySem.W.Frag} {mg : Str → Option Value} {base : Heap}
/-- never called -/
theorem ok_no {x qual : Str} {st : Stmt} {f : Addr} {ps : List Str} {k : Nat} (F : ∃ fd, Fun K x qual st f fd)
    (hb : ∀ (kV doc pm : Value) (an : Option Addr) (cdv ct : Value) (us : List Value), us.length = ps.length → bindArgs (PySem.W.fnOf x qual (defArgs st) (defBody st) (defScope st) .none kV doc pm an cdv ct) ⟨us, []⟩ = pure (ps.zip us)) : Ok P w K mg base f ps k (fun _ _ _ _ => False) := by
  obtain ⟨fd, F⟩ := F
  exact ⟨⟨fd, ⟨fun _ _ _ _ h => h.elim, fun _ _ _ _ _ _ _ _ _ _ _ _ _ h => h.elim⟩, F.binds hb⟩, F.kp⟩
end
end OP
namespace OP
open PySem PySem.Spec PyProof.Rows L2
theorem pi_or {X : Cx} {tg e : Expr} {w1 w2 : TI} (h1 : PI X tg e w1) (h2 : PI X tg e w2) : PI X tg e (fun σ H R => w1 σ H R ∨ w2 σ H R) := ⟨fun pins s σ H R I h => by
  rcases h with h | h
  · exact h1.run pins s σ H R I h
  · exact h2.run pins s σ H R I h⟩
/-! ### policies -/
abbrev Ents := List (Str × Str)
def pol (E : Ents) : List (List Key × V) := E.map fun e => ([Sum.inr e.1, Sum.inr e.2], V.bl true)
def PolAt (H : Hp) (d : Addr) (E : Ents) : Prop := Rd H d (.dT (pol E))
theorem pol_val (E : Ents) (a b : Str) : valV (pol E) [Sum.inr a, Sum.inr b] = if (a, b) ∈ E then some (V.bl true) else none := by
  induction E with
  | nil => rfl
  | cons e E ih =>
    show valV (([Sum.inr e.1, Sum.inr e.2], V.bl true) :: pol E) [Sum.inr a, Sum.inr b] = _
    by_cases h : e = (a, b)
    · rw [if_pos (by rw [h]; exact List.mem_cons_self), h]
      exact valV_pos rfl
    · have ne : ¬ ([Sum.inr e.1, Sum.inr e.2] : List Key) = [Sum.inr a, Sum.inr b] := fun z => h (by
        injection z with z1 z2
        injection z2 with z2 _
        exact Prod.ext (Sum.inr.inj z1) (Sum.inr.inj z2))
      rw [valV_neg ne, ih]
      by_cases hm : (a, b) ∈ E
      · rw [if_pos hm, if_pos (List.mem_cons_of_mem _ hm)]
      · rw [if_neg hm, if_neg (fun z => (List.mem_cons.mp z).elim (fun q => h q.symm) hm)]
theorem pol_some (E : Ents) (a b : Str) : (valV (pol E) [Sum.inr a, Sum.inr b]).isSome = decide ((a, b) ∈ E) := by
  rw [pol_val]
  by_cases h : (a, b) ∈ E
  · rw [if_pos h, decide_eq_true h] <;> rfl
  · rw [if_neg h, decide_eq_false h] <;> rfl
theorem PolAt.ext {H H' : Hp} {d : Addr} {E : Ents} (s : Same H H') (h : PolAt H d E) : PolAt H' d E := by
  rcases h with h | ⟨o, h⟩
  · exact .inl (s _ _ h)
  · exact .inr ⟨o, s _ _ h⟩
theorem PolAt.get {H : Hp} {d q : Addr} {E : Ents} {a b : Str} (h : PolAt H d E) (hq : H q = some (.tup [V.str a, V.str b])) : DGet H d (.ref q) (valV (pol E) [Sum.inr a, Sum.inr b]) := .inr ⟨pol E, [Sum.inr a, Sum.inr b], q, h, rfl, hq, rfl⟩
def bef (E : Ents) (o y : Str) : Bool := decide ((o, y) ∈ E)
def freeN (E : Ents) (ys : List Str) : List Str := ys.filter fun y => !(ys.any fun o => bef E o y)
def withoutN (ys : List Str) (y : Str) : List Str := ys.filter fun o => !decide (o = y)
/-- a list or a tuple of texts -/
def SqN (K : PySem.W.Frag) (H : Hp) (a : Addr) (ys : List Str) : Prop := SqL K H a (ys.map V.str) ∨ SqT K H a (ys.map V.str)
theorem SqN.ext {K : PySem.W.Frag} {H H' : Hp} {a : Addr} {ys : List Str} (s : Same H H') (h : SqN K H a ys) : SqN K H' a ys := by
  rcases h with h | h
  · exact .inl (Same.seq s h)
  · exact .inr (Same.tp s h)
section
variable {P : Program} {w : World} {K : PySem.W.Frag} {mg : Str → Option Value} {base : Heap}
def spFree (K : PySem.W.Frag) : Sp := fun vs H Q _ => ∃ (d a : Addr) (E : Ents) (ys : List Str), vs = [.ref d, .ref a] ∧ PolAt H d E ∧ SqN K H a ys ∧ ys.length ≤ 4 ∧ ∀ H' r, Same H H' → H r = none → H' r = some (.lst ((freeN E ys).map V.str)) → Q (.ref r) H'
theorem sc_free : FnScope ["policy", "names", "name", "other"] ["policy", "names"] (defScope s_free_names) := ⟨rfl, rfl, rfl, by decide +kernel, rfl, by decide +kernel, by decide +kernel⟩
theorem ok_free (T : Txt K mg) : Ok P w K mg base (a_free_names K) ["policy", "names"] 1 (spFree K) := by
  refine ok_of T.f_free_names sc_free (fun _ _ _ _ _ _ us hl => match us, hl with | [_, _], _ => rfl) (fun vs H Q E h => ?_) (fun cdv A outer s H vs Q E hr h => ?_)
  · obtain ⟨d, a, E', ys, rfl, _⟩ := h
    rfl
  · obtain ⟨d, a, E', ys, rfl, hd, ha, h4, kk⟩ := h
    refine ⟨_, (pss_one (ps_ret (pe_lc (own := [("name", 2)]) (g := (gName 2)) rfl sc_free.nd (pi_or (pi_listK K (pv 1)) (pi_tupK K (pv 1))) (blkOk_by (own := [("name", 2)]) (N := ["policy", "names", "name", "other"]) (sc := defScope s_free_names) (by decide +kernel)) (fun _ _ _ _ _ => (pg_name (i := 2) sc_free.nd rfl (Or.inr rfl))) (fun _ _ _ _ _ => (pts_one (pt_not (pt_val (pe_callB (cr_anyK K rfl) (by rfl) T.z_any (by decide +kernel) (pa_cons (pe_lc (own := [("other", 3)]) (g := (gName 3)) (tt := tYes) rfl sc_free.nd (pi_or (pi_listK K (pv 1)) (pi_tupK K (pv 1))) (blkOk_by (own := [("other", 3)]) (N := ["policy", "names", "name", "other"]) (sc := ({ kind := PySem.ScopeKind.function, names := [ (PySem.Str.ofString ".0", PySem.NameKind.local), (PySem.Str.ofString "name", PySem.NameKind.cell), (PySem.Str.ofString "any", PySem.NameKind.globalImplicit), (PySem.Str.ofString "names", PySem.NameKind.cell), (PySem.Str.ofString "policy", PySem.NameKind.cell)], isGenerator := false, isCoroutine := false, more := [] : PySem.Scope })) (by decide +kernel)) (fun _ _ _ _ _ => (pg_name (i := 3) sc_free.nd rfl (Or.inl rfl))) (fun _ _ _ _ _ => pts_nil) (fun _ _ _ _ _ => (pe_cmp (pc_din (hu_of hr) (pe_tup (pa_cons (pv 3) (pa_cons (pv 2) pa_nil))) (pv 0)) rfl))) pa_nil)))))) (fun _ _ _ _ _ => (pv 2))))), ?_⟩
    have hm : (ys.map V.str).length = ys.length := List.length_map ..
    rcases ha with ha | ha
    · refine .inl ⟨_, rfl, a, rfl, ⟨_, ha⟩, fun D hD => ?_⟩
      refine lc_it (walk_list (K := K) (a := a) (xs := ys.map V.str)) (fun i H' => Same H H' ∧ H' D = some (.lst (((ys.take i).filter fun y => !(ys.any fun o => bef E' o y)).map V.str))) ⟨same_upd hD, by rw [upd_same, List.take_zero] <;> rfl⟩ (fun i H' _ q => Same.seq q.1 ha) (fun i x H2 H3 hi q yy => ?_) (fun H2 q => ?_)
      · obtain ⟨s2, d2⟩ := q
        obtain ⟨rfl, hx⟩ := yy
        obtain ⟨y, hy, rfl⟩ := strs_at' hx
        refine ⟨rfl, .inl ⟨_, rfl, a, rfl, ⟨_, Same.seq s2 ha⟩, fun D2 hD2 => ?_⟩⟩
        refine lcL_map (K := K) (a := a) (xs := ys.map V.str) (ys.map fun o => V.bl (bef E' o y)) hD2 (Same.seq s2 ha) (by rw [hm]; omega) (by rw [hm, List.length_map]) (fun j x2 v H4 Qe hx2 hv s4 kq => ?_) fun H4 s4 e4 => ?_
        · obtain ⟨o, ho, rfl⟩ := strs_at' hx2
          rw [List.getElem?_map, ho] at hv
          obtain rfl := Option.some.inj hv
          refine ⟨_, rfl, _, rfl, (by show 2 ≤ sizeLine; decide), fun q hq => ?_⟩
          have s5 : Same H4 _ := same_upd (o := .tup [V.str o, V.str y]) hq
          refine ⟨_, rfl, d, _, rfl, (((hd.ext s2).ext s4).ext s5).get upd_same, ?_⟩
          rw [pol_some]
          exact kq _ s5
        · refine ⟨D2, ys.map fun o => bef E' o y, rfl, ?_, _, rfl, ?_⟩
          · rw [List.map_map]
            exact SqL.of e4
          have ea : (ys.map fun o => bef E' o y).any id = ys.any fun o => bef E' o y := by rw [List.any_map] <;> rfl
          rw [ea]
          have et : (ys.take (i + 1)).filter (fun y => !(ys.any fun o => bef E' o y)) = (ys.take i).filter (fun y => !(ys.any fun o => bef E' o y)) ++ if (ys.any fun o => bef E' o y) = true then [] else [y] := by
            rw [List.take_add_one, hy, Option.toList_some, List.filter_append]
            congr 1
            cases hb : ys.any fun o => bef E' o y with
            | true => rw [if_pos rfl, List.filter_cons, hb] <;> rfl
            | false => rw [if_neg (by decide), List.filter_cons, hb] <;> rfl
          have d4 := s4 _ _ d2
          cases hb : ys.any fun o => bef E' o y with
          | true =>
            refine iteF ⟨s2.trans s4, ?_⟩
            rw [et, hb, if_pos rfl, List.append_nil]
            exact d4
          | false =>
            refine iteT ⟨_, rfl, _, d4, small1000 ?_, fun b u e => ?_, ?_⟩
            · rw [List.length_map]
              have f1 := List.length_filter_le (fun y => !(ys.any fun o => bef E' o y)) (ys.take i)
              rw [List.length_take] at f1
              omega
            · rw [upd_ne (ne_of_none e hD)]
              exact s4 _ _ (s2 _ _ e)
            · rw [upd_same, et, hb, if_neg (by decide), List.map_append] <;> rfl
      · obtain ⟨s2, d2⟩ := q
        rw [hm, List.take_length] at d2
        exact kk _ D s2 hD d2
    · refine .inr ⟨_, rfl, a, rfl, ⟨_, ha⟩, fun D hD => ?_⟩
      refine lc_it (walk_tup (K := K) (a := a) (xs := ys.map V.str)) (fun i H' => Same H H' ∧ H' D = some (.lst (((ys.take i).filter fun y => !(ys.any fun o => bef E' o y)).map V.str))) ⟨same_upd hD, by rw [upd_same, List.take_zero] <;> rfl⟩ (fun i H' _ q => Same.tp q.1 ha) (fun i x H2 H3 hi q yy => ?_) (fun H2 q => ?_)
      · obtain ⟨s2, d2⟩ := q
        obtain ⟨rfl, hx⟩ := yy
        obtain ⟨y, hy, rfl⟩ := strs_at' hx
        refine ⟨rfl, .inr ⟨_, rfl, a, rfl, ⟨_, Same.tp s2 ha⟩, fun D2 hD2 => ?_⟩⟩
        refine lcT_map (K := K) (a := a) (xs := ys.map V.str) (ys.map fun o => V.bl (bef E' o y)) hD2 (Same.tp s2 ha) (by rw [hm]; omega) (by rw [hm, List.length_map]) (fun j x2 v H4 Qe hx2 hv s4 kq => ?_) fun H4 s4 e4 => ?_
        · obtain ⟨o, ho, rfl⟩ := strs_at' hx2
          rw [List.getElem?_map, ho] at hv
          obtain rfl := Option.some.inj hv
          refine ⟨_, rfl, _, rfl, (by show 2 ≤ sizeLine; decide), fun q hq => ?_⟩
          have s5 : Same H4 _ := same_upd (o := .tup [V.str o, V.str y]) hq
          refine ⟨_, rfl, d, _, rfl, (((hd.ext s2).ext s4).ext s5).get upd_same, ?_⟩
          rw [pol_some]
          exact kq _ s5
        · refine ⟨D2, ys.map fun o => bef E' o y, rfl, ?_, _, rfl, ?_⟩
          · rw [List.map_map]
            exact SqL.of e4
          have ea : (ys.map fun o => bef E' o y).any id = ys.any fun o => bef E' o y := by rw [List.any_map] <;> rfl
          rw [ea]
          have et : (ys.take (i + 1)).filter (fun y => !(ys.any fun o => bef E' o y)) = (ys.take i).filter (fun y => !(ys.any fun o => bef E' o y)) ++ if (ys.any fun o => bef E' o y) = true then [] else [y] := by
            rw [List.take_add_one, hy, Option.toList_some, List.filter_append]
            congr 1
            cases hb : ys.any fun o => bef E' o y with
            | true => rw [if_pos rfl, List.filter_cons, hb] <;> rfl
            | false => rw [if_neg (by decide), List.filter_cons, hb] <;> rfl
          have d4 := s4 _ _ d2
          cases hb : ys.any fun o => bef E' o y with
          | true =>
            refine iteF ⟨s2.trans s4, ?_⟩
            rw [et, hb, if_pos rfl, List.append_nil]
            exact d4
          | false =>
            refine iteT ⟨_, rfl, _, d4, small1000 ?_, fun b u e => ?_, ?_⟩
            · rw [List.length_map]
              have f1 := List.length_filter_le (fun y => !(ys.any fun o => bef E' o y)) (ys.take i)
              rw [List.length_take] at f1
              omega
            · rw [upd_ne (ne_of_none e hD)]
              exact s4 _ _ (s2 _ _ e)
            · rw [upd_same, et, hb, if_neg (by decide), List.map_append] <;> rfl
      · obtain ⟨s2, d2⟩ := q
        rw [hm, List.take_length] at d2
        exact kk _ D s2 hD d2
end
end OP
namespace OP
open PySem PySem.Spec PyProof.Rows L2
def allowN (E : Ents) : Nat → List Str → List (List Str)
  | 0, _ => [[]]
  | n + 1, ys => if ys = [] then [[]] else (freeN E ys).flatMap fun y => (allowN E n (withoutN ys y)).map (y :: ·)
theorem flat_le {α β : Type} {f : α → List β} {m : Nat} (h : ∀ x, (f x).length ≤ m) : ∀ xs : List α, (xs.flatMap f).length ≤ xs.length * m
  | [] => Nat.zero_le _
  | x :: xs => by
    rw [List.flatMap_cons, List.length_append, List.length_cons, Nat.succ_mul]
    have := flat_le h xs
    have := h x
    omega
theorem free_le (E : Ents) (ys : List Str) : (freeN E ys).length ≤ ys.length := List.length_filter_le _ _
theorem without_le (ys : List Str) (y : Str) : (withoutN ys y).length ≤ ys.length := List.length_filter_le _ _
theorem without_lt {ys : List Str} {y : Str} (h : y ∈ ys) : (withoutN ys y).length < ys.length := by
  unfold withoutN
  refine Nat.lt_of_le_of_ne (List.length_filter_le _ _) fun z => ?_
  have := List.length_filter_eq_length_iff.mp z y h
  simp at this
theorem free_mem {E : Ents} {ys : List Str} {y : Str} (h : y ∈ freeN E ys) : y ∈ ys := (List.mem_filter.mp h).1
theorem allow_le (E : Ents) : ∀ (n : Nat) (ys : List Str), ys.length ≤ 4 → (allowN E n ys).length ≤ 4 ^ n
  | 0, _, _ => Nat.le_refl _
  | n + 1, ys, h => by
    show (if ys = [] then [[]] else (freeN E ys).flatMap fun y => (allowN E n (withoutN ys y)).map (y :: ·)).length ≤ 4 ^ (n + 1)
    split
    · exact Nat.pow_pos (by decide)
    · have h1 := flat_le (f := fun y => (allowN E n (withoutN ys y)).map (y :: ·)) (m := 4 ^ n) (fun y => by
        rw [List.length_map]
        exact allow_le E n _ (Nat.le_trans (without_le ys y) h)) (freeN E ys)
      rw [Nat.pow_succ, Nat.mul_comm]
      exact Nat.le_trans h1 (Nat.mul_le_mul_right _ (Nat.le_trans (free_le E ys) h))
theorem allow_len (E : Ents) : ∀ (n : Nat) (ys : List Str), ys.length ≤ n → ∀ o ∈ allowN E n ys, o.length ≤ n
  | 0, _, _, o, ho => by
    obtain rfl := List.mem_singleton.mp ho
    exact Nat.le_refl _
  | n + 1, ys, h, o, ho => by
    have ho : o ∈ (if ys = [] then [[]] else (freeN E ys).flatMap fun y => (allowN E n (withoutN ys y)).map (y :: ·)) := ho
    split at ho
    · obtain rfl := List.mem_singleton.mp ho
      exact Nat.zero_le _
    · obtain ⟨y, hy, h2⟩ := List.mem_flatMap.mp ho
      obtain ⟨r, hr, rfl⟩ := List.mem_map.mp h2
      have := without_lt (free_mem hy)
      have := allow_len E n (withoutN ys y) (by omega) r hr
      rw [List.length_cons]
      omega
theorem pow4' {i : Nat} (h : i ≤ 4) : 4 ^ i ≤ 256 := by
  have all : ∀ i, i ≤ 4 → 4 ^ i ≤ 256 := by decide
  exact all i h
theorem nts_off {H : Hp} {A : Nts} {D : Addr} {ys : List V} {o : HO} (hd : H D = some (.lst ys)) (h : NtsAt H A) : NtsAt (upd H D o) A := fun p hp => by
  rw [upd_ne (tup_ne (h p hp) hd)]
  exact h p hp
theorem nts_at {Z : Nts} {i : Nat} {x : V} (h : (nrefs Z)[i]? = some x) : ∃ hi : i < Z.length, x = .ref Z[i].1 := by
  have hi : i < Z.length := by
    have z := (List.getElem?_eq_some_iff.mp h).1
    unfold nrefs at z
    rw [List.length_map] at z
    exact z
  unfold nrefs at h
  rw [List.getElem?_map, List.getElem?_eq_getElem hi] at h
  exact ⟨hi, (Option.some.inj h).symm⟩
theorem nrefs_le (Z : Nts) : (nrefs Z).length = Z.length := List.length_map ..
theorem nts_count {Z : Nts} {zs : List (List Str)} (h : Z.map (·.2) = zs) : Z.length = zs.length := by
  rw [← h, List.length_map]
section
variable {P : Program} {w : World} {K : PySem.W.Frag} {mg : Str → Option Value} {base : Heap}
def spWithout (K : PySem.W.Frag) : Sp := fun vs H Q _ => ∃ (a : Addr) (y : Str) (ys : List Str), vs = [.ref a, .str y] ∧ SqT K H a (ys.map V.str) ∧ ys.length ≤ 4 ∧ ∀ H' r, Same H H' → H' r = some (.tup ((withoutN ys y).map V.str)) → Q (.ref r) H'
theorem sc_without : FnScope ["names", "name", "other"] ["names", "name"] (defScope s_without) := ⟨rfl, rfl, rfl, by decide +kernel, rfl, by decide +kernel, by decide +kernel⟩
theorem ok_without (T : Txt K mg) : Ok P w K mg base (a_without K) ["names", "name"] 1 (spWithout K) := by
  refine ok_of T.f_without sc_without (fun _ _ _ _ _ _ us hl => match us, hl with | [_, _], _ => rfl) (fun vs H Q E h => ?_) (fun cdv A outer s H vs Q E hr h => ?_)
  · obtain ⟨a, y, ys, rfl, _⟩ := h
    rfl
  · obtain ⟨a, y, ys, rfl, ha, h4, kk⟩ := h
    refine ⟨_, (pss_one (ps_ret (pe_tupleOf (by rfl) T.z_tuple (pe_lc (own := [("other", 2)]) (g := (gName 2)) rfl sc_without.nd (pi_tup (pv 0)) (blkOk_by (own := [("other", 2)]) (N := ["names", "name", "other"]) (sc := defScope s_without) (by decide +kernel)) (fun _ _ _ _ _ => (pg_name (i := 2) sc_without.nd rfl (Or.inl rfl))) (fun _ _ _ _ _ => (pts_one (pt_cmpR op_ne (pv 2) (pv 1) (nomark _)))) (fun _ _ _ _ _ => (pv 2)))))), ?_⟩
    have hm : (ys.map V.str).length = ys.length := List.length_map ..
    refine ⟨_, rfl, a, rfl, ⟨_, ha⟩, fun D hD => ?_⟩
    refine lc_it (walk_tup (K := K) (a := a) (xs := ys.map V.str)) (fun i H' => Same H H' ∧ H' D = some (.lst ((withoutN (ys.take i) y).map V.str))) ⟨same_upd hD, by rw [upd_same, List.take_zero] <;> rfl⟩ (fun i H' _ q => Same.tp q.1 ha) (fun i x H2 H3 hi q yy => ?_) (fun H2 q => ?_)
    · obtain ⟨s2, d2⟩ := q
      obtain ⟨rfl, hx⟩ := yy
      obtain ⟨o, ho, rfl⟩ := strs_at' hx
      have et : withoutN (ys.take (i + 1)) y = withoutN (ys.take i) y ++ if o = y then [] else [o] := by
        unfold withoutN
        rw [List.take_add_one, ho, Option.toList_some, List.filter_append]
        congr 1
        by_cases hb : o = y
        · rw [if_pos hb, List.filter_cons, decide_eq_true hb] <;> rfl
        · rw [if_neg hb, List.filter_cons, decide_eq_false hb] <;> rfl
      refine ⟨rfl, _, rfl, _, rfl, rfl, _, rfl, ?_⟩
      have de : decide (V.str o = V.str y) = decide (o = y) := decide_eq_decide.mpr ⟨V.str.inj, congrArg V.str⟩
      rw [de]
      by_cases hb : o = y
      · rw [decide_eq_true hb]
        refine iteF ⟨s2, ?_⟩
        rw [et, if_pos hb, List.append_nil]
        exact d2
      · rw [decide_eq_false hb]
        refine iteT ⟨_, rfl, _, d2, small1000 ?_, fun b u e => ?_, ?_⟩
        · rw [List.length_map]
          have f1 := without_le (ys.take i) y
          rw [List.length_take] at f1
          omega
        · rw [upd_ne (ne_of_none e hD)]
          exact s2 _ _ e
        · rw [upd_same, et, if_neg hb, List.map_append] <;> rfl
    · obtain ⟨s2, d2⟩ := q
      rw [hm, List.take_length] at d2
      exact .inl ⟨D, _, rfl, SqL.of d2, fun q hq => kk _ q (s2.push hq) upd_same⟩
def spAllow (K : PySem.W.Frag) (d : Nat) : Sp := fun vs H Q _ => ∃ (dp a : Addr) (E : Ents) (ys : List Str), vs = [.ref dp, .ref a] ∧ PolAt H dp E ∧ SqT K H a (ys.map V.str) ∧ ys.length ≤ d ∧
  ∀ (H' : Hp) (r : Addr) (Z : Nts), Same H H' → H' r = some (.lst (nrefs Z)) → NtsAt H' Z → Z.map (·.2) = allowN E d ys → Q (.ref r) H'
theorem sc_allow : FnScope ["policy", "names", "found", "name", "rest"] ["policy", "names"] (defScope s_allowed_orders) := ⟨rfl, rfl, rfl, by decide +kernel, rfl, by decide +kernel, by decide +kernel⟩
theorem allow_step (T : Txt K mg) (d k : Nat) (hk : 1 ≤ k) (d4 : d ≤ 4) (GO : d ≠ 0 → Ok P w K mg base (a_allowed_orders K) ["policy", "names"] k (spAllow K (d - 1))) : Ok P w K mg base (a_allowed_orders K) ["policy", "names"] (k + 1) (spAllow K d) := by
  have GF : Ok P w K mg base (a_free_names K) _ 1 (spFree K) := ok_free T
  have GW : Ok P w K mg base (a_without K) _ 1 (spWithout K) := ok_without T
  have GR : Ok P w K mg base (a_allowed_orders K) ["policy", "names"] k (fun vs H Q E => d ≠ 0 ∧ spAllow K (d - 1) vs H Q E) := by
    by_cases h0 : d = 0
    · exact (ok_no T.f_allowed_orders (fun _ _ _ _ _ _ us hl => match us, hl with | [_, _], _ => rfl)).imp fun vs H Q E h => (h.1 h0).elim
    · exact (GO h0).imp fun vs H Q E h => h.2
  refine ok_of T.f_allowed_orders sc_allow (fun _ _ _ _ _ _ us hl => match us, hl with | [_, _], _ => rfl) (fun vs H Q E h => ?_) (fun cdv A outer s H vs Q E hr h => ?_)
  · obtain ⟨dp, a, E', ys, rfl, _⟩ := h
    rfl
  · obtain ⟨dp, a, E', ys, rfl, hd, ha, hl, kk⟩ := h
    have hr1 : Room 1 _ := hr.mono (by omega)
    refine ⟨_, (pss_cons (ps_if (pt_not (pt_truth (pv 1) (by intro _; rfl))) (pss_one (ps_ret (pe_lst (pa_cons (pe_tup pa_nil) pa_nil)))) pss_nil)
      (pss_cons (ps_set (i := 2) sc_allow.nd rfl (Or.inl rfl) (pe_lst pa_nil))
      (pss_cons (ps_for PassesOwn.never rfl (pi_list (pe_c GF hr1 T.g_free_names (pa_cons (pv 0) (pa_cons (pv 1) pa_nil)))) (pg_name (i := 3) sc_allow.nd rfl (Or.inr rfl)) (pss_one (ps_aug (i := 2) sc_allow.nd rfl (Or.inl rfl) (pe_lc (own := [("rest", 4)]) (g := (gName 4)) (tt := tYes) rfl sc_allow.nd (pi_list (pe_c GR hr T.g_allowed_orders (pa_cons (pv 0) (pa_cons (pe_c GW hr1 T.g_without (pa_cons (pv 1) (pa_cons (pv 3) pa_nil))) pa_nil)))) (blkOk_by (own := [("rest", 4)]) (N := ["policy", "names", "found", "name", "rest"]) (sc := defScope s_allowed_orders) (by decide +kernel)) (fun _ _ _ _ _ => (pg_name (i := 4) sc_allow.nd rfl (Or.inl rfl))) (fun _ _ _ _ _ => pts_nil) (fun _ _ _ _ _ => (pe_op (op_catAK K) (pe_tup (pa_cons (pv 3) pa_nil)) (pv 4)))) ip_list)))
      (pss_one (ps_ret (pv 2)))))), ?_⟩
    have hm : (ys.map V.str).length = ys.length := List.length_map ..
    refine ⟨_, rfl, _, .inr (.inl ⟨_, ha, rfl⟩), ?_⟩
    by_cases ne : ys = []
    · subst ne
      refine iteT ⟨(by show 0 ≤ sizeLine; exact Nat.zero_le _), fun t ht => ⟨(by show 1 ≤ sizeLine; decide), fun f hf => ?_⟩⟩
      have s1 : Same H _ := same_upd (o := .tup []) ht
      refine kk _ f [(t, [])] (s1.push hf) upd_same (fun p hp => ?_) ?_
      · obtain rfl := List.mem_singleton.mp hp
        show upd _ f _ t = _
        rw [upd_ne (ne_of_none upd_same hf)]
        exact upd_same
      · cases d with
        | zero => rfl
        | succ d => exact (if_pos rfl).symm
    · have d0 : d ≠ 0 := fun z => ne (List.length_eq_zero_iff.mp (by omega))
      obtain ⟨e, rfl⟩ : ∃ e, d = e + 1 := ⟨d - 1, by omega⟩
      have tru : (!(ys.map V.str).isEmpty) = true := by
        cases ys with
        | nil => exact absurd rfl ne
        | cons y ys => rfl
      rw [tru]
      refine iteF ⟨(by show 0 ≤ sizeLine; exact Nat.zero_le _), fun f hf => ?_⟩
      have s1 : Same H _ := same_upd (o := .lst []) hf
      have f1 : upd H f (.lst []) f = some (.lst []) := upd_same
      generalize upd H f (.lst []) = H1 at s1 f1
      refine ⟨_, rfl, _, rfl, dp, a, E', ys, rfl, hd.ext s1, .inr (Same.tp s1 ha), by omega, fun H2 r s2 nr e2 => ?_⟩
      have rf : r ≠ f := fun z => by rw [z, f1] at nr; cases nr
      have s12 := s1.trans s2
      have hm2 : ((freeN E' ys).map V.str).length = (freeN E' ys).length := List.length_map ..
      have nf : ∀ {x u}, H x = some u → x ≠ f := fun {x u} z => ne_of_none z hf
      refine ⟨r, rfl, ⟨_, SqL.of e2⟩, for_list (K := K) (a := r) (xs := (freeN E' ys).map V.str) (fun i σ H' => ∃ (Z : Nts) (v3 : Option V), σ = [some (.ref dp), some (.ref a), some (.ref f), v3, none] ∧ Same H H' ∧ (∀ x u, x ≠ f → H2 x = some u → H' x = some u) ∧ H' f = some (.lst (nrefs Z)) ∧ NtsAt H' Z ∧ Z.map (·.2) = ((freeN E' ys).take i).flatMap fun y => (allowN E' e (withoutN ys y)).map (y :: ·))
        ⟨[], none, rfl, s12, fun _ _ _ z => z, s2 _ _ f1, (fun p hp => absurd hp List.not_mem_nil), rfl⟩ (fun i σ H' _ q => ?_) (fun i x σ H3 hx q => ?_) fun σ H3 q => ?_⟩
      · obtain ⟨_, _, _, _, k3, _⟩ := q
        exact SqL.of (k3 _ _ rf e2)
      · obtain ⟨Z, v3, rfl, s3, k3, f3, N3, e3⟩ := q
        obtain ⟨y, hy, rfl⟩ := strs_at' hx
        have hyf : y ∈ freeN E' ys := List.mem_of_getElem? hy
        have lt := without_lt (free_mem hyf)
        refine ⟨_, rfl, _, rfl, _, rfl, _, rfl, a, y, ys, rfl, Same.tp s3 ha, by omega, fun H4 wa s4 e4 => ?_⟩
        refine ⟨d0, dp, wa, E', withoutN ys y, rfl, (hd.ext s3).ext s4, SqT.of e4, by show _ ≤ e; omega, fun H5 r5 Z5 s5 e5 N5 eZ5 => ?_⟩
        rw [Nat.add_sub_cancel] at eZ5
        have s35 := s3.trans (s4.trans s5)
        have f5 := s5 _ _ (s4 _ _ f3)
        have z5 : Z5.length ≤ 256 := by
          rw [nts_count eZ5]
          exact Nat.le_trans (allow_le E' e _ (by omega)) (pow4' (by omega))
        refine ⟨r5, rfl, ⟨_, SqL.of e5⟩, fun D hD => ?_⟩
        refine lc_it (walk_list (K := K) (a := r5) (xs := nrefs Z5)) (fun j H' => ∃ Z2 : Nts, Same H5 H' ∧ H' D = some (.lst (nrefs Z2)) ∧ NtsAt H' Z2 ∧ Z2.map (·.2) = ((Z5.map (·.2)).take j).map (y :: ·)) ⟨[], same_upd hD, upd_same, (fun p hp => absurd hp List.not_mem_nil), by rw [List.take_zero] <;> rfl⟩ (fun j H' _ q => ?_) (fun j x H6 H7 hj q yy => ?_) (fun H6 q => ?_)
        · obtain ⟨_, s6, _⟩ := q
          exact SqL.of (s6 _ _ e5)
        · obtain ⟨Z2, s6, d6, N6, e6⟩ := q
          obtain ⟨rfl, hx6⟩ := yy
          obtain ⟨hj5, rfl⟩ := nts_at hx6
          have mem : Z5[j] ∈ Z5 := List.getElem_mem hj5
          have t7 : H7 Z5[j].1 = some (.tup (Z5[j].2.map V.str)) := s6 _ _ (N5 _ mem)
          have l4 : Z5[j].2.length ≤ 4 := by
            have z := allow_len E' e (withoutN ys y) (by omega) Z5[j].2 (by rw [← eZ5]; exact List.mem_map.mpr ⟨Z5[j], mem, rfl⟩)
            omega
          have lz2 : Z2.length = j := by
            rw [nts_count e6, List.length_map, List.length_take, List.length_map]
            omega
          have step : ∀ (H8 : Hp) (q : Addr), Same H7 H8 → H8 q = some (.tup ((y :: Z5[j].2).map V.str)) → ∃ acc, H8 D = some (.lst acc) ∧ acc.length < sizeLine ∧ ∃ Z2 : Nts, Same H5 (upd H8 D (.lst (acc ++ [V.ref q]))) ∧ upd H8 D (.lst (acc ++ [V.ref q])) D = some (.lst (nrefs Z2)) ∧ NtsAt (upd H8 D (.lst (acc ++ [V.ref q]))) Z2 ∧ Z2.map (·.2) = ((Z5.map (·.2)).take (j + 1)).map (y :: ·) := fun H8 q s8 hq8 => by
            have e1 := s8 _ _ d6
            refine ⟨_, e1, small1000 (by rw [nrefs_le]; omega), Z2 ++ [(q, y :: Z5[j].2)], fun b u e => ?_, ?_, nts_off e1 ((N6.ext s8).snoc hq8), ?_⟩
            · rw [upd_ne (ne_of_none e hD)]
              exact s8 _ _ (s6 _ _ e)
            · rw [upd_same, nrefs_snoc]
            · have e7 : (Z5.map (·.2)).take (j + 1) = (Z5.map (·.2)).take j ++ [Z5[j].2] := by
                rw [List.take_add_one, List.getElem?_map, List.getElem?_eq_getElem hj5] <;> rfl
              rw [List.map_append, e6, e7, List.map_append] <;> rfl
          refine ⟨rfl, tyes (iteT ⟨_, rfl, (by show 1 ≤ sizeLine; decide), fun t2 ht2 => ⟨_, rfl, ?_⟩⟩)⟩
          have s8 : Same H7 _ := same_upd (o := .tup [V.str y]) ht2
          refine ⟨t2, Z5[j].1, [V.str y], Z5[j].2.map V.str, rfl, rfl, SqT.of upd_same, SqT.of (s8 _ _ t7), ?_, fun z => absurd z (List.cons_ne_nil _ _), fun _ z => ?_, fun _ _ q hq' => ?_⟩
          · rw [List.length_map, List.length_singleton]
            exact Nat.le_trans (show 1 + Z5[j].2.length ≤ 1000 by omega) (by decide)
          · refine step _ t2 s8 ?_
            rw [List.map_cons, z]
            exact upd_same
          · refine step _ q (s8.push hq') ?_
            rw [List.map_cons]
            exact upd_same
        · obtain ⟨Z2, s6, d6, N6, e6⟩ := q
          rw [List.take_of_length_le (by rw [nrefs_le, List.length_map]; exact Nat.le_refl _)] at e6
          have lz2 : Z2.length ≤ 256 := by
            rw [nts_count e6, List.length_map, List.length_map]
            exact z5
          have lz : Z.length ≤ 1024 := by
            rw [nts_count e3]
            have h1 := flat_le (f := fun y => (allowN E' e (withoutN ys y)).map (y :: ·)) (m := 256) (fun y => by
              rw [List.length_map]
              exact Nat.le_trans (allow_le E' e _ (Nat.le_trans (without_le ys y) (by omega))) (pow4' (by omega))) ((freeN E' ys).take i)
            have h2 := free_le E' ys
            rw [List.length_take] at h1
            omega
          have f6 := s6 _ _ f5
          refine ⟨f, D, _, _, rfl, rfl, f6, d6, ?_, ?_⟩
          · rw [nrefs_le, nrefs_le]
            exact Nat.le_trans (show Z.length + Z2.length ≤ 1280 by omega) (by decide)
          have s36 := s35.trans s6
          refine ⟨Z ++ Z2, _, rfl, fun x u z => ?_, fun x u nx z => ?_, ?_, ?_, ?_⟩
          · rw [upd_ne (nf z)]
            exact s6 _ _ (s5 _ _ (s4 _ _ (s3 _ _ z)))
          · rw [upd_ne nx]
            exact s6 _ _ (s5 _ _ (s4 _ _ (k3 x u nx z)))
          · rw [upd_same]
            unfold nrefs
            rw [List.map_append]
          · refine nts_off f6 fun q hq => ?_
            rcases List.mem_append.mp hq with z | z
            · exact s6 _ _ (s5 _ _ (s4 _ _ (N3 q z)))
            · exact N6 q z
          · rw [List.map_append, e3, e6, eZ5, List.take_add_one, hy, Option.toList_some, List.flatMap_append]
            congr 1
            exact (List.append_nil _).symm
      · obtain ⟨Z, v3, rfl, s3, k3, f3, N3, e3⟩ := q
        rw [hm2, List.take_length] at e3
        refine ⟨_, rfl, kk _ f Z s3 f3 N3 ?_⟩
        rw [e3]
        exact (if_neg ne).symm
theorem ok_allow (T : Txt K mg) : Ok P w K mg base (a_allowed_orders K) ["policy", "names"] 6 (spAllow K 4) :=
  allow_step T 4 5 (by decide) (by decide) fun _ => allow_step T 3 4 (by decide) (by decide) fun _ => allow_step T 2 3 (by decide) (by decide) fun _ => allow_step T 1 2 (by decide) (by decide) fun _ => allow_step T 0 1 (by decide) (by decide) fun h => (h rfl).elim
end
end OP
/-! for k, v in d.items(), whatever the keys -/
namespace OP
open PySem PySem.Spec PyProof.Rows L2
/-- what is u, locked as an object: its entries, n of them; G tells the i-th key and value -/
def RawR (P : Program) (w : PySem.World) (d : Addr) (u : HO) (n : Nat) (G : Nat → Hp → V → V → Prop) : Prop := ∀ (X : Cx) (pins : List (Addr × Obj)) (σ : L2.St) (H : Hp) (s : Shared) (o : Obj), X.prog = P → X.w = w → Inv X pins σ H s → H d = some (.frz o u) →
  (d == sysModules) = false ∧ s.heap.get? d = some o ∧ ∃ es ep, o.ExactDict ∧ o.data = .dict es ep ∧ es.size = n ∧ ∀ i (hi : i < es.size), ∃ x y, G i H x y ∧ RelV x es[i].key ∧ RelV y es[i].val
def ItI (d : Addr) (o : Obj) (u : HO) (n : Nat) (G : Nat → Hp → V → V → Prop) : It :=
  ⟨fun i H => H d = some (.frz o u) ∧ i < n, fun i H v H' => ∃ T x y, v = .ref T ∧ H T = none ∧ H' = upd H T (.tup [x, y]) ∧ G i H x y, fun i H => H d = some (.frz o u) ∧ n ≤ i⟩
theorem dict_ep2 {o : Obj} {es es' : Array DictEntry} {ep ep' : Nat} (h : o.data = .dict es ep) (h' : o.data = .dict es' ep') : es = es' ∧ ep = ep' := by
  rw [h] at h'
  injection h' with h1 h2
  exact ⟨h1, h2⟩
theorem turn_itemsR {P : Program} {w : PySem.World} {K : PySem.W.Frag} {elts : List Expr} {kk : Nat} {tpos : Pos} {d : Addr} {o : Obj} {u : HO} {n : Nat} {G : Nat → Hp → V → V → Prop} {es : Array DictEntry} {ep : Nat} (it : Addr) (raw : RawR P w d u n G) (hod : o.data = .dict es ep) :
    Turn P w K (.Tuple elts kk tpos) (ItI d o u n G) [it] it (fun i h => ∃ ok ov, IsItemIter h it d i es.size ep ok ov) where
  mem := by simp
  obj := fun i h st b hb => by
    obtain rfl : b = it := by simpa using hb
    obtain ⟨ok, ov, e⟩ := st
    exact ⟨_, e, fun v z => nomatch z⟩
  keep := fun i h h' st k => by
    obtain ⟨ok, ov, e⟩ := st
    exact ⟨ok, ov, k it (by simp) _ e⟩
  item := by
    intro X hP hw hK hc i pins s σ H E I hf st hg
    subst hP hw hK
    obtain ⟨hd, hi⟩ := hg
    obtain ⟨hs, hgd, es', ep', hx, hdt, hsz, ent⟩ := raw X pins σ H s o rfl rfl I hd
    obtain ⟨rfl, rfl⟩ := dict_ep2 hod hdt
    have hi' : i < es.size := by rw [hsz]; exact hi
    obtain ⟨x, y, g, rx, ry⟩ := ent i hi'
    obtain ⟨ok, ov, he⟩ := st
    have hlt : it < s.heap.objs.size := Heap.lt_size he
    refine wpAny_pyNext_items_item_raw he ⟨o, hgd, hx, hdt⟩ hi' fun h' ho hT hz hk => ?_
    refine ⟨_, rfl, wpAny_letOwnedTupleGo_items (s := { s with heap := h' }) ho fun h'' he' sb => ?_⟩
    have hT2 : h''.get? s.heap.objs.size = some { cls := .type "tuple", data := .seq #[es[i].key, es[i].val] } := (sb.2 _ (Nat.ne_of_gt hlt)).trans hT
    have new : ObjOk X.prog X.w (upd H s.heap.objs.size (.tup [x, y])) h'' s.heap.objs.size (.tup [x, y]) := ⟨by show 2 ≤ sizeLine; decide, [es[i].key, es[i].val], .cons rx (.cons ry .nil), ⟨_, hT2, rfl, _, rfl⟩⟩
    have I1 : Inv X pins σ (upd H s.heap.objs.size (.tup [x, y])) { s with heap := h'' } := I.turnedNew (t' := s.toks) (ch := [it]) (fun b ob hb e => (sb.2 b (by simpa using hb)).trans (hk b ob (by simpa using hb) e)) hf (Nat.le_refl _) new
    refine ⟨.ref s.heap.objs.size, _, I1, rfl, ⟨_, x, y, rfl, I.hok.fresh (Nat.le_refl _), rfl, g⟩, ⟨_, _, he'⟩, fun b hb => ?_⟩
    obtain rfl : b = it := by simpa using hb
    rw [upd_ne (Nat.ne_of_lt hlt)]
    exact (hf b (by simp)).1
  done := by
    intro X hP hw hK hc i pins s σ H E I hf st hg
    subst hP hw hK
    obtain ⟨hd, hi⟩ := hg
    obtain ⟨f0, f1, f2, f3, f4, f5⟩ := hf it (by simp)
    obtain ⟨hs, hgd, es', ep', hx, hdt, hsz, ent⟩ := raw X pins σ H s o rfl rfl I hd
    obtain ⟨rfl, rfl⟩ := dict_ep2 hod hdt
    obtain ⟨ok, ov, he⟩ := st
    exact wpAny_pyNext_items_end_raw (I.ok.hd hc) he ⟨o, hgd, hx, hdt⟩ (by rw [hsz]; exact hi) fun h' eb => ⟨rfl, I.turned (t' := s.toks) (fun b ob hb e => eb b ob hb e) f0 f1 f3 f4 f5⟩
  self := fun A i s Q E st h => by
    obtain ⟨_, _, e⟩ := st
    exact PySem.W.kcp_self e h
def iItemsR (P : Program) (w : PySem.World) (td : TE) : TI := fun σ H R => td σ H fun x H1 => ∃ d o u n G, x = .ref d ∧ H1 d = some (.frz o u) ∧ RawR P w d u n G ∧ R (ItI d o u n G) H1
section
variable {X : Cx} {e : Expr} {td : TE} {apos cpos : Pos}
theorem pi_itemsR {elts : List Expr} {kk : Nat} {tpos : Pos} (he : PE X e td) (hbase : attributeBase e "items" X.env (eval e X.env) = eval e X.env := by rfl) (hline : (apos.endLine == cpos.line) = true := by rfl) :
    PI X (.Tuple elts kk tpos) (.Call (.Attribute e "items" apos) [] [] cpos) (iItemsR X.prog X.w td) := by
  refine ⟨fun pins s σ H R I h => ?_⟩
  refine wpAny_Call_method (T := "dict") (id := "dict.items") hbase rfl hline F.plainAttrs_dict F.slot_dict_items F.type_dict_items (thn (he.run pins s σ H _ I h) fun v s1 ⟨x, H1, I1, rx, d, o, u, n, G, ex, hd, raw, q⟩ => ?_)
  subst ex
  obtain rfl : v = Value.ref d := rx
  obtain ⟨hs, hgd, es, ep, hx, hdt, hsz, ent⟩ := raw X pins σ H1 s1 o rfl rfl I1 hd
  have hm : s1.heap.DictRaw d es ep := ⟨o, hgd, hx, hdt⟩
  have nodict : ∀ b, Value.ref d = .ref b → ∃ ob, s1.heap.get? b = some ob ∧ ob.dict = none := fun b z => by
    cases z
    exact ⟨o, hgd, hx.2.1⟩
  refine ⟨hm.typeIs, nodict, ?_⟩
  have I2 : Inv X pins σ H1 { s1 with heap := s1.heap.push { cls := .type "dict_items", data := .fields #[.ref d] } } := I1.kept (t' := s1.toks) fun b ob z => Heap.get?_push_of_some _ z
  have fin : wpAny (model X.prog X.w) X.A (pyIter (.ref s1.heap.objs.size)) (PIE X pins σ (.Tuple elts kk tpos) R) X.xe { s1 with heap := s1.heap.push { cls := .type "dict_items", data := .fields #[.ref d] } } := by
    refine wpAny_pyIter_items_raw (d := d) ⟨_, Heap.get?_push_size _ rfl, rfl, rfl⟩ (hm.at fun o' z => Heap.get?_push_of_some _ z) (pi_one (tk := s1.toks) I2 _ (turn_itemsR _ raw hdt) ⟨.none, .none, ?_⟩ q)
    exact Heap.get?_push_size _ rfl
  show wpAny _ _ (callWith cpos (.builtin "dict.items") [.ref d] [] []) _ X.xe s1
  exact method_meetsIn F.slot_dict_items F.entry_dict_items rfl (PySem.evalArgs_none ⟨rfl, hm.typeIs, F.args_dict_items_1 _, _, meets_dict_items_raw d hs, ⟨es, ep, hm⟩, fin⟩)
end
theorem walk_itemsR {d : Addr} {o : Obj} {u : HO} {n : Nat} {G : Nat → Hp → V → V → Prop} : Walk (ItI d o u n G) n (fun H => H d = some (.frz o u)) (fun i H v H' => ∃ T x y, v = .ref T ∧ H T = none ∧ H' = upd H T (.tup [x, y]) ∧ G i H x y) :=
  ⟨fun _ _ hi q => ⟨q, hi⟩, fun _ q => ⟨q, Nat.le_refl _⟩, fun _ _ _ _ _ _ y => y⟩
/-- keys that are tuples of ints and texts -/
def GT (kvs : List (List Key × V)) (i : Nat) (H : Hp) (x y : V) : Prop := ∃ (k : List Key) (q : Addr), kvs[i]? = some (k, y) ∧ x = .ref q ∧ H q = some (.tup (k.map kV))
theorem raw_dT {P : Program} {w : PySem.World} {d : Addr} {kvs : List (List Key × V)} : RawR P w d (.dT kvs) kvs.length (GT kvs) := by
  intro X pins σ H s o hP hw I h
  obtain ⟨hd, z, hs, xs, pr, o', es, ep, ho, hx, hdt, he, _⟩ := I.hok d _ h
  rw [hd] at ho
  cases ho
  have l1 : es.size = xs.length := by
    have z := congrArg List.length he
    rw [Array.length_toList, List.length_map] at z
    exact z
  have l2 : kvs.length = xs.length := Paired.length pr
  refine ⟨hs, hd, es, ep, hx, hdt, by omega, fun i hi => ?_⟩
  have hk : i < kvs.length := by omega
  obtain ⟨b, hb, e1, e2, e3⟩ := L2.paired_get pr (List.getElem?_eq_getElem hk)
  have en : es[i] = entryOfKey (tupleKind (mixKind X.prog X.w)) b := by
    have z : es.toList[i]? = some (entryOfKey (tupleKind (mixKind X.prog X.w)) b) := by rw [he, List.getElem?_map, hb] <;> rfl
    rw [Array.getElem?_toList, Array.getElem?_eq_getElem hi] at z
    exact Option.some.inj z
  rw [en]
  exact ⟨.ref b.2.1, kvs[i].2, ⟨kvs[i].1, b.2.1, List.getElem?_eq_getElem hk, rfl, e2⟩, rfl, e3⟩
end OP
namespace OP
open PySem PySem.Spec PyProof.Rows L2
/-- whether what is left runs into a cycle -/
def cyc (E : Ents) : Nat → List Str → Bool
  | 0, _ => false
  | n + 1, ys => if ys = [] then false else if freeN E ys = [] then true else cyc E n (ys.filter fun y => !decide (y ∈ freeN E ys))
structure PolOk (E : Ents) (ns : List Str) : Prop where
  mem : ∀ e ∈ E, e.1 ∈ ns ∧ e.2 ∈ ns ∧ e.1 ≠ e.2
  acyc : cyc E 4 ns = false
  few : E.length ≤ 12
theorem drop_lt {E : Ents} {ys : List Str} (h : freeN E ys ≠ []) : (ys.filter fun y => !decide (y ∈ freeN E ys)).length < ys.length := by
  obtain ⟨y, hy⟩ := List.exists_mem_of_ne_nil _ h
  refine Nat.lt_of_le_of_ne (List.length_filter_le _ _) fun z => ?_
  have := List.length_filter_eq_length_iff.mp z y (free_mem hy)
  simp [hy] at this
theorem pol_len (E : Ents) : (pol E).length = E.length := List.length_map ..
theorem pol_at {E : Ents} {i : Nat} {k : List Key} {v : V} (h : (pol E)[i]? = some (k, v)) : ∃ e, E[i]? = some e ∧ k = [Sum.inr e.1, Sum.inr e.2] ∧ v = .bl true := by
  unfold pol at h
  rw [List.getElem?_map] at h
  obtain ⟨e, he, z⟩ := Option.map_eq_some_iff.mp h
  exact ⟨e, he, (Prod.mk.inj z).1.symm, (Prod.mk.inj z).2.symm⟩
section
variable {P : Program} {w : World} {K : PySem.W.Frag} {mg : Str → Option Value} {base : Heap}
def spPair (K : PySem.W.Frag) : Sp := fun vs H Q _ => ∃ (p q : Addr) (a b : Str) (n : Nat) (S : Sts) (L : Ncs), vs = [.ref p, .ref q] ∧ WorldAt K H p n S L ∧ (names L).Nodup ∧ H q = some (.tup [.str a, .str b]) ∧ a ∈ names L ∧ b ∈ names L ∧ a ≠ b ∧ Q (.bl true) H
theorem sc_pair : FnScope ["world", "pair"] ["world", "pair"] (defScope s_is_pair) := ⟨rfl, rfl, rfl, by decide +kernel, rfl, by decide +kernel, by decide +kernel⟩
theorem ok_pair (T : Txt K mg) : Ok P w K mg base (a_is_pair K) ["world", "pair"] 2 (spPair K) := by
  have GK : Ok P w K mg base (a_is_known K) _ 1 (spKnown K) := ok_is_known T
  refine ok_of T.f_is_pair sc_pair (fun _ _ _ _ _ _ us hl => match us, hl with | [_, _], _ => rfl) (fun vs H Q E h => ?_) (fun cdv A outer s H vs Q E hr h => ?_)
  · obtain ⟨p, q, a, b, n, S, L, rfl, _⟩ := h
    rfl
  · obtain ⟨p, q, a, b, n, S, L, rfl, W, nd, hq, ha, hb, ab, kk⟩ := h
    refine ⟨_, (pss_cons (ps_if (PW.pt (pw_or (pt_not (pt_val (pe_callB call_isi (by rfl) T.z_isinstance (by decide +kernel) (pa_cons (pv 1) (pa_cons (pe_bltn (v := .ty "tuple") (by rfl) T.z_tuple (by decide +kernel) rfl) pa_nil))))) (pw_or1 (pt_cmpR op_ne (pe_callB call_len_seq (by rfl) T.z_len PySem.boot_len (pa_cons (pv 1) pa_nil)) pe_int (nomark _))))) (pss_one (ps_ret pe_bl)) pss_nil)
      (pss_one (ps_ret (pe_and (pe_c GK hr T.g_is_known (pa_cons (pv 0) (pa_cons (pe_ix ix_tup (pv 1) pe_int (fun _ _ => rfl)) pa_nil))) (pe_and (pe_c GK hr T.g_is_known (pa_cons (pv 0) (pa_cons (pe_ix ix_tup (pv 1) pe_int (fun _ _ => rfl)) pa_nil))) (pe_one (pe_cmpR op_ne (pe_ix ix_tup (pv 1) pe_int (fun _ _ => rfl)) (pe_ix ix_tup (pv 1) pe_int (fun _ _ => rfl)) (nomark _)))))))), ?_⟩
    refine ⟨_, rfl, _, _, _, _, true, rfl, .ty "tuple", .base (.tup hq), kit_tup, true, rfl, iteF ?_⟩
    refine ⟨_, rfl, q, _, rfl, .inr (SqT.of hq), rfl, _, rfl, ?_⟩
    rw [decide_eq_true (show V.int (([V.str a, V.str b] : List V).length : Int) = V.int 2 from rfl)]
    refine iteF ⟨_, rfl, _, rfl, q, _, 0, _, rfl, rfl, SqT.of hq, rfl, p, a, n, S, L, rfl, W, nd, ha, true, rfl, iteT ?_⟩
    refine ⟨_, rfl, _, rfl, q, _, 1, _, rfl, rfl, SqT.of hq, rfl, p, b, n, S, L, rfl, W, nd, hb, true, rfl, iteT ?_⟩
    refine ⟨_, rfl, q, _, 0, _, rfl, rfl, SqT.of hq, rfl, _, rfl, q, _, 1, _, rfl, rfl, SqT.of hq, rfl, rfl, ?_⟩
    have e : decide (V.str a = V.str b) = false := decide_eq_false fun z => ab (V.str.inj z)
    show Q (.bl (!decide (V.str a = V.str b))) H
    rw [e]
    exact kk
theorem cyc_nil (E : Ents) (n : Nat) : cyc E n [] = false := by
  cases n with
  | zero => rfl
  | succ n => exact if_pos rfl
theorem cyc_none {E : Ents} {n : Nat} {ys : List Str} (h : ys.length ≤ n) (ne : ys ≠ []) (hf : freeN E ys = []) : cyc E n ys = true := by
  cases n with
  | zero => exact absurd (List.length_eq_zero_iff.mp (by omega)) ne
  | succ n =>
    show (if ys = [] then false else if freeN E ys = [] then true else cyc E n (ys.filter fun y => !decide (y ∈ freeN E ys))) = true
    rw [if_neg ne, if_pos hf]
theorem cyc_step {E : Ents} {n : Nat} {ys : List Str} (h : ys.length ≤ n) (hf : freeN E ys ≠ []) : ∃ m, n = m + 1 ∧ (ys.filter fun y => !decide (y ∈ freeN E ys)).length ≤ m ∧ cyc E n ys = cyc E m (ys.filter fun y => !decide (y ∈ freeN E ys)) := by
  have ne : ys ≠ [] := fun z => hf (by rw [z]; rfl)
  have l := drop_lt hf
  cases n with
  | zero => exact absurd (List.length_eq_zero_iff.mp (by omega)) ne
  | succ n =>
    refine ⟨n, rfl, by omega, ?_⟩
    show (if ys = [] then false else if freeN E ys = [] then true else cyc E n (ys.filter fun y => !decide (y ∈ freeN E ys))) = _
    rw [if_neg ne, if_neg hf]
/-- how long the list in a place is -/
def lenAt (i : Nat) (σ : L2.St) (H : Hp) : Nat := match σ[i]? with
  | some (some (.ref l)) => (match H l with | some (.lst xs) => xs.length | _ => 0)
  | _ => 0
theorem strs_flat (ys : List Str) : (ys.map V.str).all flatV = true := by
  rw [List.all_map]
  exact List.all_eq_true.mpr fun _ _ => rfl
def spCyc (K : PySem.W.Frag) : Sp := fun vs H Q _ => ∃ (d a : Addr) (E : Ents) (ys : List Str), vs = [.ref d, .ref a] ∧ PolAt H d E ∧ H a = some (.lst (ys.map V.str)) ∧ ys.length ≤ 4 ∧ ∀ H', Same H H' → Q (.bl (cyc E 4 ys)) H'
theorem sc_cyc : FnScope ["policy", "names", "left", "free", "name"] ["policy", "names"] (defScope s_has_cycle) := ⟨rfl, rfl, rfl, by decide +kernel, rfl, by decide +kernel, by decide +kernel⟩
theorem ok_cyc (T : Txt K mg) : Ok P w K mg base (a_has_cycle K) ["policy", "names"] 2 (spCyc K) := by
  have GF : Ok P w K mg base (a_free_names K) _ 1 (spFree K) := ok_free T
  refine ok_of T.f_has_cycle sc_cyc (fun _ _ _ _ _ _ us hl => match us, hl with | [_, _], _ => rfl) (fun vs H Q E h => ?_) (fun cdv A outer s H vs Q E hr h => ?_)
  · obtain ⟨d, a, E', ys, rfl, _⟩ := h
    rfl
  · obtain ⟨d, a, E', ys, rfl, hd, ha, h4, kk⟩ := h
    refine ⟨_, (pss_cons (ps_set (i := 2) sc_cyc.nd rfl (Or.inl rfl) (pv 1))
      (pss_cons (ps_while PassesOwn.never (pt_truth (pv 2) (by intro _; rfl)) (pss_cons (ps_set (i := 3) sc_cyc.nd rfl (Or.inr rfl) (pe_c GF hr T.g_free_names (pa_cons (pv 0) (pa_cons (pv 2) pa_nil))))
      (pss_cons (ps_if (pt_not (pt_truth (pv 3) (by intro _; rfl))) (pss_one (ps_ret pe_bl)) pss_nil)
      (pss_one (ps_setLc (i := 2) (own := [("name", 4)]) (g := (gName 4)) rfl sc_cyc.nd rfl rfl (sw_true rfl rfl rfl (by decide +kernel)) (pi_list (pv 2)) (blkOk_by (own := [("name", 4)]) (N := ["policy", "names", "left", "free", "name"]) (sc := defScope s_has_cycle) (by decide +kernel)) (fun _ _ _ _ _ => (pg_name (i := 4) sc_cyc.nd rfl (Or.inl rfl))) (fun _ _ _ _ _ => (pts_one (pt_cmpR (op_notInK K) (pv 4) (pv 3) (by rfl)))) (fun _ _ _ _ _ => (pv 4)))))))
      (pss_one (ps_ret pe_bl)))), ?_⟩
    refine ⟨_, rfl, ?_⟩
    dsimp only [gName]
    show tWhile _ _ _ _ _
    refine while_by (fun σ H' => ∃ (l : Addr) (zs : List Str) (n : Nat) (f g : Option V), σ = [some (.ref d), some (.ref a), some (.ref l), f, g] ∧ Same H H' ∧ H' l = some (.lst (zs.map V.str)) ∧ zs.length ≤ n ∧ zs.length ≤ 4 ∧ cyc E' n zs = cyc E' 4 ys) (lenAt 2) ⟨a, ys, 4, _, _, rfl, Same.refl _, ha, h4, h4, rfl⟩ (fun σ H2 inv => ?_) (fun σ H Q Q' h ⟨x, hx, k, tr, q⟩ => ⟨x, hx, k, tr, h _ _ q⟩)
    obtain ⟨l, zs, n, f, g, rfl, s2, hl, hn, z4, ec⟩ := inv
    refine ⟨_, rfl, _, .inl ⟨_, SqL.of hl, rfl⟩, ?_⟩
    have hm : (zs.map V.str).length = zs.length := List.length_map ..
    by_cases ne : zs = []
    · subst ne
      refine iteF ?_
      rw [cyc_nil] at ec
      refine (?_ : Q _ _)
      rw [ec]
      exact kk _ s2
    · have tru : (!(zs.map V.str).isEmpty) = true := by
        cases zs with
        | nil => exact absurd rfl ne
        | cons y ys => rfl
      rw [tru]
      refine iteT ⟨_, rfl, _, rfl, d, l, E', zs, rfl, hd.ext s2, .inl (SqL.of hl), z4, fun H3 fr s3 _ hf => ?_⟩
      refine ⟨_, rfl, _, .inl ⟨_, SqL.of hf, rfl⟩, ?_⟩
      by_cases nf : freeN E' zs = []
      · rw [nf]
        refine iteT ?_
        have := kk _ (s2.trans s3)
        rw [← ec, cyc_none hn ne nf] at this
        exact this
      · have tf : (!((freeN E' zs).map V.str).isEmpty) = true := by
          cases h : freeN E' zs with
          | nil => exact absurd h nf
          | cons y ys => rfl
        rw [tf]
        refine iteF ?_
        obtain ⟨m, rfl, hm2, ec2⟩ := cyc_step hn nf
        have hl3 := s3 _ _ hl
        refine ⟨_, rfl, l, rfl, ⟨_, SqL.of hl3⟩, fun D hD => ?_⟩
        refine lc_it (walk_list (K := K) (a := l) (xs := zs.map V.str)) (fun i H' => Same H3 H' ∧ H' D = some (.lst (((zs.take i).filter fun y => !decide (y ∈ freeN E' zs)).map V.str))) ⟨same_upd hD, by rw [upd_same, List.take_zero] <;> rfl⟩ (fun i H' _ q => SqL.of (q.1 _ _ hl3)) (fun i x H4 H5 hi q yy => ?_) (fun H4 q => ?_)
        · obtain ⟨s4, d4⟩ := q
          obtain ⟨rfl, hx⟩ := yy
          obtain ⟨y, hy, rfl⟩ := strs_at' hx
          refine ⟨rfl, _, rfl, _, rfl, fr, _, rfl, .inl (SqL.of (s4 _ _ hf)), rfl, strs_flat _, _, rfl, ?_⟩
          rw [inV_strs]
          have et : (zs.take (i + 1)).filter (fun y => !decide (y ∈ freeN E' zs)) = (zs.take i).filter (fun y => !decide (y ∈ freeN E' zs)) ++ if y ∈ freeN E' zs then [] else [y] := by
            rw [List.take_add_one, hy, Option.toList_some, List.filter_append]
            congr 1
            by_cases hb : y ∈ freeN E' zs
            · rw [if_pos hb, List.filter_cons, decide_eq_true hb] <;> rfl
            · rw [if_neg hb, List.filter_cons, decide_eq_false hb] <;> rfl
          by_cases hb : y ∈ freeN E' zs
          · rw [decide_eq_true hb]
            refine iteF ⟨s4, ?_⟩
            rw [et, if_pos hb, List.append_nil]
            exact d4
          · rw [decide_eq_false hb]
            refine iteT ⟨_, rfl, _, d4, small1000 ?_, fun b u e => ?_, ?_⟩
            · rw [List.length_map]
              have f1 := List.length_filter_le (fun y => !decide (y ∈ freeN E' zs)) (zs.take i)
              rw [List.length_take] at f1
              omega
            · rw [upd_ne (ne_of_none e hD)]
              exact s4 _ _ e
            · rw [upd_same, et, if_neg hb, List.map_append] <;> rfl
        · obtain ⟨s4, d4⟩ := q
          rw [hm, List.take_length] at d4
          refine ⟨⟨D, _, m, _, _, rfl, (s2.trans s3).trans s4, d4, hm2, Nat.le_trans (List.length_filter_le _ _) z4, ec2.symm.trans ec⟩, ?_⟩
          show (match H4 D with | some (.lst xs) => xs.length | _ => 0) < (match H2 l with | some (.lst xs) => xs.length | _ => 0)
          rw [d4, hl]
          show (List.map _ _).length < (List.map _ _).length
          rw [List.length_map, List.length_map]
          exact drop_lt nf
end
end OP
namespace OP
open PySem PySem.Spec PyProof.Rows L2
section
variable {K : PySem.W.Frag} {H H' : Hp} {d : Addr} {kv : List (List Key × V)}
theorem OneAt.offT {a : Addr} {o : One} (hd : H d = some (.dT kv)) (e : ∀ b u, b ≠ d → H b = some u → H' b = some u) (h : OneAt K H a o) : OneAt K H' a o := by
  obtain ⟨dx, h⟩ := h
  exact ⟨dx, e _ _ (fun z => by rw [z, hd] at h; cases h) h⟩
theorem ChgAt.offT {a : Addr} {c : Chg} (hd : H d = some (.dT kv)) (e : ∀ b u, b ≠ d → H b = some u → H' b = some u) (h : ChgAt K H a c) : ChgAt K H' a c := by
  cases c with
  | one o => exact OneAt.offT hd e h
  | iff s v o =>
    obtain ⟨dx, b, h1, h2⟩ := h
    exact ⟨dx, b, e _ _ (fun z => by rw [z, hd] at h1; cases h1) h1, OneAt.offT hd e h2⟩
theorem WorldAt.offT {p : Addr} {n : Nat} {S : Sts} {L : Ncs} (hd : H d = some (.dT kv)) (e : ∀ b u, b ≠ d → H b = some u → H' b = some u) (h : WorldAt K H p n S L) : WorldAt K H' p n S L := by
  obtain ⟨⟨dx, l, m, h1, h2, h3⟩, h4, h5⟩ := h
  refine ⟨⟨dx, l, m, e _ _ (fun z => by rw [z, hd] at h1; cases h1) h1, e _ _ (fun z => by rw [z, hd] at h2; cases h2) h2, e _ _ (fun z => by rw [z, hd] at h3; cases h3) h3⟩, fun q hq => ?_, fun q hq => (h5 q hq).offT hd e⟩
  have h := h4 q hq
  exact e _ _ (fun z => by rw [z, hd] at h; cases h) h
/-- locked, walked over, unlocked -/
theorem same_lock {u : HO} {o : Obj} (hd : H d = some u) (s : Same (upd H d (.frz o u)) H') : Same H (upd H' d u) := fun b v h => by
  by_cases z : b = d
  · subst z
    rw [upd_same, ← hd, h]
  · rw [upd_ne z]
    exact s _ _ (by rw [upd_ne z]; exact h)
end
section
variable {P : Program} {w : World} {K : PySem.W.Frag} {mg : Str → Option Value} {base : Heap}
def spCWorld (K : PySem.W.Frag) : Sp := fun vs H Q _ => ∃ (p : Addr) (n : Nat) (S : Sts) (L : Ncs), vs = [.ref p] ∧ WorldAt K H p n S L ∧ Q .non H
theorem sc_cworld : FnScope ["world"] ["world"] (defScope s_check_world) := ⟨rfl, rfl, rfl, by decide +kernel, rfl, by decide +kernel, by decide +kernel⟩
theorem ok_cworld (T : Txt K mg) : Ok P w K mg base (a_check_world K) ["world"] 1 (spCWorld K) := by
  refine ok_of T.f_check_world sc_cworld (fun _ _ _ _ _ _ us hl => match us, hl with | [_], _ => rfl) (fun vs H Q E h => ?_) (fun cdv A outer s H vs Q E hr h => ?_)
  · obtain ⟨p, n, S, L, rfl, _⟩ := h
    rfl
  · obtain ⟨p, n, S, L, rfl, ⟨⟨dx, l, d, hp, hl, hd⟩, _, _⟩, k⟩ := h
    refine ⟨_, (pss_one (ps_if (pt_not (pt_val (pe_callB call_isi (by rfl) T.z_isinstance (by decide +kernel) (pa_cons (pv 0) (pa_cons (pe_glob (v := .ref (c_World K)) (by rfl) T.g_World rfl) pa_nil))))) (pss_one ps_never) pss_nil)), ?_⟩
    exact ⟨_, rfl, _, _, _, _, true, rfl, .own (c_World K), T.o_World.ty hp, kit_World, true, rfl, iteF k⟩
def spCPol (K : PySem.W.Frag) : Sp := fun vs H Q _ => ∃ (p d : Addr) (n : Nat) (S : Sts) (L : Ncs) (E : Ents), vs = [.ref p, .ref d] ∧ WorldAt K H p n S L ∧ (names L).Nodup ∧ L.length ≤ 4 ∧ H d = some (.dT (pol E)) ∧ PolOk E (names L) ∧ ∀ H', Same H H' → Q .non H'
theorem sc_cpol : FnScope ["world", "policy", "pair", "mark"] ["world", "policy"] (defScope s_check_policy) := ⟨rfl, rfl, rfl, by decide +kernel, rfl, by decide +kernel, by decide +kernel⟩
theorem ok_cpol (T : Txt K mg) : Ok P w K mg base (a_check_policy K) ["world", "policy"] 3 (spCPol K) := by
  have GP : Ok P w K mg base (a_is_pair K) _ 2 (spPair K) := ok_pair T
  have GC : Ok P w K mg base (a_has_cycle K) _ 2 (spCyc K) := ok_cyc T
  have GN : Ok P w K mg base (a_World_names K) _ 1 (spNames K) := ok_World_names T
  refine ok_of T.f_check_policy sc_cpol (fun _ _ _ _ _ _ us hl => match us, hl with | [_, _], _ => rfl) (fun vs H Q E h => ?_) (fun cdv A outer s H vs Q E hr h => ?_)
  · obtain ⟨p, d, n, S, L, E', rfl, _⟩ := h
    rfl
  · obtain ⟨p, d, n, S, L, E', rfl, W, nd, h4, hd, ok, kk⟩ := h
    have hr1 : Room 1 _ := hr.mono (by omega)
    refine ⟨_, (pss_cons (ps_if (pt_not (pt_val (pe_callB call_isi (by rfl) T.z_isinstance (by decide +kernel) (pa_cons (pv 1) (pa_cons (pe_bltn (v := .ty "dict") (by rfl) T.z_dict (by decide +kernel) rfl) pa_nil))))) (pss_one ps_never) pss_nil)
      (pss_cons (ps_lock (ps_for PassesOwn.never rfl (pi_itemsR (pv 1)) (pg_tup rfl (pgs_cons (pg_name (i := 2) sc_cpol.nd rfl (Or.inl rfl)) (pgs_cons (pg_name (i := 3) sc_cpol.nd rfl (Or.inl rfl)) pgs_nil))) (pss_one (ps_if (PW.pt (pw_or (pt_not (pt_val (pe_c GP hr T.g_is_pair (pa_cons (pv 0) (pa_cons (pv 2) pa_nil))))) (pw_or1 (pt_cmpR op_notBl (pv 3) pe_bl (nomark _))))) (pss_one ps_never) pss_nil))))
      (pss_one (ps_if (pt_val (pe_c GC hr T.g_has_cycle (pa_cons (pv 1) (pa_cons (pe_pr (pv 0) T.o_World T.p_World_names GN hr) pa_nil)))) (pss_one ps_never) pss_nil)))), ?_⟩
    refine ⟨_, rfl, _, _, _, _, true, rfl, .ty "dict", .base (.dT hd), kit_dict, true, rfl, iteF ?_⟩
    refine ⟨d, _, hd, trivial, fun od => ?_⟩
    have hd1 : (upd H d (.frz od (.dT (pol E')))) d = some (.frz od (.dT (pol E'))) := upd_same
    have W1 : WorldAt K (upd H d (.frz od (.dT (pol E')))) p n S L := W.offT hd fun b u z h => by rw [upd_ne z]; exact h
    refine ⟨_, rfl, d, od, _, _, _, rfl, hd1, raw_dT, ?_⟩
    refine for_it walk_itemsR (fun i σ H' => ∃ f g, σ = [some (.ref p), some (.ref d), f, g] ∧ Same (upd H d (.frz od (.dT (pol E')))) H') ⟨_, _, rfl, Same.refl _⟩ (fun i σ H' _ ⟨f, g, _, s1⟩ => s1 _ _ hd1) (fun i x σ H1 H2 hi inv yy => ?_) (fun σ H1 inv => ?_)
    · obtain ⟨f, g, rfl, s1⟩ := inv
      obtain ⟨t, x, y, rfl, ht, rfl, k, q, hk, rfl, hq⟩ := yy
      obtain ⟨e, he, rfl, rfl⟩ := pol_at hk
      obtain ⟨m1, m2, m3⟩ := ok.mem e (List.mem_of_getElem? he)
      have s2 : Same H1 _ := same_upd (o := .tup [.ref q, .bl true]) ht
      refine ⟨t, _, rfl, SqT.of upd_same, rfl, _, _, rfl, _, _, rfl, rfl, ?_⟩
      refine ⟨_, rfl, _, rfl, p, q, e.1, e.2, n, S, L, rfl, (W1.ext s1).ext s2, nd, s2 _ _ hq, m1, m2, m3, true, rfl, iteF ?_⟩
      refine ⟨_, rfl, true, true, rfl, rfl, _, rfl, iteF ?_⟩
      exact ⟨_, _, rfl, s1.trans s2⟩
    · obtain ⟨f, g, rfl, s1⟩ := inv
      refine ⟨s1 _ _ hd1, ?_⟩
      have s3 := same_lock hd s1
      obtain ⟨⟨dx, l, m, hp, _, _⟩, _, _⟩ := id (W.ext s3)
      refine ⟨_, rfl, _, rfl, p, dx, _, rfl, hp, p, n, S, L, rfl, W.ext s3, fun r H3 s4 e4 => ?_⟩
      refine ⟨d, r, E', names L, rfl, .inl (s4 _ _ upd_same), e4, (by unfold names; rw [List.length_map]; exact h4), fun H4 s5 => ⟨false, congrArg V.bl ok.acyc, iteF ?_⟩⟩
      exact kk _ ((s3.trans s4).trans s5)
theorem lcL_flt {a D : Addr} {ys : List Str} {f : Str → Bool} {j : Nat} {tt : TT} {σ : L2.St} {H1 : Hp} {Qd : Hp → Prop} (hD : H1 D = none) (ha : SqL K H1 a (ys.map V.str)) (hsz : ys.length ≤ 900)
    (hs : ∀ y H (Qt : Bool → Hp → Prop), y ∈ ys → Same H1 H → (∀ H', Same H H' → Qt (f y) H') → tt ((wipe σ [j]).set j (some (.str y))) H Qt)
    (hd : ∀ H, Same H1 H → H D = some (.lst ((ys.filter f).map V.str)) → Qd H)
    (hw : ∀ x, wipe ((wipe σ [j]).set j (some x)) [j] = wipe σ [j] := by intro _; rfl) (hj : ∀ x, ((wipe σ [j]).set j (some x))[j]? = some (some x) := by intro _; rfl) : LcOk (Itl K a) (gName j) tt (tVar j) [j] σ H1 D Qd := by
  have hm : (ys.map V.str).length = ys.length := List.length_map ..
  refine lc_it (walk_list (K := K) (a := a) (xs := ys.map V.str)) (fun i H' => Same H1 H' ∧ H' D = some (.lst (((ys.take i).filter f).map V.str))) ⟨same_upd hD, by rw [upd_same, List.take_zero] <;> rfl⟩ (fun i H' _ q => Same.seq q.1 ha) (fun i x H4 H5 hi q yy => ?_) (fun H4 q => ?_)
  · obtain ⟨s4, d4⟩ := q
    obtain ⟨rfl, hx⟩ := yy
    obtain ⟨y, hy, rfl⟩ := strs_at' hx
    have et : (ys.take (i + 1)).filter f = (ys.take i).filter f ++ if f y = true then [y] else [] := by
      rw [List.take_add_one, hy, Option.toList_some, List.filter_append]
      congr 1
      rw [List.filter_cons]
      cases f y <;> rfl
    refine ⟨hw _, hs y _ _ (List.mem_of_getElem? hy) s4 fun H6 s6 => ?_⟩
    cases hb : f y with
    | false =>
      refine iteF ⟨s4.trans s6, ?_⟩
      rw [et, hb, if_neg (by decide), List.append_nil]
      exact s6 _ _ d4
    | true =>
      refine iteT ⟨_, hj _, _, s6 _ _ d4, small1000 ?_, fun b u e => ?_, ?_⟩
      · rw [List.length_map]
        have f1 := List.length_filter_le f (ys.take i)
        rw [List.length_take] at f1
        omega
      · rw [upd_ne (ne_of_none e hD)]
        exact s6 _ _ (s4 _ _ e)
      · rw [upd_same, et, hb, if_pos rfl, List.map_append] <;> rfl
  · obtain ⟨s4, d4⟩ := q
    rw [hm, List.take_length] at d4
    exact hd _ s4 d4
def spIsSet (K : PySem.W.Frag) : Sp := fun vs H Q _ => ∃ (p a : Addr) (ys : List Str) (n : Nat) (S : Sts) (L : Ncs), vs = [.ref p, .ref a] ∧ WorldAt K H p n S L ∧ (names L).Nodup ∧ L.length ≤ 4 ∧ (∀ y ∈ names L, PyData.strOk y = true) ∧ H a = some (.tup (ys.map V.str)) ∧ ys.Sublist (names L) ∧ ∀ H', Same H H' → Q (.bl true) H'
theorem sc_iset : FnScope ["world", "names", "name"] ["world", "names"] (defScope s_is_set) := ⟨rfl, rfl, rfl, by decide +kernel, rfl, by decide +kernel, by decide +kernel⟩
theorem sub_filter {ys ns : List Str} (h : ys.Sublist ns) (nd : ns.Nodup) : ns.filter (fun y => decide (y ∈ ys)) = ys := by
  induction h with
  | slnil => rfl
  | cons a h ih =>
    obtain ⟨n1, n2⟩ := List.nodup_cons.mp nd
    rw [List.filter_cons, if_neg (by simpa using fun z => n1 (h.subset z)), ih n2]
  | cons_cons a h ih =>
    obtain ⟨n1, n2⟩ := List.nodup_cons.mp nd
    rw [List.filter_cons, if_pos (by simp)]
    congr 1
    refine Eq.trans (List.filter_congr fun y hy => ?_) (ih n2)
    have : y ≠ a := fun z => n1 (z ▸ hy)
    exact decide_eq_decide.mpr ⟨fun z => (List.mem_cons.mp z).resolve_left this, List.mem_cons_of_mem _⟩
theorem ok_iset (T : Txt K mg) : Ok P w K mg base (a_is_set K) ["world", "names"] 3 (spIsSet K) := by
  have GO : Ok P w K mg base (a_is_order K) _ 2 (spIsOrder K) := ok_is_order T
  have GN : Ok P w K mg base (a_World_names K) _ 1 (spNames K) := ok_World_names T
  refine ok_of T.f_is_set sc_iset (fun _ _ _ _ _ _ us hl => match us, hl with | [_, _], _ => rfl) (fun vs H Q E h => ?_) (fun cdv A outer s H vs Q E hr h => ?_)
  · obtain ⟨p, a, ys, n, S, L, rfl, _⟩ := h
    rfl
  · obtain ⟨p, a, ys, n, S, L, rfl, W, nd, h4, so, ha, hsub, kk⟩ := h
    have hr1 : Room 1 _ := hr.mono (by omega)
    have l4 : (names L).length ≤ 4 := by unfold names; rw [List.length_map]; exact h4
    refine ⟨_, (pss_one (ps_ret (pe_and (pe_c GO hr T.g_is_order (pa_cons (pv 0) (pa_cons (pv 1) pa_nil))) (pe_one (pe_cmpR (op_eqD (room64 hr)) (pe_callTy call_list_of (by rfl) T.z_list (by decide +kernel) (pa_cons (pv 1) pa_nil)) (pe_lc (own := [("name", 2)]) (g := (gName 2)) rfl sc_iset.nd (pi_list (pe_pr (pv 0) T.o_World T.p_World_names GN hr)) (blkOk_by (own := [("name", 2)]) (N := ["world", "names", "name"]) (sc := defScope s_is_set) (by decide +kernel)) (fun _ _ _ _ _ => (pg_name (i := 2) sc_iset.nd rfl (Or.inl rfl))) (fun _ _ _ _ _ => (pts_one (pt_cmpR (op_inK K) (pv 2) (pv 1) (by rfl)))) (fun _ _ _ _ _ => (pv 2))) (nomark _)))))), ?_⟩
    refine ⟨_, rfl, _, rfl, p, a, ys, n, S, L, rfl, W, nd, ha, nd.sublist hsub, Nat.le_trans hsub.length_le l4, fun y hy => hsub.subset hy, fun H1 s1 => ⟨true, rfl, iteT ?_⟩⟩
    have s2 : ∀ q, H1 q = none → Same H1 (upd H1 q (.lst (ys.map V.str))) := fun q hq => same_upd hq
    refine ⟨_, rfl, a, _, rfl, .inr (SqT.of (s1 _ _ ha)), fun r hr => ?_⟩
    have W2 := (W.ext s1).ext (s2 r hr)
    obtain ⟨⟨dx, l, m, hp, _, _⟩, _, _⟩ := id W2
    refine ⟨_, rfl, p, dx, _, rfl, hp, p, n, S, L, rfl, W2, fun r2 H3 s3 e3 => ⟨r2, rfl, ⟨_, SqL.of e3⟩, fun D hD => ?_⟩⟩
    have ha3 := s3 _ _ (s2 r hr _ _ (s1 _ _ ha))
    refine lcL_flt (f := fun y => decide (y ∈ ys)) hD (SqL.of e3) (by omega) (fun y H4 Qt hy s4 kq => ?_) (fun H4 s4 e4 => ?_)
    · refine ⟨_, rfl, _, rfl, a, _, rfl, .inr (SqT.of (s4 _ _ ha3)), rfl, strs_flat _, _, rfl, ?_⟩
      rw [inV_strs]
      exact kq _ (Same.refl _)
    · rw [sub_filter hsub nd] at e4
      have so2 : ∀ y ∈ ys, PyData.strOk y = true := fun y hy => so y (hsub.subset hy)
      refine ⟨_, _, .lst (SqL.of (s4 _ _ (s3 _ _ upd_same))) (dp_strs _), .lst (SqL.of e4) (dp_strs _), shp_strs so2, shp_strs so2, ?_⟩
      rw [eqv_shp (shp_strs so2)]
      exact kk _ (((s1.trans (s2 r hr)).trans s3).trans s4)
end
end OP
/-! a generator whose consumer stores into its own frame at L and into a list at D while the generator sleeps -/
namespace OP
open PySem PySem.Spec PyProof.Rows GenW L2
/-- the first n objects -/
def trunc (n : Nat) (s : Shared) : Shared := { s with heap := { s.heap with objs := s.heap.objs.extract 0 n } }
theorem trunc_size {n : Nat} {s : Shared} (h : n ≤ s.heap.objs.size) : (trunc n s).heap.objs.size = n := by
  show (s.heap.objs.extract 0 n).size = n
  rw [Array.size_extract]
  omega
theorem trunc_iff {n b : Nat} {s : Shared} {o : Obj} : (trunc n s).heap.get? b = some o ↔ b < n ∧ s.heap.get? b = some o := by
  rw [Heap.get?_some_iff, Heap.get?_some_iff]
  show (s.heap.objs.extract 0 n)[b]? = some o ∧ _ ↔ _
  rw [Array.getElem?_extract]
  by_cases hb : b < n
  · by_cases hs : b < s.heap.objs.size
    · rw [if_pos (by omega), Nat.zero_add]
      exact ⟨fun h => ⟨hb, h⟩, fun h => h.2⟩
    · have e : s.heap.objs[b]? = none := Array.getElem?_eq_none (by omega)
      rw [if_neg (by omega), e]
      exact ⟨fun h => (by cases h.1), fun h => (by cases h.2.1)⟩
  · rw [if_neg (by omega)]
    exact ⟨fun h => (by cases h.1), fun h => absurd h.1 hb⟩
/-- the same context over another ground -/
def rbG (X : Cx) (Hs : Hp) (b0 : Shared) : Cx := { X with s_0 := b0, H_0 := Hs }
abbrev rb (X : Cx) (Hs : Hp) (s₀ : Shared) : Cx := rbG X Hs (trunc X.s_0.heap.objs.size s₀)
/-- what the consumer does while the generator sleeps -/
structure Woke (P : Program) (w : PySem.World) (L D : Addr) (H : Hp) (s : Shared) (H' : Hp) (s' : Shared) : Prop where
  bare : AllBare s'.gens
  hok : HOk P w H' s'.heap
  keep : ∀ b o, b ≠ L → H b = none → s.heap.get? b = some o → s'.heap.get? b = some o ∧ H' b = none
  loc : ∃ m, s'.heap.Ns L m
  free : H' L = none
  held : ∀ b u, b ≠ D → H b = some u → H' b = some u
  lst : ∃ xs ys, H D = some (.lst xs) ∧ H' D = some (.lst ys)
structure Own2 (X : Cx) (L : Addr) : Prop where
  ex : X.ex = []
  above : X.s_0.heap.objs.size ≤ X.env.locals
  ne : X.env.locals ≠ L
  cells : ∀ x c, X.env.cells.lookup x = some c → X.s_0.heap.objs.size ≤ c ∧ c ≠ L
  bsz : X.base.objs.size ≤ X.s_0.heap.objs.size
  bas : X.base.get? L = none
  pins : ∀ p ∈ X.pn, p.1 ≠ L
  mem : L ∈ X.fs
theorem un_refl {fs : List Addr} {H : Hp} {n : Nat} {s : Shared} : Un fs [] H H (trunc n s).heap s.heap :=
  ⟨fun b o g _ _ _ => (trunc_iff.mp g).2, fun b o g _ _ _ => ⟨o.slots, (trunc_iff.mp g).2⟩, fun b o g n _ => n, fun b o g _ => ⟨o, (trunc_iff.mp g).2⟩, fun _ _ h => h, fun _ _ _ h => h, fun b ps h => ⟨#[], by rw [h]; simp⟩⟩
theorem inv_rebase {X : Cx} {L D : Addr} {ip : List (Addr × Obj)} {s₀ s s' : Shared} {Hs H H' : Hp} {σ : L2.St} (O : Own2 X L) (hb0 : ∀ (b : Nat) o, s₀.heap.get? b = some o → b < X.s_0.heap.objs.size) (I : Inv (rbG X Hs s₀) ip σ H s) (W : Woke X.prog X.w L D H s H' s') : Inv (rb X H' s') ip σ H' s' := by
  obtain ⟨m, hm⟩ := W.loc
  have k := I.ok
  obtain ⟨ml, hn, hl⟩ := I.loc
  have hn' : s'.heap.Ns X.env.locals ml := hn.at' fun o e => (W.keep _ o O.ne I.free e).1
  have sz : X.s_0.heap.objs.size ≤ s'.heap.objs.size := Nat.le_trans O.above (Nat.le_of_lt hn'.lt)
  have tz : (trunc X.s_0.heap.objs.size s').heap.objs.size = X.s_0.heap.objs.size := trunc_size sz
  have kC : ∀ x c v, X.env.cells.lookup x = some c → s.heap.IsCell c v → s'.heap.IsCell c v := fun x c v e h => by
    obtain ⟨o, ho, r⟩ := h
    exact ⟨o, (W.keep c o (O.cells x c e).2 (I.freeC x c e) ho).1, r⟩
  have frm : ∀ b ∈ X.fs, H b = none ∧ b < X.s_0.heap.objs.size ∧ ∃ o, s.heap.get? b = some o := fun b hb => by
    obtain ⟨_, o, ho, _⟩ := k.funs.mem (b := b) hb
    have q : H b = none := I.base.free b o ho (k.frf b hb) (by rw [show (rbG X Hs s₀).ex = [] from O.ex]; simp)
    obtain ⟨o', e⟩ := I.base.there b o ho (by rw [show (rbG X Hs s₀).ex = [] from O.ex]; simp)
    exact ⟨q, hb0 b o ho, o', e⟩
  have fun' : ∀ l : List Env, (∀ b ∈ frs l, b ∈ X.fs) → s.heap.FunFrames X.base l → (trunc X.s_0.heap.objs.size s').heap.FunFrames X.base l := by
    intro l
    induction l with
    | nil => intro _ _; trivial
    | cons env r ih =>
      intro hs ⟨hk, ⟨L', o, hf, hb, ho, hd⟩, hr⟩
      have hL : L' ∈ X.fs := hs L' (by unfold frs; rw [List.filterMap_cons, hf]; exact List.mem_cons_self)
      refine ⟨hk, ?_, ih (fun b hb => hs b (by unfold frs; rw [List.filterMap_cons, hf]; exact List.mem_cons_of_mem _ hb)) hr⟩
      obtain ⟨q1, q2, _⟩ := frm L' hL
      by_cases z : L' = L
      · obtain ⟨o', es, ep, ho', hd', _⟩ := hm
        exact ⟨L', o', hf, hb, trunc_iff.mpr ⟨q2, z ▸ ho'⟩, fun vs z => by rw [hd'] at z; cases z⟩
      · exact ⟨L', o, hf, hb, trunc_iff.mpr ⟨q2, (W.keep L' o z q1 ho).1⟩, hd⟩
  have nL : ∀ b o, X.base.get? b = some o → b ≠ L := fun b o e z => by
    have q := O.bas
    rw [← z, e] at q
    cases q
  refine ⟨⟨k.mod, k.kind, k.glob, k.blt, ?_, k.inj, k.has, fun x c _ e => ?_, k.hd, k.frames, k.stk, k.exf, fun b o e => ?_, ?_, k.noex, k.exfs, ?_, fun b hb => ?_⟩, rfl, W.bare, ?_, ?_, fun x c e => ?_, ?_, fun x c e => ?_, fun p hp => ?_, W.hok, I.len⟩
  · show (trunc X.s_0.heap.objs.size s').heap.objs.size ≤ _
    rw [tz]; exact O.above
  · show (trunc X.s_0.heap.objs.size s').heap.objs.size ≤ _
    rw [tz]; exact (O.cells x c e).1
  · obtain ⟨h1, h2⟩ := I.bs b o e
    obtain ⟨h3, h4⟩ := W.keep b o (nL b o e) h2 h1
    exact ⟨trunc_iff.mpr ⟨Nat.lt_of_lt_of_le (Heap.lt_size e) O.bsz, h3⟩, h4⟩
  · show _ ≤ (trunc X.s_0.heap.objs.size s').heap.objs.size
    rw [tz]; exact O.bsz
  · exact fun' X.outer (fun _ h => h) I.funs
  · obtain ⟨q1, _, o, e⟩ := frm b hb
    by_cases z : b = L
    · rw [z]; exact W.free
    · exact (W.keep b o z q1 e).2
  · show Un X.fs X.ex H' H' (trunc X.s_0.heap.objs.size s').heap s'.heap
    rw [O.ex]
    exact un_refl
  · refine ⟨ml, hn', fun i x v h1 h2 h3 => ?_⟩
    obtain ⟨u, r, lk⟩ := hl i x v h1 h2 h3
    refine ⟨u, r, ?_⟩
    rcases lk with lk | ⟨q, c, e, hc⟩
    · exact .inl lk
    · exact .inr ⟨q, c, e, kC x c _ e hc⟩
  · obtain ⟨v, hv⟩ := I.cell x c e
    exact ⟨v, kC x c v e hv⟩
  · obtain ⟨o, _, _, ho, _⟩ := hn
    exact (W.keep _ o O.ne I.free ho).2
  · obtain ⟨v, o, ho, _⟩ := I.cell x c e
    exact (W.keep c o (O.cells x c e).2 (I.freeC x c e) ho).2
  · obtain ⟨h1, h2, h3, h4, h5⟩ := I.pin p hp
    obtain ⟨w1, w2⟩ := W.keep p.1 p.2 (fun z => h4 (by rw [z]; exact O.mem)) h2 h1
    exact ⟨w1, w2, h3, h4, h5⟩
theorem inv_woken {X : Cx} {L D : Addr} {ip : List (Addr × Obj)} {s₀ s s' : Shared} {Hs H H' : Hp} {σ : L2.St} (O : Own2 X L) (I : Inv (rb X Hs s₀) ip σ H s) (W : Woke X.prog X.w L D H s H' s') : Inv (rb X H' s') ip σ H' s' :=
  inv_rebase O (fun b o h => (trunc_iff.mp h).1) I W
end OP
/-! the body of such a generator -/
namespace OP
open PySem PySem.Spec PyProof.Rows GenW L2
/-- what the consumer knows of the state in which it wakes the generator: what is out, the heap -/
abbrev Con := List V → Hp → Shared → Prop
/-- an item: all that is out with it, the heap when woken, the heap now -/
abbrev Itm := List V → Hp → Hp → Prop
def GY2 (X : Cx) (L D : Addr) (C : Con) (It : Itm) : Protocol := fun n s₀ v s kap =>
  ∃ ys x ip Hs σ H, n + 1 + ys.length = sizeLine ∧ RelV x v ∧ Inv (rb X Hs s₀) ip σ H s ∧ C ys Hs s₀ ∧ It (ys ++ [x]) Hs H ∧ ∀ H' s', Woke X.prog X.w L D H s H' s' → C (ys ++ [x]) H' s' → kap (.send .none) s'
def GR2 (X : Cx) (L : Addr) (C : Con) (Q : Itm) : GenEnd := fun n s₀ r s => match r with
  | .ok (.ret u) => ∃ ys ip Hs σ H, n + ys.length = sizeLine ∧ Inv (rb X Hs s₀) ip σ H s ∧ C ys Hs s₀ ∧ u = .none ∧ Q ys Hs H
  | _ => False
structure GE where
  nx : List V → Hp → L2.St → Hp → Prop
  rt : List V → Hp → VK
  bk : List V → Hp → L2.St → Hp → Prop := fun _ _ _ _ => False
  ct : List V → Hp → L2.St → Hp → Prop := fun _ _ _ _ => False
abbrev TG2 := GE → List V → Hp → L2.St → Hp → Prop
def GE.at (D : GE) (ys : List V) (Hs : Hp) : Ends := { nx := D.nx ys Hs, rt := D.rt ys Hs, bk := D.bk ys Hs, ct := D.ct ys Hs }
def GSP2 (X : Cx) (ip : List (Addr × Obj)) (s₀ : Shared) (Hs : Hp) (D : GE) (ys : List V) (f : Flow) (s : Shared) : Prop :=
  match f with
  | .next => ∃ σ H, Inv (rb X Hs s₀) ip σ H s ∧ D.nx ys Hs σ H
  | .brk => ∃ σ H, Inv (rb X Hs s₀) ip σ H s ∧ D.bk ys Hs σ H
  | .cont => ∃ σ H, Inv (rb X Hs s₀) ip σ H s ∧ D.ct ys Hs σ H
  | .ret u => ∃ v σ H, Inv (rb X Hs s₀) ip σ H s ∧ RelV v u ∧ D.rt ys Hs v H
structure GC2 (X : Cx) (L : Addr) (A : Around) (c : Code) (fs : List Frame) (gd : Bool → Bool) : Prop where
  own : Own2 X L
  nox : ∀ e s, ¬ X.xe e s
  over : A.over c fs = X.A
  split : splitAtGen fs = none
  guard : fs.any Frame.guarded = false
  gd : gd false = false
def GK2 (X : Cx) (L Dl : Addr) (C : Con) (It : Itm) (ip : List (Addr × Obj)) (A : Around) (R : GenEnd) (c : Code) (fs : List Frame) (K : Flow → Sem PySem.Fin) (D : GE) : Prop :=
  ∀ (n : Nat) (ys : List V) (Hs : Hp) (s₀ s : Shared) (f : Flow), n + ys.length = sizeLine → C ys Hs s₀ → GSP2 X ip s₀ Hs D ys f s → Seg (model X.prog X.w) A R (GY2 X L Dl C It) n s₀ c (K f) fs s
structure GS2 (X : Cx) (L Dl : Addr) (C : Con) (It : Itm) (st : Stmt) (t : TG2) : Prop where
  run : ∀ (A : Around) (ip : List (Addr × Obj)) (R : GenEnd) (n : Nat) (ys : List V) (Hs : Hp) (s₀ : Shared) (c : Code) (fs : List Frame) (K : Flow → Sem PySem.Fin) (J : Value → Sem PySem.Fin) (gd : Bool → Bool) (lv : List Value → List Value) (s : Shared) (σ : L2.St) (H : Hp) (D : GE),
    GC2 X L A c fs gd → n + ys.length = sizeLine → GK2 X L Dl C It ip A R c fs K D → Inv (rb X Hs s₀) ip σ H s → C ys Hs s₀ → t D ys Hs σ H →
    Seg (model X.prog X.w) A R (GY2 X L Dl C It) n s₀ c ((exec st X.env).wrap K J gd lv) fs s
structure GSs2 (X : Cx) (L Dl : Addr) (C : Con) (It : Itm) (st : List Stmt) (t : TG2) : Prop where
  run : ∀ (A : Around) (ip : List (Addr × Obj)) (R : GenEnd) (n : Nat) (ys : List V) (Hs : Hp) (s₀ : Shared) (c : Code) (fs : List Frame) (K : Flow → Sem PySem.Fin) (J : Value → Sem PySem.Fin) (gd : Bool → Bool) (lv : List Value → List Value) (s : Shared) (σ : L2.St) (H : Hp) (D : GE),
    GC2 X L A c fs gd → n + ys.length = sizeLine → GK2 X L Dl C It ip A R c fs K D → Inv (rb X Hs s₀) ip σ H s → C ys Hs s₀ → t D ys Hs σ H →
    Seg (model X.prog X.w) A R (GY2 X L Dl C It) n s₀ c ((execs st X.env).wrap K J gd lv) fs s
section
variable {X : Cx} {L Dl : Addr} {C : Con} {It : Itm} {st : Stmt} {rest : List Stmt}
def tP2 (t : TS) : TG2 := fun D ys Hs σ H => t (D.at ys Hs) σ H
theorem sp_gsp2 {ip : List (Addr × Obj)} {s₀ s : Shared} {Hs : Hp} {D : GE} {ys : List V} {f : Flow} (h : SP (rb X Hs s₀) ip (D.at ys Hs) f s) : GSP2 X ip s₀ Hs D ys f s := by
  cases f with
  | next => obtain ⟨σ, H, I, q⟩ := h; exact ⟨σ, H, I, q⟩
  | brk => obtain ⟨σ, H, I, q⟩ := h; exact ⟨σ, H, I, q⟩
  | cont => obtain ⟨σ, H, I, q⟩ := h; exact ⟨σ, H, I, q⟩
  | ret u => obtain ⟨v, σ, H, I, r1, q⟩ := h; exact ⟨v, σ, H, I, r1, q⟩
theorem g2_ps {t : TS} (h : ∀ Hs s₀, PS (rb X Hs s₀) st t) : GS2 X L Dl C It st (tP2 t) := by
  refine ⟨fun A ip R n ys Hs s₀ c fs K J gd lv s σ H D g hn k hI hC ht => ?_⟩
  refine seg_wrap ?_
  rw [g.over]
  exact wpAny_mono ((h Hs s₀).run _ s σ H (D.at ys Hs) hI ht) (fun f s' hs => k n ys Hs s₀ s' f hn hC (sp_gsp2 hs)) fun x s' hx => (g.nox _ _ hx).elim
def t02 : TG2 := fun D ys Hs σ H => D.nx ys Hs σ H
theorem g2_nil : GSs2 X L Dl C It [] t02 := by
  refine ⟨fun A ip R n ys Hs s₀ c fs K J gd lv s σ H D g hn k hI hC ht => ?_⟩
  exact seg_execs_nil (k n ys Hs s₀ s .next hn hC ⟨σ, H, hI, ht⟩)
def tThen2 (t u : TG2) : TG2 := fun D ys Hs σ H => t { D with nx := fun ys' Hs' σ' H' => u D ys' Hs' σ' H' } ys Hs σ H
theorem g2_cons {t u : TG2} (a : GS2 X L Dl C It st t) (b : GSs2 X L Dl C It rest u) : GSs2 X L Dl C It (st :: rest) (tThen2 t u) := by
  refine ⟨fun A ip R n ys Hs s₀ c fs K J gd lv s σ H D g hn k hI hC ht => ?_⟩
  refine seg_execs_cons ?_
  refine a.run A ip R n ys Hs s₀ c fs _ J gd lv s σ H { D with nx := fun ys' Hs' σ' H' => u D ys' Hs' σ' H' } g hn (fun n' ys' Hs' s₀' s' f hn' hC' hs => ?_) hI hC ht
  cases f with
  | next =>
    obtain ⟨σ', H', I', q⟩ := hs
    exact b.run A ip R n' ys' Hs' s₀' c fs K J gd lv s' σ' H' D g hn' k I' hC' q
  | brk => exact k n' ys' Hs' s₀' s' .brk hn' hC' hs
  | cont => exact k n' ys' Hs' s₀' s' .cont hn' hC' hs
  | ret u => exact k n' ys' Hs' s₀' s' (.ret u) hn' hC' hs
/-! ### yield -/
structure HWoke (D : Addr) (H H' : Hp) : Prop where
  held : ∀ b u, b ≠ D → H b = some u → H' b = some u
  lst : ∃ xs ys, H D = some (.lst xs) ∧ H' D = some (.lst ys)
def tY2 (Dl : Addr) (It : Itm) (te : TE) : TG2 := fun D ys Hs σ H => ys.length < sizeLine ∧ te σ H fun x H1 => It (ys ++ [x]) Hs H1 ∧ ∀ H', HWoke Dl H1 H' → D.nx (ys ++ [x]) H' σ H'
theorem g2_yield {e : Expr} {yp pos : Pos} {te : TE} (he : ∀ Hs s₀, PE (rb X Hs s₀) e te) (hco : X.env.scope.isCoroutine = false := by rfl) (hi : interactive X.env = false := by rfl) : GS2 X L Dl C It (.Expr (.Yield (some e) yp) pos) (tY2 Dl It te) := by
  refine ⟨fun A ip R n ys Hs s₀ c fs K J gd lv s σ H D g hn k hI hC ht => ?_⟩
  obtain ⟨hlt, ht⟩ := ht
  obtain ⟨n, rfl⟩ : ∃ m, n = m + 1 := ⟨n - 1, by omega⟩
  refine seg_Expr_Yield g.split g.gd g.guard ?_ hco hi
  rw [g.over]
  refine wpAny_mono ((he Hs s₀).run _ s σ H _ hI ht) (fun v s' hv => ?_) fun x s' hx => (g.nox _ _ hx).elim
  obtain ⟨x, H1, I1, rv, q1, q⟩ := hv
  have G1 : Inv (rb X Hs s₀) ip σ H1 s' := I1
  intro kap hk
  refine ⟨ys, x, ip, Hs, σ, H1, hn, rv, G1, hC, q1, fun H' s'' W hC' => hk .none s'' ?_⟩
  refine k n (ys ++ [x]) H' s'' s'' .next ?_ hC' ⟨σ, H', inv_woken g.own G1 W, q H' ⟨W.held, W.lst⟩⟩
  rw [List.length_append, List.length_singleton]; omega
/-! ### while -/
theorem gc2_loop {A : Around} {c c' : Code} {fs : List Frame} {gd : Bool → Bool} {k : Result → Sem PySem.Fin} {l kp : List Value} {p : Pos} (g : GC2 X L A c fs gd) (hw : c'.weight = 0) (hu : c'.cUnits = 0) :
    GC2 X L A c' (.ret k none (gd false) l c p kp :: fs) id where
  own := g.own
  nox := g.nox
  over := (over_loop hw hu).trans g.over
  split := by
    show (splitAtGen fs).map _ = none
    rw [g.split]; rfl
  guard := by
    show (gd false || fs.any Frame.guarded) = false
    rw [g.gd, g.guard]; rfl
  gd := rfl
def tWhile2 (c : TT) (tb : TG2) : TG2 := fun D ys Hs σ H => ∃ W : Nat → List V → Hp → L2.St → Hp → Prop, (∃ m, W m ys Hs σ H) ∧ ∀ m ys Hs σ H, W m ys Hs σ H →
  c σ H fun b H1 => if b = true then ∃ N : List V → Hp → L2.St → Hp → Prop, (∀ ys' Hs' σ' H', N ys' Hs' σ' H' → ∃ m', m' < m ∧ W m' ys' Hs' σ' H') ∧ tb { D with nx := N, ct := N, bk := D.nx } ys Hs σ H1 else D.nx ys Hs σ H1
theorem g2_while {test : Expr} {body : List Stmt} {pos : Pos} {tc : TT} {tb : TG2} (hc : ∀ Hs s₀, PT (rb X Hs s₀) test tc) (hb : GSs2 X L Dl C It body tb) : GS2 X L Dl C It (.While test body [] pos) (tWhile2 tc tb) := by
  refine ⟨fun A ip R n ys Hs s₀ c fs K J gd lv s σ H D g hn k hI hC ht => ?_⟩
  obtain ⟨W, ⟨m0, w0⟩, turn⟩ := ht
  refine seg_While fun p => ?_
  have gl := fun (kk : Result → Sem PySem.Fin) => gc2_loop (k := kk) (c' := .whileLoop test body [] X.env) (l := lv []) (kp := []) (p := p) g rfl rfl
  have loop : ∀ (m n : Nat) (ys : List V) (Hs : Hp) (s₀ s : Shared) (σ : L2.St) (H : Hp), n + ys.length = sizeLine → W m ys Hs σ H → Inv (rb X Hs s₀) ip σ H s → C ys Hs s₀ →
      Seg (model X.prog X.w) A R (GY2 X L Dl C It) n s₀ (.whileLoop test body [] X.env) ((model X.prog X.w).den (.whileLoop test body [] X.env))
        (.ret (fun r => ((match r with | .ok f => (.pure f : Sem Flow) | .error e => .raise e).onRaise (cameBack X.env)).wrap K J gd lv) none (gd false) (lv []) c p [] :: fs) s := by
    intro m
    induction m using Nat.strongRecOn with
    | ind m ih =>
      intro n ys Hs s₀ s σ H hn w hI hC
      refine seg_whileLoop ?_
      rw [(gl _).over]
      refine wpAny_mono ((hc Hs s₀).run _ s σ H _ hI (turn m ys Hs σ H w)) (fun b s' hb' => ?_) fun x s' hx => (g.nox _ _ hx).elim
      obtain ⟨H2, I2, q2⟩ := hb'
      cases b with
      | true =>
        obtain ⟨N, hN, q2⟩ := q2
        rw [if_pos rfl]
        refine hb.run A ip R n ys Hs s₀ _ _ _ _ id id s' σ H2 { D with nx := N, ct := N, bk := D.nx } (gl _) hn (fun n' ys' Hs' s₀' s3 f hn' hC' hs => ?_) I2 hC q2
        cases f with
        | next =>
          obtain ⟨σ3, H3, I3, n3⟩ := hs
          obtain ⟨m', hm, w3⟩ := hN ys' Hs' σ3 H3 n3
          exact seg_again rfl (ih m' hm n' ys' Hs' s₀' s3 σ3 H3 hn' w3 I3 hC')
        | cont =>
          obtain ⟨σ3, H3, I3, n3⟩ := hs
          obtain ⟨m', hm, w3⟩ := hN ys' Hs' σ3 H3 n3
          exact seg_again rfl (ih m' hm n' ys' Hs' s₀' s3 σ3 H3 hn' w3 I3 hC')
        | brk => exact seg_leaf (.ok .next) (k n' ys' Hs' s₀' s3 .next hn' hC' hs)
        | ret v => exact seg_leaf (.ok (.ret v)) (k n' ys' Hs' s₀' s3 (.ret v) hn' hC' hs)
      | false =>
        rw [if_neg Bool.false_ne_true]
        refine seg_execs_nil ?_
        exact seg_leaf (.ok .next) (k n ys Hs s₀ s' .next hn hC ⟨σ, H2, I2, q2⟩)
  exact loop m0 n ys Hs s₀ s σ H hn w0 hI hC
/-! ### for -/
def tFor2 (wi : TI) (g : TG) (tb : TG2) : TG2 := fun D ys Hs σ H => wi σ H fun J H1 => ∃ W : Nat → Nat → List V → Hp → L2.St → Hp → Prop, (∃ m, W 0 m ys Hs σ H1) ∧ ∀ i m ys Hs σ H, W i m ys Hs σ H →
  (J.stop i H ∧ D.nx ys Hs σ H) ∨ (J.go i H ∧ ∃ N : List V → Hp → L2.St → Hp → Prop, (∀ ys' Hs' σ' H', N ys' Hs' σ' H' → ∃ m', m' < m ∧ W (i + 1) m' ys' Hs' σ' H') ∧
    ∀ x H', J.yld i H x H' → g x σ H' fun σ2 H2 => tb { D with nx := N, ct := N, bk := D.nx } ys Hs σ2 H2)
theorem g2_for {tg iter : Expr} {body : List Stmt} {pos : Pos} {wi : TI} {g : TG} {tb : TG2} (hc : X.calm = true) (hi : ∀ Hs s₀, PI (rb X Hs s₀) tg iter wi) (hg : ∀ Hs s₀, PG (rb X Hs s₀) tg g) (hb : GSs2 X L Dl C It body tb)
    (hlen : ∀ ys Hs s₀, C ys Hs s₀ → X.s_0.heap.objs.size ≤ s₀.heap.objs.size) (hs : ∀ x, foldedSetIterable iter X.env x = pure x := by intro _; rfl) : GS2 X L Dl C It (.For tg iter body [] pos) (tFor2 wi g tb) := by
  refine ⟨fun A ip R n ys Hs s₀ c fs K J gd lv s σ H D gc hn k hI hC ht => ?_⟩
  rw [exec_For]
  refine seg_bind_wrap (wpAny_standAt ?_)
  refine seg_bind_wrap ?_
  rw [gc.over]
  refine wpAny_mono ((hi Hs s₀).run _ s σ H _ hI ht) (fun v s1 h1 => ?_) fun x s' hx => (gc.nox _ _ hx).elim
  refine seg_bind_wrap (wpAny_of_eq (hs v) ?_)
  refine seg_bind_wrap (wpAny_standAt ?_)
  refine seg_bind_wrap (wpAny_holding ?_)
  rw [gc.over]
  refine wpAny_mono h1 (fun itv s2 h2 => ?_) fun x s' hx => (gc.nox _ _ hx).elim
  obtain ⟨it, fp, tn, Jt, H2, rfl, I2, T, st2, f2, W, ⟨m0, w0⟩, turn⟩ := h2
  show Seg _ _ _ _ n s₀ c ((runOwn (.forLoop tg (.ref it) body [] X.env) X.env).wrap K J gd lv) fs s2
  refine seg_call fun p => ?_
  have stat : ∀ {H' : Hp} (Hs' : Hp) (s₀' : Shared), (∀ b ∈ fp, H' b = none) → ∀ b ∈ fp, FpOk (rb X Hs' s₀') ip H' b := fun {H'} Hs' s₀' hz b hb => by
    obtain ⟨_, q1, q2, q3, q4, q5⟩ := f2 b hb
    refine ⟨hz b hb, q1, q2, q3.imp id fun z => ?_, q4, q5⟩
    have z : (s₀.heap.objs.extract 0 X.s_0.heap.objs.size).size ≤ b := z
    show (s₀'.heap.objs.extract 0 X.s_0.heap.objs.size).size ≤ b
    rw [Array.size_extract] at z ⊢
    have le : X.s_0.heap.objs.size ≤ s₀.heap.objs.size := hlen ys Hs s₀ hC
    refine Nat.le_trans ?_ z
    omega
  have gl := fun (kk : Result → Sem PySem.Fin) => gc2_loop (k := kk) (c' := .forLoop tg (.ref it) body [] X.env) (l := lv []) (kp := []) (p := p) gc rfl rfl
  have loop : ∀ (m n i : Nat) (ys : List V) (Hs : Hp) (s₀ s : Shared) (σ : L2.St) (H : Hp), n + ys.length = sizeLine → W i m ys Hs σ H → Inv (rb X Hs s₀) ip σ H s → C ys Hs s₀ → tn i s.heap → (∀ b ∈ fp, H b = none) →
      Seg (model X.prog X.w) A R (GY2 X L Dl C It) n s₀ (.forLoop tg (.ref it) body [] X.env) ((model X.prog X.w).den (.forLoop tg (.ref it) body [] X.env))
        (.ret (fun r => ((match r with | .ok f => (.pure f : Sem Flow) | .error e => .raise e).onRaise (cameBack X.env)).wrap K J gd lv) none (gd false) (lv []) c p [] :: fs) s := by
    intro m
    induction m using Nat.strongRecOn with
    | ind m ih =>
      intro n i ys Hs s₀ s σ H hn w hI hC hst hfr
      show Seg _ A R _ n s₀ _ ((forTurn tg (.ref it) body [] X.env).onRaise (fun x => do noteFrame x X.env; theTreesLotGoes x)) _ s
      rw [Sem.onRaise_eq_wrap]
      unfold forTurn
      refine seg_bind_wrap (wpAny_standAt ?_)
      refine seg_bind_wrap (wpAny_onRaise ?_)
      rw [(gl _).over]
      have I := hI
      rcases turn i m ys Hs σ H w with ⟨stop, qn⟩ | ⟨go, N, hN, step⟩
      · refine wpAny_mono (T.done (rb X Hs s₀) rfl rfl rfl hc i _ s σ H X.xe I (stat Hs s₀ hfr) hst stop) (fun r4 s4 h4 => ?_) fun x s' hx => (gc.nox _ _ hx).elim
        obtain ⟨rfl, I4⟩ := h4
        refine seg_again rfl ?_
        show Seg _ A R _ n s₀ _ (leafOf (.ok .next)) _ s4
        exact seg_leaf (.ok .next) (k n ys Hs s₀ s4 .next hn hC ⟨σ, H, I4, qn⟩)
      · refine wpAny_mono (T.item (rb X Hs s₀) rfl rfl rfl hc i _ s σ H X.xe I (stat Hs s₀ hfr) hst go) (fun r4 s4 h4 => ?_) fun x s' hx => (gc.nox _ _ hx).elim
        obtain ⟨u, rfl, h4⟩ := h4
        refine seg_bind_wrap ?_
        rw [(gl _).over]
        refine wpAny_mono h4 (fun _ s5 h5 => ?_) fun x s' hx => (gc.nox _ _ hx).elim
        obtain ⟨x, H5, I5, r5, y5, st5, fr5⟩ := h5
        have I5' := I5.pinned (stat Hs s₀ fr5) (T.obj _ _ st5)
        refine seg_bind_wrap ?_
        rw [(gl _).over]
        refine wpAny_mono ((hg Hs s₀).run _ s5 σ H5 x u _ I5' r5 (step x H5 y5)) (fun _ s6 h6 => ?_) fun x s' hx => (gc.nox _ _ hx).elim
        obtain ⟨σ6, H6, I6, q6⟩ := h6
        rw [Sem.bind_eq_wrap', Sem.wrap_wrap]
        refine hb.run A (ip ++ pinsAt fp s5.heap) R n ys Hs s₀ _ _ _ _ _ _ s6 σ6 H6 { D with nx := N, ct := N, bk := D.nx } ⟨gc.own, gc.nox, (gl _).over, (gl _).split, (gl _).guard, rfl⟩ hn
          (fun n' ys' Hs' s₀' s7 f hn' hC' hs7 => ?_) I6 hC q6
        have unp : ∀ {σ7 : L2.St} {H7 : Hp}, Inv (rb X Hs' s₀') (ip ++ pinsAt fp s5.heap) σ7 H7 s7 → Inv (rb X Hs' s₀') ip σ7 H7 s7 ∧ tn (i + 1) s7.heap ∧ ∀ b ∈ fp, H7 b = none := fun {σ7 H7} I7 => by
          refine ⟨I7.pins_of fun q hq => I7.pin q (List.mem_append_right _ (List.mem_append_left _ hq)), ?_, ?_⟩
          · exact T.keep _ _ _ st5 fun b hb o e => (I7.pin (b, o) (List.mem_append_right _ (List.mem_append_right _ (mem_pinsAt hb e)))).1
          · intro b hb
            obtain ⟨o, e, d⟩ := T.obj _ _ st5 b hb
            exact (I7.pin (b, o) (List.mem_append_right _ (List.mem_append_right _ (mem_pinsAt hb e)))).2.1
        cases f with
        | next =>
          obtain ⟨σ7, H7, I7, n7⟩ := hs7
          obtain ⟨m', hm, w7⟩ := hN ys' Hs' σ7 H7 n7
          obtain ⟨I7', t7, f7⟩ := unp I7
          exact seg_again rfl (ih m' hm n' (i + 1) ys' Hs' s₀' s7 σ7 H7 hn' w7 I7' hC' t7 f7)
        | cont =>
          obtain ⟨σ7, H7, I7, n7⟩ := hs7
          obtain ⟨m', hm, w7⟩ := hN ys' Hs' σ7 H7 n7
          obtain ⟨I7', t7, f7⟩ := unp I7
          exact seg_again rfl (ih m' hm n' (i + 1) ys' Hs' s₀' s7 σ7 H7 hn' w7 I7' hC' t7 f7)
        | brk =>
          obtain ⟨σ7, H7, I7, n7⟩ := hs7
          exact seg_leaf (.ok .next) (k n' ys' Hs' s₀' s7 .next hn' hC' ⟨σ7, H7, (unp I7).1, n7⟩)
        | ret v =>
          obtain ⟨z, σ7, H7, I7, rz, n7⟩ := hs7
          exact seg_leaf (.ok (.ret v)) (k n' ys' Hs' s₀' s7 (.ret v) hn' hC' ⟨z, σ7, H7, (unp I7).1, rz, n7⟩)
  exact loop m0 n 0 ys Hs s₀ s2 σ H2 hn w0 I2 hC st2 fun b hb => (f2 b hb).1
end
end OP
/-! the call of such a generator def -/
namespace OP
open PySem PySem.Spec PyProof.Rows GenW L2
/-- from the state in which it was woken to where it hands over -/
structure Out (P : Program) (w : PySem.World) (outer : List Env) (n0 : Nat) (Hs : Hp) (s₀ : Shared) (H1 : Hp) (s1 : Shared) : Prop where
  os : s1.os = s₀.os
  bare : AllBare s1.gens
  un : Un (frs outer) [] Hs H1 (trunc n0 s₀).heap s1.heap
  hok : HOk P w H1 s1.heap
def YItem2 (P : Program) (w : PySem.World) (outer : List Env) (n0 : Nat) (a : Addr) (g : Nat) (L D : Addr) (C : Con) (It : Itm) : Protocol := fun n s₀ v s1 kap =>
  ∃ ys x Hs H1, n + 1 + ys.length = sizeLine ∧ RelV x v ∧ C ys Hs s₀ ∧ Out P w outer n0 Hs s₀ H1 s1 ∧ s1.heap.NoLimit ∧ s1.heap.IsGen a g ∧ It (ys ++ [x]) Hs H1 ∧ ∀ H' s', Woke P w L D H1 s1 H' s' → C (ys ++ [x]) H' s' → kap (.send .none) s'
def REnd2 (P : Program) (w : PySem.World) (outer : List Env) (n0 : Nat) (C : Con) (Q : Itm) : GenEnd := fun n s₀ r s1 =>
  ((r = .ok (.ret .none) ∨ r = .ok .next) ∧ ∃ ys Hs H1, C ys Hs s₀ ∧ Out P w outer n0 Hs s₀ H1 s1 ∧ Q ys Hs H1) ∨ ∃ e, r = .error e ∧ False
abbrev SpG2 := List V → Hp → Addr → Itm → Itm → Prop
def GMade2 (P : Program) (w : PySem.World) (k : Nat) (outer : List Env) (H : Hp) (s : Shared) (L D : Addr) (It Q : Itm) (u : Value) (s' : Shared) : Prop :=
  ∃ (a : Addr) (g : Nat) (c : Code), u = .ref a ∧ s.heap.objs.size ≤ a ∧ a < s'.heap.objs.size ∧ s'.heap.IsGen a g ∧ s'.gens[g]? = some (.fresh c) ∧ s'.os = s.os ∧ AllBare s'.gens ∧ s'.heap.NoLimit ∧ (∀ b o, s.heap.get? b = some o → s'.heap.get? b = some o) ∧
    ∀ (C : Con) (A : Around) (s2 : Shared), Room k A → A.frames = some outer → (∀ b o, s'.heap.get? b = some o → s2.heap.get? b = some o) → s2.os = s.os → AllBare s2.gens → (∀ ys Hs s₀, C ys Hs s₀ → s.heap.objs.size ≤ s₀.heap.objs.size) → C [] H s2 →
      Seg (model P w) A (REnd2 P w outer s.heap.objs.size C Q) (YItem2 P w outer s.heap.objs.size a g L D C It) sizeLine s2 c ((model P w).den c) [] s2
structure GFn2 (P : Program) (w : PySem.World) (K : PySem.W.Frag) (mg : Str → Option Value) (base : Heap) (k : Nat) (f : Addr) (fd : FuncData) (ps : List Str) (sp : SpG2) : Prop where
  len : ∀ vs H D It Q, sp vs H D It Q → vs.length = ps.length
  run : ∀ (A : Around) (outer : List Env) (s : Shared) (H : Hp) (args : Args) (us : List Value) (vs : List V) (L D : Addr) (It Q : Itm), Room k A → Env0 P w K mg base A outer s H → L ∈ frs outer → (∃ m, s.heap.Ns L m) → (∃ xs, H D = some (.lst xs)) → BindsTo s fd args (ps.zip us) → Vals vs us → sp vs H D It Q →
    codeAny (model P w) A (.call (.ref f) args) (fun r s' => match r with | .ok (.ret u) => GMade2 P w k outer H s L D It Q u s' | _ => False) s
def gcx2 (P : Program) (w : PySem.World) (K : PySem.W.Frag) (mg : Str → Option Value) (base : Heap) (N : List Str) (qual : Str) (scope : Scope) (f : Addr) (cd : Value) (A : Around) (outer : List Env) (s : Shared) (H : Hp) (pn : List (Addr × Obj)) : Cx :=
  { cxOf CX0 P w K mg base N qual scope f cd A outer s H E0 with pn := pn, xe := fun _ _ => False }
theorem gfn2_of {P : Program} {w : PySem.World} {K : PySem.W.Frag} {mg : Str → Option Value} {base : Heap} {k : Nat} {f : Addr} {name qual : Str} {params : Arguments} {body : List Stmt} {scope : Scope} {dV kV doc pm cdv ct oc : Value} {an od : Option Addr}
    {osl : Array (Option Value)} {N ps : List Str} {sp : SpG2} (lk : K.lookup f = some ⟨oc, od, .func (PySem.W.fnOf name qual params body scope dV kV doc pm an cdv ct), osl⟩) (hcd : PySem.W.codeIn K cdv qual = true) (S : GScope N ps scope)
    (len : ∀ vs H D It Q, sp vs H D It Q → vs.length = ps.length)
    (hbody : ∀ (A : Around) (outer : List Env) (s : Shared) (H : Hp) (vs : List V) (L D : Addr) (C : Con) (It Q : Itm) (pn : List (Addr × Obj)), Room k (A.deeper (envOfC qual scope s.heap.objs.size f cdv)) → (∀ ys Hs s₀, C ys Hs s₀ → s.heap.objs.size ≤ s₀.heap.objs.size) → sp vs H D It Q →
      ∃ t, GSs2 (gcx2 P w K mg base N qual scope f cdv A outer s H pn) L D C It body t ∧ t { nx := fun ys Hs _ H' => Q ys Hs H', rt := fun ys Hs v H' => v = .non ∧ Q ys Hs H' } [] H (start N vs) H) :
    GFn2 P w K mg base (k + 1) f (PySem.W.fnOf name qual params body scope dV kV doc pm an cdv ct) ps sp := by
  refine ⟨len, fun A outer s H args us vs L D It Q hr e0 hLf hLn hDl hb r hsp => ?_⟩
  have hl := len _ _ _ _ _ hsp
  have KX : K.In s.heap := e0.mod.kin.keeps fun b o e => (e0.bs b o e).1
  have lim : s.heap.NoLimit := e0.mod.nolimit.keeps fun b o e => (e0.bs b o e).1
  have hkind : ∀ y ∈ ps.zip us, scope.names.lookup y.1 = some .local ∨ (scope.names.lookup y.1 = some .cell ∧ ((cellsFrom (s.heap.objs.size + 1) scope.names []).lookup y.1).isSome = true) := fun ⟨n, v⟩ hy => by
    rcases S.par n (List.of_mem_zip hy).1 with q | q
    · exact .inl q
    · exact .inr ⟨q, PySem.W.cellsFrom_some _ _ _ (.inl q)⟩
  refine codeAny_call_generator hr.depth (KX _ _ lk) rfl S.co S.gen rfl (PySem.W.codeRec_of KX hcd) (hb _ _ _ _ ?_)
  refine wpAny_newFunctionEnv_cells S.kind hkind fun env he s1 x => ?_
  subst he
  have lim1 : s1.heap.NoLimit := lim.keeps x.toInCall.keep
  refine ⟨lim1, ?_⟩
  obtain ⟨h1, tk, es1, hk1⟩ := x.done
  have os1 : s1.os = s.os := by rw [es1]
  have gen1 : s1.gens = s.gens := by rw [es1]
  have lt1 : s.heap.objs.size < s1.heap.objs.size := x.toInCall.ns.lt
  have sz1 : s.heap.objs.size ≤ s1.heap.objs.size := Nat.le_of_lt lt1
  have kp1 : ∀ b o, s.heap.get? b = some o → s1.heap.get? b = some o := x.toInCall.keep
  have main : ∀ (go : Obj) (nm qn : Value) (tk2 : Nat), go.cls = .type "generator" → go.data = .fields #[.int s1.gens.size 0, nm, qn] → go.slots = #[] → (∀ h : Heap, (h.push go).get? h.objs.size = some go) →
      GMade2 P w (k + 1) outer H s L D It Q (.ref s1.heap.objs.size) { s1 with gens := s1.gens.push (.fresh (.func body (envOfC qual scope s.heap.objs.size f cdv))), toks := tk2, heap := s1.heap.push go } := by
    intro go nm qn tk2 hgc hgd0 hgs hgp
    have hgen : ∀ h : Heap, h.get? s1.heap.objs.size = some go → h.IsGen s1.heap.objs.size s1.gens.size := fun h e => ⟨go, nm, qn, e, hgc, hgd0, hgs⟩
    have hpushed : (s1.heap.push go).get? s1.heap.objs.size = some go := hgp _
    refine ⟨s1.heap.objs.size, s1.gens.size, _, rfl, sz1, ?_, hgen _ hpushed, Array.getElem?_push_size .., os1, ?_, lim1.keeps fun b o e => Heap.get?_push_of_some _ e, fun b o e => Heap.get?_push_of_some _ (kp1 b o e), ?_⟩
    · show _ < (s1.heap.push _).objs.size
      rw [Heap.size_push]; exact Nat.lt_succ_self _
    · exact AllBare.push (by rw [gen1]; exact e0.bare) rfl
    intro C Aw s2 hrw hfr hk2 hos hba hlen hC0
    have e0w : Env0 P w K mg base Aw outer s H := ⟨hfr, e0.mod, e0.bs, e0.bsz, e0.funs, e0.frf, e0.hok, e0.bare⟩
    obtain ⟨t, ht, hq⟩ := hbody Aw outer s H vs L D C It Q [(s1.heap.objs.size, go)] (hrw.deeper _) hlen hsp
    have I1 : Inv (gcxOf P w K mg base N qual scope f cdv Aw outer s H E0 []) [] (start N vs) H s1 := inv_startG S hrw.hd e0w hl r x
    have kp2 : ∀ b o, s1.heap.get? b = some o → s2.heap.get? b = some o := fun b o e => hk2 b o (Heap.get?_push_of_some _ e)
    have I2 : Inv (gcxOf P w K mg base N qual scope f cdv Aw outer s H E0 []) [] (start N vs) H s2 :=
      I1.call' (ch := []) (hos.trans os1.symm) (Un.kept kp2) (I1.hok.kept kp2) hba fun b z => by simp at z
    have hea : s2.heap.get? s1.heap.objs.size = some go := hk2 s1.heap.objs.size go hpushed
    have hgd : ∀ v, go.data ≠ .cell v := fun v q => by rw [hgd0] at q; cases q
    have young : ∀ b, s1.heap.objs.size ≤ b → H b = none ∧ b ≠ s.heap.objs.size ∧ b ∉ frs outer := fun b hb =>
      ⟨I1.hok.fresh hb, Nat.ne_of_gt (Nat.lt_of_lt_of_le lt1 hb), I1.nofs hb⟩
    have J : Inv (gcx2 P w K mg base N qual scope f cdv Aw outer s H [(s1.heap.objs.size, go)]) [] (start N vs) H s2 :=
      ⟨⟨I2.ok.mod, I2.ok.kind, I2.ok.glob, I2.ok.blt, I2.ok.above, I2.ok.inj, I2.ok.has, I2.ok.cab, I2.ok.hd, I2.ok.frames, I2.ok.stk, I2.ok.exf, I2.ok.bs, I2.ok.bsz, I2.ok.noex, I2.ok.exfs, I2.ok.funs, I2.ok.frf⟩, I2.os, I2.bare, I2.base, I2.loc, I2.cell, I2.free, I2.freeC, (fun p hp => by
        rcases List.mem_append.mp hp with z | z
        · obtain rfl : p = (s1.heap.objs.size, go) := List.mem_singleton.mp z
          obtain ⟨y1, y2, y3⟩ := young s1.heap.objs.size (Nat.le_refl _)
          exact ⟨hea, y1, y2, y3, hgd⟩
        · exact absurd z (by simp)), I2.hok, I2.len⟩
    obtain ⟨mL, hmL⟩ := hLn
    have ltL : L < s.heap.objs.size := hmL.lt
    have O : Own2 (gcx2 P w K mg base N qual scope f cdv Aw outer s H [(s1.heap.objs.size, go)]) L := by
      refine ⟨rfl, Nat.le_refl _, Nat.ne_of_gt ltL, fun y c e => ?_, e0.bsz, ?_, ?_, hLf⟩
      · have q : s.heap.objs.size ≤ c := Nat.le_of_lt (x.above y c (PySem.mem_of_lookup e))
        exact ⟨q, Nat.ne_of_gt (Nat.lt_of_lt_of_le ltL q)⟩
      · exact (e0.funs.mem hLf).1
      · intro p hp
        obtain rfl : p = (s1.heap.objs.size, go) := List.mem_singleton.mp hp
        exact Nat.ne_of_gt (Nat.lt_of_lt_of_le ltL sz1)
    obtain ⟨xs, hDx⟩ := hDl
    have W0 : Woke P w L D H s2 H s2 := ⟨hba, I2.hok, fun b o _ n e => ⟨e, n⟩, ⟨mL, hmL.at' fun o e => kp2 _ o (kp1 _ o e)⟩, e0.frf L hLf, fun b u _ h => h, xs, xs, hDx, hDx⟩
    have J2 : Inv (rb (gcx2 P w K mg base N qual scope f cdv Aw outer s H [(s1.heap.objs.size, go)]) H s2) [] (start N vs) H s2 := inv_rebase (Hs := H) (s₀ := s) O (fun b o h => Heap.lt_size h) J W0
    have out : ∀ {ip : List (Addr × Obj)} {Hs H' : Hp} {s₀ s' : Shared} {σ' : L2.St}, Inv (rb (gcx2 P w K mg base N qual scope f cdv Aw outer s H [(s1.heap.objs.size, go)]) Hs s₀) ip σ' H' s' → Out P w outer s.heap.objs.size Hs s₀ H' s' := fun I => ⟨I.os, I.bare, I.base, I.hok⟩
    refine seg_func ?_
    refine seg_imp (R := GR2 (gcx2 P w K mg base N qual scope f cdv Aw outer s H [(s1.heap.objs.size, go)]) L C Q)
      (Y := GY2 (gcx2 P w K mg base N qual scope f cdv Aw outer s H [(s1.heap.objs.size, go)]) L D C It) (fun n s₀ r s1' hR => ?_) (fun n s₀ v s1' kap kap' hkk hY => ?_) sizeLine ?_
    · cases r with
      | error e => exact hR.elim
      | ok fl =>
        cases fl with
        | next => exact hR.elim
        | brk => exact hR.elim
        | cont => exact hR.elim
        | ret u =>
          obtain ⟨ys, ip, Hs, σ', H', hn, hI, hC, eu, hQ⟩ := hR
          subst eu
          exact .inl ⟨.inl rfl, ys, Hs, H', hC, out hI, hQ⟩
    · obtain ⟨ys, xx, ip, Hs, σ', H', hn, rv, hI, hC, hIt, h3⟩ := hY
      exact ⟨ys, xx, Hs, H', hn, rv, hC, out hI, hI.nolimit, hgen _ (hI.pin (s1.heap.objs.size, go) (List.mem_append_left _ (List.mem_singleton.mpr rfl))).1, hIt, fun H'' s'' W hC'' => hkk _ _ (h3 H'' s'' W hC'')⟩
    · refine ht.run Aw [] _ sizeLine [] H s2 _ [] _ _ id id s2 (start N vs) H _ ⟨O, fun _ _ h => h, over_func, rfl, rfl, rfl⟩ (Nat.add_zero _) (fun n ys Hs s₀ s' fl hn hC hs => ?_) J2 hC0 hq
      cases fl with
      | next =>
        obtain ⟨σ', H', hI, hQ⟩ := hs
        exact seg_end (.ok (.ret .none)) ⟨ys, [], Hs, σ', H', hn, hI, hC, rfl, hQ⟩
      | brk => obtain ⟨_, _, _, q⟩ := hs; exact False.elim q
      | cont => obtain ⟨_, _, _, q⟩ := hs; exact False.elim q
      | ret u =>
        obtain ⟨v, σ', H', hI, rv, ev, hQ⟩ := hs
        subst ev
        have eu : u = Value.none := rv
        subst eu
        exact seg_end (.ok (.ret .none)) ⟨ys, [], Hs, σ', H', hn, hI, hC, rfl, hQ⟩
  exact main _ _ _ _ rfl rfl rfl fun h => Heap.get?_push_size _ rfl
end OP
/-! the consumer of such a generator -/
namespace OP
open PySem PySem.Spec PyProof.Rows GenW L2
/-- an item is handed over: where the consumer stands then -/
theorem inv_out {X : Cx} {pins : List (Addr × Obj)} {σ : L2.St} {Hs H1 : Hp} {s₀ s1 : Shared} {n0 : Nat} (I : Inv X pins σ Hs s₀) (O : Out X.prog X.w X.stack n0 Hs s₀ H1 s1) (sm : Same Hs H1) (h0 : X.s_0.heap.objs.size ≤ n0) (hl : X.env.locals < n0)
    (hc : ∀ x c, X.env.cells.lookup x = some c → c < n0) (hp : ∀ p ∈ X.pn ++ pins, p.1 < n0) : Inv X pins σ H1 s1 := by
  have inn : ∀ (b : Nat) (o : Obj), s₀.heap.get? b = some o → Hs b = none → b ∉ (List.range s₀.heap.objs.size).filter (fun b => decide (n0 ≤ b) && (Hs b).isNone) → b < n0 := fun b o e n hx => by
    refine Nat.lt_of_not_le fun le => hx (List.mem_filter.mpr ⟨List.mem_range.mpr (Heap.lt_size e), ?_⟩)
    rw [n, decide_eq_true le] <;> rfl
  refine I.call' (ch := (List.range s₀.heap.objs.size).filter fun b => decide (n0 ≤ b) && (Hs b).isNone) O.os ⟨fun b o e n hb hx => ?_, fun b o e n hb hx => ?_, fun b o e n hx => ?_, fun b o e hx => ?_, fun b xs h => sm _ _ h, fun b o u h => sm _ _ h, fun b ps h => ⟨#[], by rw [sm _ _ h]; simp⟩⟩ O.hok O.bare fun b hb => ?_
  · exact O.un.keep b o (trunc_iff.mpr ⟨inn b o e n hx, e⟩) n hb (by simp)
  · exact O.un.slot b o (trunc_iff.mpr ⟨inn b o e n hx, e⟩) n hb (by simp)
  · exact O.un.free b o (trunc_iff.mpr ⟨inn b o e n hx, e⟩) n (by simp)
  · cases n : Hs b with
    | none => exact O.un.there b o (trunc_iff.mpr ⟨inn b o e n hx, e⟩) (by simp)
    | some u => exact objOk_get (O.hok b u (sm _ _ n))
  · obtain ⟨_, q⟩ := List.mem_filter.mp hb
    have le : n0 ≤ b := of_decide_eq_true (Bool.and_eq_true_iff.mp q).1
    exact ⟨.inr (Nat.le_trans h0 le), Nat.ne_of_gt (Nat.lt_of_lt_of_le hl le), fun x c e => Nat.ne_of_lt (Nat.lt_of_lt_of_le (hc x c e) le), fun p hp' => Nat.ne_of_lt (Nat.lt_of_lt_of_le (hp p hp') le)⟩
section
variable {X : Cx} {k : Nat} {f C : Addr} {fd : FuncData} {ps : List Str} {sp : SpG2} {m : Str} {p pos pos' apos : Pos} {o : Expr} {ta : TE}
/-- o.m() of such a generator method: what it wants -/
def tMethG2 (C : Addr) (m : Str) (sp : SpG2) (ta : TE) (D : Addr) (It Q : Itm) : L2.St → Hp → (Hp → Prop) → Prop := fun σ H R => ta σ H fun x H1 => ∃ a dx fs, x = .ref a ∧ H1 a = some (.ins C dx fs) ∧ fs.lookup m = none ∧ (∃ xs, H1 D = some (.lst xs)) ∧ sp [x] H1 D It Q ∧ R H1
theorem gen2_meth0 {pl : Sem Bool} (he : PE X o ta) (c : Cls X.K C) (hm : Meth X.K C m f) (F : GFn2 X.prog X.w X.K X.mg X.base k f fd ps sp) (hr : Room k X.A) (hb : Binds X.K fd ps []) (hst : X.stack = X.env :: X.outer) (hfm : X.env.frame = some X.env.locals)
    {pins : List (Addr × Obj)} {s : Shared} {σ : L2.St} {H : Hp} {D : Addr} {It Q : Itm} {R : Hp → Prop} (I : Inv X pins σ H s) (h : tMethG2 C m sp ta D It Q σ H R)
    (ht : eval (.Call (.Attribute o m apos) [] [] pos') X.env = (do
      let ov ← eval o X.env
      standAt apos.atName
      let (f, first) ← holding [ov] (getMethod ov m pl)
      callWith pos' f first (backTo pos' (starEach [] X.env)) (backToKw pos' (keywordEach [] X.env))) := by rfl) :
    wpAny (model X.prog X.w) X.A (eval (.Call (.Attribute o m apos) [] [] pos') X.env) (fun u s' => ∃ H1 sc, Inv X pins σ H1 sc ∧ R H1 ∧ (∃ xs, H1 D = some (.lst xs)) ∧ GMade2 X.prog X.w k X.stack H1 sc X.env.locals D It Q u s') X.xe s := by
  refine PySem.W.methodCall_KW (pl := pl) (thn (he.run pins s σ H _ I h) fun u s1 ⟨x, H1, I1, rx, a, dx, fs, ex, ea, l, hD, q, r⟩ => ?_) ht
  subst ex
  obtain rfl : u = Value.ref a := rx
  refine getmeth_ok I1 ea c hm l ?_
  refine PySem.W.callWith_K0 (first := [.ref a]) I1.kIn hm.kp ?_
  have rv : Vals [V.ref a] [Value.ref a] := .cons rfl .nil
  have hl2 : [Value.ref a].length = ps.length := F.len _ _ _ _ _ q
  have hLf : X.env.locals ∈ frs X.stack := by
    rw [hst]
    unfold frs
    rw [List.filterMap_cons, hfm]
    exact List.mem_cons_self
  obtain ⟨mm, hn, _⟩ := id I1.loc
  refine wpAny_call (codeAny_mono (F.run X.A X.stack s1 H1 ⟨[.ref a], []⟩ [.ref a] [.ref a] X.env.locals D It Q hr I1.env0 hLf ⟨mm, hn⟩ hD (hb s1 [.ref a] I1.kIn hl2) rv q) fun r' s' hq => ?_)
  cases r' with
  | error e => exact False.elim hq
  | ok fl =>
    cases fl with
    | ret u => exact ⟨H1, s1, I1, r, hD, hq⟩
    | next => exact False.elim hq
    | brk => exact False.elim hq
    | cont => exact False.elim hq
end
end OP
/-! the consumer's body: L.append((A, T)); no generator is touched -/
namespace OP
open PySem PySem.Spec PyProof.Rows GenW L2
section
variable {X : Cx} {pins : List (Addr × Obj)} {σ : L2.St} {H : Hp} {s : Shared}
theorem ev_name {i : Nat} {x : Str} {pos : Pos} {v : V} {Q : Value → Shared → Prop} {E : Value → Shared → Prop} (I : Inv X pins σ H s) (e : σ[i]? = some (some v)) (h : ∀ u, RelV v u → Q u s) (hN : X.N[i]? = some x := by rfl)
    (hv : Vis X.env.scope x := by first | exact Or.inl rfl | exact Or.inr (Or.inl rfl) | exact Or.inr (Or.inr rfl)) (hd : (x == ("__debug__" : Str)) = false := by decide) (hcd : (x == ("__classdict__" : Str)) = false := by decide) :
    wpAny (model X.prog X.w) X.A (eval (.Name x pos) X.env) Q E s := by
  obtain ⟨m, hn, hl⟩ := I.loc
  obtain ⟨u, r, l⟩ := hl i x v hN e hv
  rcases l with ⟨hk, hm⟩ | ⟨hk, c, hc, hcell⟩
  · exact wpAny_Name (wpAny_loadName_local I.ok.kind hk hn hm (h u r)) hd
  · rcases hk with hk | hk
    · exact wpAny_Name (wpAny_loadName_cell I.ok.kind hk hc hcell (h u r)) hd
    · exact wpAny_Name (wpAny_loadName_free I.ok.kind hk hc hcell (h u r) hcd) hd
theorem body_app {iL iA iT k : Nat} {nL nA nT : Str} {pL pA pT apos cpos tpos pos : Pos} {D : Addr} {va vt : V} {xs : List V} {Q : Flow → Shared → Prop} {E : Value → Shared → Prop} (I : Inv X pins σ H s)
    (hL : σ[iL]? = some (some (.ref D))) (hA : σ[iA]? = some (some va)) (hT : σ[iT]? = some (some vt)) (hD : H D = some (.lst xs)) (hz : xs.length < sizeLine)
    (h : ∀ (s' : Shared) (t : Addr), s'.gens = s.gens → H t = none → s.heap.objs.size ≤ t → (∀ b o, b ≠ D → s.heap.get? b = some o → s'.heap.get? b = some o) → Inv X pins σ (upd (upd H t (.tup [va, vt])) D (.lst (xs ++ [.ref t]))) s' → Q .next s')
    (nL' : X.N[iL]? = some nL := by rfl) (nA' : X.N[iA]? = some nA := by rfl) (nT' : X.N[iT]? = some nT := by rfl)
    (vL : Vis X.env.scope nL := by first | exact Or.inl rfl | exact Or.inr (Or.inl rfl)) (vA : Vis X.env.scope nA := by first | exact Or.inl rfl | exact Or.inr (Or.inl rfl)) (vT : Vis X.env.scope nT := by first | exact Or.inl rfl | exact Or.inr (Or.inl rfl))
    (dL : (nL == ("__debug__" : Str)) = false := by decide) (dA : (nA == ("__debug__" : Str)) = false := by decide) (dT : (nT == ("__debug__" : Str)) = false := by decide)
    (cL : (nL == ("__classdict__" : Str)) = false := by decide) (cA : (nA == ("__classdict__" : Str)) = false := by decide) (cT : (nT == ("__classdict__" : Str)) = false := by decide)
    (hline : (apos.endLine == cpos.line) = true := by rfl) :
    wpAny (model X.prog X.w) X.A (execs [.Expr (.Call (.Attribute (.Name nL pL) "append" apos) [.Tuple [.Name nA pA, .Name nT pT] k tpos] [] cpos) pos] X.env) Q E s := by
  refine wpAny_execs_cons ?_
  refine wpAny_Expr_any ?_ I.quiet rfl
  refine wpAny_Call_method_late rfl rfl hline rfl (ev_name (i := iL) I hL (fun u ru => ?_) nL' vL dL cL)
  obtain rfl : u = Value.ref D := ru
  obtain ⟨hz', its, n, ri, e⟩ := I.hok D _ hD
  refine ⟨"list", _, F.plainAttrs_list, F.slot_list_append, F.type_list_append, ⟨_, e, rfl⟩, fun a ha => ⟨_, by cases ha; exact e, rfl⟩, ?_⟩
  refine Calls.callWith_builtin rfl (Calls.evalArgs_plain ?_)
  refine Calls.spliced_cons ?_
  refine wpAny_Tuple_spliced (x1 := k) ?_
  refine Calls.spliced_cons (ev_name (i := iA) I hA (fun ua ra => ?_) nA' vA dA cA)
  refine Calls.spliced_cons (ev_name (i := iT) I hT (fun ut rt => ?_) nT' vT dT cT)
  refine Calls.spliced_nil ⟨by show 2 ≤ sizeLine; decide, ?_⟩
  refine Calls.spliced_nil ?_
  have hf : H s.heap.objs.size = none := I.hok.fresh (Nat.le_refl _)
  have kp : ∀ b o, s.heap.get? b = some o → (s.heap.push { cls := .type "tuple", data := .seq [ua, ut].toArray }).get? b = some o := fun b o q => Heap.get?_push_of_some _ q
  have I1 : Inv X pins σ (upd H s.heap.objs.size (.tup [va, vt])) { s with heap := s.heap.push { cls := .type "tuple", data := .seq [ua, ut].toArray } } :=
    I.laid (t' := s.toks) kp (Nat.le_refl _) ⟨by show 2 ≤ sizeLine; decide, [ua, ut], .cons ra (.cons rt .nil), ⟨_, Heap.get?_push_size _ rfl, rfl, _, rfl⟩⟩
  have hD1 : upd H s.heap.objs.size (.tup [va, vt]) D = some (.lst xs) := by
    rw [upd_ne (ne_of_none hD hf)]
    exact hD
  have e1 := kp _ _ e
  have hl := ri.length
  refine call_meets F.slot_list_append ⟨_, e1, rfl⟩ F.entry_list_append (F.args_list_append_2 _ _) (PySem.list_append D its.toArray n (.ref s.heap.objs.size) (by rw [List.size_toArray]; omega)) ⟨e1, ?_⟩
  refine wpAny_execs_nil ?_
  refine h _ s.heap.objs.size rfl hf (Nat.le_refl _) (fun b o hb q => ?_) (I1.lset (its' := its ++ [.ref s.heap.objs.size]) hD1 e1 (by simp) (ri.append (.cons (show RelV (V.ref s.heap.objs.size) (Value.ref s.heap.objs.size) from rfl) .nil)) ?_)
  · exact (Heap.get?_update_other _ _ (Ne.symm hb)).trans (kp b o q)
  · rw [List.length_append, List.length_singleton]
    omega
end
end OP
/-! for T in o.m(): L.append((A, T)) -/
namespace OP
open PySem PySem.Spec PyProof.Rows GenW L2
section
variable {X : Cx} {pins : List (Addr × Obj)} {σ : L2.St} {H : Hp} {s : Shared}
/-- a local is stored: only the frame changes, no generator is touched -/
theorem store_loc {M : Model} {A : Around} {E : Value → Shared → Prop} {i : Nat} {x : Str} {v : V} {u : Value} {Q : Unit → Shared → Prop} (I : Inv X pins σ H s) (hN : X.N.Nodup) (hi : X.N[i]? = some x) (hk : X.env.scope.names.lookup x = some .local) (r : RelV v u)
    (h : ∀ s', s'.gens = s.gens → Heap.SameBut X.env.locals s.heap s'.heap → Inv X pins (σ.set i (some v)) H s' → Q () s') : wpAny M A (storeName X.env x u) Q E s := by
  obtain ⟨m, hn, hl⟩ := id I.loc
  have hcls : (X.env.scope.kind == .class || (X.env.scope.kind == .module && X.env.locals != X.env.globals)) = false := by rw [I.ok.kind]; rfl
  have hiσ : i < σ.length := by rw [I.len]; exact (List.getElem?_eq_some_iff.mp hi).1
  have cne := I.cne
  refine wpAny_storeName_local hk hn (fun h' hn' hs => ?_) hcls
  have tr : HOk X.prog X.w H h' := fun b ob e => by
    refine (I.hok b ob e).stay (fun c w' hc q => (hs.2 c ?_).trans q) (fun _ q => q) fun _ _ q => q
    rintro rfl
    have fr := I.free
    rcases hc with rfl | hc
    · rw [fr] at e; cases e
    · rw [fr] at hc; cases hc
  have old : ∀ b o, X.s_0.heap.get? b = some o → b ≠ X.env.locals := fun b o e => Nat.ne_of_lt (Nat.lt_of_lt_of_le (Heap.lt_size e) I.ok.above)
  refine h _ rfl hs ⟨I.ok, I.os, I.bare, ⟨fun b o e n hb hx => (hs.2 b (old b o e)).trans (I.base.keep b o e n hb hx), fun b o e n hb hx => ?_, I.base.free, fun b o e hx => ?_, I.base.tups, I.base.frzs, I.base.tbls⟩, ⟨_, hn', fun j y v' e1 e2 e3 => ?_⟩, fun y c e => ?_, I.free, I.freeC, fun p hp => ?_, tr, by rw [List.length_set]; exact I.len⟩
  · obtain ⟨sl, e1⟩ := I.base.slot b o e n hb hx
    exact ⟨sl, (hs.2 b (old b o e)).trans e1⟩
  · obtain ⟨o', e1⟩ := I.base.there b o e hx
    exact ⟨o', (hs.2 b (old b o e)).trans e1⟩
  · by_cases hj : j = i
    · subst hj
      rw [hi] at e1; cases e1
      rw [List.getElem?_set_self hiσ] at e2
      cases e2
      exact ⟨u, r, .inl ⟨hk, by simp⟩⟩
    · rw [List.getElem?_set_ne (Ne.symm hj)] at e2
      obtain ⟨u', r', q⟩ := hl j y v' e1 e2 e3
      refine ⟨u', r', ?_⟩
      rcases q with ⟨k, e⟩ | ⟨k, c, e, z⟩
      · refine .inl ⟨k, ?_⟩
        have : y ≠ x := fun e => hj (nodup_ix hN e1 (e ▸ hi))
        simp [this, e]
      · exact .inr ⟨k, c, e, z.sameBut hs (cne y c e)⟩
  · obtain ⟨w', z⟩ := I.cell y c e
    exact ⟨w', z.sameBut hs (cne y c e)⟩
  · obtain ⟨e, n, ne, nf, d⟩ := I.pin p hp
    exact ⟨(hs.2 p.1 ne).trans e, n, ne, nf, d⟩
theorem inv_gens {G : Array GenState} {h' : Heap} (I : Inv X pins σ H s) (k : ∀ b o, s.heap.get? b = some o → h'.get? b = some o) (hG : AllBare G) : Inv X pins σ H { s with gens := G, heap := h' } :=
  I.call' (ch := []) (s' := { s with gens := G, heap := h' }) rfl (Un.kept k) (I.hok.kept k) hG fun b z => by simp at z
end
def tForG (C : Addr) (m : Str) (sp : SpG2) (ta : TE) (iL iA iT : Nat) : TS := fun Dn σ H => ∃ (D : Addr) (Pv : List V → L2.St → Hp → Prop) (J Je : List V → Hp → Prop),
  tMethG2 C m sp ta D (fun ys Hs H1 => Same Hs H1 ∧ J ys H1) (fun ys Hs H1 => Same Hs H1 ∧ Je ys H1) σ H (fun H1 => Pv [] σ H1) ∧
  (∀ ys x σ Hs H1, Pv ys σ Hs → Same Hs H1 → J (ys ++ [x]) H1 → ∃ xs va, (σ.set iT (some x))[iL]? = some (some (.ref D)) ∧ (σ.set iT (some x))[iA]? = some (some va) ∧ (σ.set iT (some x))[iT]? = some (some x) ∧ H1 D = some (.lst xs) ∧ xs.length < sizeLine ∧
    ∀ t, H1 t = none → Pv (ys ++ [x]) (σ.set iT (some x)) (upd (upd H1 t (.tup [va, x])) D (.lst (xs ++ [.ref t])))) ∧
  (∀ ys σ Hs H1, Pv ys σ Hs → Same Hs H1 → Je ys H1 → Dn.nx σ H1)
section
variable {X : Cx} {k : Nat} {f C : Addr} {fd : FuncData} {ps : List Str} {sp : SpG2} {m : Str} {o : Expr} {ta : TE}
theorem ps_forG {pl : Sem Bool} {iL iA iT kt : Nat} {nL nA nT : Str} {tp pL pA pT ap cp tpos ep pos apos pos' : Pos} (he : PE X o ta) (c : Cls X.K C) (hm : Meth X.K C m f) (F : GFn2 X.prog X.w X.K X.mg X.base k f fd ps sp) (hr : Room (k + 1) X.A) (hb : Binds X.K fd ps [])
    (hcalm : X.calm = true) (hN : X.N.Nodup) (kT : X.env.scope.names.lookup nT = some .local)
    (hst : X.stack = X.env :: X.outer := by rfl) (hfm : X.env.frame = some X.env.locals := by rfl)
    (nL' : X.N[iL]? = some nL := by rfl) (nA' : X.N[iA]? = some nA := by rfl) (nT' : X.N[iT]? = some nT := by rfl)
    (vL : Vis X.env.scope nL := by first | exact Or.inl rfl | exact Or.inr (Or.inl rfl)) (vA : Vis X.env.scope nA := by first | exact Or.inl rfl | exact Or.inr (Or.inl rfl)) (vT : Vis X.env.scope nT := by first | exact Or.inl rfl | exact Or.inr (Or.inl rfl))
    (dL : (nL == ("__debug__" : Str)) = false := by decide) (dA : (nA == ("__debug__" : Str)) = false := by decide) (dT : (nT == ("__debug__" : Str)) = false := by decide)
    (cL : (nL == ("__classdict__" : Str)) = false := by decide) (cA : (nA == ("__classdict__" : Str)) = false := by decide) (cT : (nT == ("__classdict__" : Str)) = false := by decide)
    (hline : (ap.endLine == cp.line) = true := by rfl)
    (ht : eval (.Call (.Attribute o m apos) [] [] pos') X.env = (do
      let ov ← eval o X.env
      standAt apos.atName
      let (f, first) ← holding [ov] (getMethod ov m pl)
      callWith pos' f first (backTo pos' (starEach [] X.env)) (backToKw pos' (keywordEach [] X.env))) := by rfl)
    (hs : ∀ x, foldedSetIterable (.Call (.Attribute o m apos) [] [] pos') X.env x = pure x := by intro _; rfl) :
    PS X (.For (.Name nT tp) (.Call (.Attribute o m apos) [] [] pos') [.Expr (.Call (.Attribute (.Name nL pL) "append" ap) [.Tuple [.Name nA pA, .Name nT pT] kt tpos] [] cp) ep] [] pos) (tForG C m sp ta iL iA iT) := by
  refine ⟨fun pins s σ H Dn I h => ?_⟩
  obtain ⟨D, Pv, J, Je, h0, turn, fin⟩ := h
  refine wpAny_For (thn (gen2_meth0 he c hm F (hr.mono (by omega)) hb hst hfm I h0 ht) fun u s1 ⟨H1, sc, I0, R, hDx, made⟩ => ?_) hs
  obtain ⟨a, g, cd, rfl, ha1, ha2, hg, hgs, hos, hba, hnl, hkp, wake⟩ := made
  refine wpAny_pyIter_gen hg ?_
  have hC : ∃ C : Con, ∀ ys Hs s₀, C ys Hs s₀ ↔ ∃ σ, Inv X pins σ Hs s₀ ∧ Pv ys σ Hs ∧ s₀.heap.IsGen a g ∧ sc.heap.objs.size ≤ s₀.heap.objs.size := ⟨fun ys Hs s₀ => ∃ σ, Inv X pins σ Hs s₀ ∧ Pv ys σ Hs ∧ s₀.heap.IsGen a g ∧ sc.heap.objs.size ≤ s₀.heap.objs.size, fun _ _ _ => Iff.rfl⟩
  obtain ⟨Cn, hCn⟩ := hC
  refine codeAny_forLoop_any (fun n s' => ∃ ys σ' Hs gs, Inv X pins σ' Hs s' ∧ Pv ys σ' Hs ∧ s'.heap.IsGen a g ∧ sc.heap.objs.size ≤ s'.heap.objs.size ∧ s'.gens[g]? = some gs ∧
    gs.Goes (model X.prog X.w) X.A.in1 (REnd2 X.prog X.w X.stack sc.heap.objs.size Cn (fun ys Hs H1 => Same Hs H1 ∧ Je ys H1)) (YItem2 X.prog X.w X.stack sc.heap.objs.size a g X.env.locals D Cn (fun ys Hs H1 => Same Hs H1 ∧ J ys H1)) n (.send .none) (s'.setGen g .running)) ?_ sizeLine ?_
  · rintro n s2 ⟨ys, σ2, Hs, gs, I2, pv2, hg2, sz2, hgs2, hgo⟩
    have hgl : g < s2.gens.size := (Array.getElem?_eq_some_iff.mp hgs2).1
    have hdep : X.A.depth < recursionLimit := by
      have := hr.dp
      omega
    refine wpAny_gsz (n := g + 1) hgl (next_genG (A := X.A) (F := fun n s₀ s1 => ∃ ys Hs H1, Cn ys Hs s₀ ∧ Out X.prog X.w X.stack sc.heap.objs.size Hs s₀ H1 s1 ∧ Same Hs H1 ∧ Je ys H1) (Er := fun _ _ => False) (I2.ok.hd hcalm) I2.nolimit hdep hg2 hgs2 hgo (fun v s₁ gs' hbare hv => ?_) (fun s₁ hp h' hk => ?_) fun e s₁ he => he.elim)
    · intro hsz
      obtain ⟨ys', x, Hs', H1', hn', rv, hC', O, hl1, hg1, ⟨sm, hJ⟩, wk⟩ := hv
      obtain ⟨σ3, I3, pv3, hg3, sz3⟩ := (hCn _ _ _).mp hC'
      have lts : X.env.locals < sc.heap.objs.size := I0.lt
      have I4 : Inv X pins σ3 H1' s₁ := inv_out I3 O sm I0.sz lts (fun y cc e => by
        obtain ⟨vv, oo, ho, _⟩ := I0.cell y cc e
        exact Heap.lt_size ho) (fun p hp => Heap.lt_size (I0.pin p hp).1)
      have hsz1 : g < s₁.gens.size := by
        have q : (s₁.setGen g gs').gens.size = s₁.gens.size := setGen_size _ _ _
        have hsz' : g + 1 ≤ (s₁.setGen g gs').gens.size := hsz
        omega
      have I5 : Inv X pins σ3 H1' (s₁.setGen g gs') := inv_gens I4 (fun _ _ e => e) (allBare_setGen O.bare hbare)
      obtain ⟨xs, va, hL, hA, hT, hD1, hxs, nxt⟩ := turn ys' x σ3 Hs' H1' pv3 sm hJ
      refine wpAny_pure ?_
      refine wpAny_assign_Name (store_loc I5 hN nT' kT rv fun s6 g6 sb6 I6 => ?_)
      refine body_app (iL := iL) (iA := iA) (iT := iT) I6 hL hA hT hD1 hxs (fun s7 t g7 ht7 le7 kp7 I7 => ?_) nL' nA' nT' vL vA vT dL dA dT cL cA cT hline
      have nL : ∀ b o, b ≠ X.env.locals → s₁.heap.get? b = some o → s6.heap.get? b = some o := fun b o hb e => (sb6.2 b hb).trans e
      have z6 : s6.heap.objs.size = s₁.heap.objs.size := sb6.1
      obtain ⟨oa, nm, qn, hoa, hca, hda⟩ := id hg1
      have aL : a ≠ X.env.locals := Nat.ne_of_gt (Nat.lt_of_lt_of_le lts ha1)
      have aD : a ≠ D := fun z => by
        obtain ⟨_, its, nn, _, e⟩ := I4.hok D _ hD1
        rw [← z, hoa] at e
        have e' := Option.some.inj e
        rw [e'] at hca
        exact absurd (show Value.type "list" = Value.type "generator" from hca) (by decide)
      have hg7 : s7.heap.IsGen a g := ⟨oa, nm, qn, kp7 a oa aD (nL a oa aL hoa), hca, hda⟩
      obtain ⟨mm, hn7, _⟩ := id I7.loc
      have sz7 : sc.heap.objs.size ≤ s7.heap.objs.size := Nat.le_of_lt (Nat.lt_of_le_of_lt ha1 (by
        obtain ⟨o7, _, _, h7, _⟩ := id hg7
        exact Heap.lt_size h7))
      have gs7 : s7.gens = (s₁.setGen g gs').gens := g7.trans g6
      have W : Woke X.prog X.w X.env.locals D H1' s₁ (upd (upd H1' t (.tup [va, x])) D (.lst (xs ++ [.ref t]))) (s7.setGen g .running) := by
        refine ⟨allBare_setGen I7.bare rfl, I7.hok, fun b o hb n1 e => ?_, ⟨mm, hn7⟩, I7.free, fun b u hb e => ?_, xs, _, hD1, upd_same⟩
        · have bD : b ≠ D := fun z => by rw [z, hD1] at n1; cases n1
          have bt : b ≠ t := Nat.ne_of_lt (Nat.lt_of_lt_of_le (Heap.lt_size e) (by rw [← z6]; exact le7))
          refine ⟨kp7 b o bD (nL b o hb e), ?_⟩
          rw [upd_ne bD, upd_ne bt]
          exact n1
        · rw [upd_ne hb, upd_ne (ne_of_none e ht7)]
          exact e
      have C7 : Cn (ys' ++ [x]) (upd (upd H1' t (.tup [va, x])) D (.lst (xs ++ [.ref t]))) (s7.setGen g .running) := (hCn _ _ _).mpr ⟨_, inv_gens I7 (fun _ _ e => e) (allBare_setGen I7.bare rfl), nxt t ht7, hg7, sz7⟩
      have go7 := wk _ _ W C7
      cases n with
      | zero => exact go7.elim
      | succ m' =>
        refine ⟨m', Nat.lt_succ_self _, ys' ++ [x], _, _, gs', I7, nxt t ht7, hg7, sz7, ?_, go7⟩
        rw [gs7]
        exact setGen_at hsz1
    · intro hsz
      obtain ⟨ys', Hs', H1', hC', O, sm, hJ⟩ := hp
      obtain ⟨σ3, I3, pv3, hg3, sz3⟩ := (hCn _ _ _).mp hC'
      have lts : X.env.locals < sc.heap.objs.size := I0.lt
      have I4 : Inv X pins σ3 H1' s₁ := inv_out I3 O sm I0.sz lts (fun y cc e => by
        obtain ⟨vv, oo, ho, _⟩ := I0.cell y cc e
        exact Heap.lt_size ho) (fun p hp => Heap.lt_size (I0.pin p hp).1)
      exact wpAny_execs_nil ⟨σ3, H1', inv_gens (s := s₁.setGen g .finished) (G := (s₁.setGen g .finished).gens) (inv_gens I4 (fun _ _ e => e) (allBare_setGen O.bare rfl)) hk (allBare_setGen O.bare rfl), fin ys' σ3 Hs' H1' pv3 sm hJ⟩
  · have szs : sc.heap.objs.size ≤ s1.heap.objs.size := Nat.le_of_lt (Nat.lt_of_le_of_lt ha1 ha2)
    have I1 : Inv X pins σ H1 s1 := I0.call' (ch := []) hos (Un.kept hkp) (I0.hok.kept hkp) hba fun b z => by simp at z
    refine ⟨[], σ, H1, _, I1, R, hg, szs, hgs, rfl, ?_⟩
    refine wake Cn X.A.in1 (s1.setGen g .running) ⟨hr.hd, ?_, ?_⟩ I0.ok.frames (fun _ _ e => e) hos (allBare_setGen hba rfl) (fun ys Hs s₀ q => ?_) ((hCn _ _ _).mpr ⟨σ, inv_gens I1 (fun _ _ e => e) (allBare_setGen hba rfl), R, hg, szs⟩)
    · have := hr.dp
      show X.A.depth + 3 * k + 5 < _
      omega
    · have := hr.un
      show X.A.units + 1 + 16 * k + 200 < _
      omega
    · obtain ⟨_, _, _, _, q⟩ := (hCn _ _ _).mp q
      exact q
end
end OP
/-! World.sets() for a consumer that walks it in a for -/
namespace OP
open PySem PySem.Spec PyProof.Rows GenW L2
section
variable {X : Cx}
theorem pt_truthK {a : Expr} {ta : TE} (K : PySem.W.Frag) (ha : PE X a ta) (he : ∀ whole, isTrue a X.env whole = (do let v ← whole; standAt a.pos; holding [v] (truthy v))) (hK : X.K = K := by rfl) :
    PT X a (fun σ H Q => ta σ H fun x H' => ∃ k, TruV K x H' k ∧ Q k H') := by
  subst hK
  exact pt_truth ha he
theorem pe_tupleOfK {a : Expr} {ta : TE} {p pos : Pos} (K : PySem.W.Frag) (hg : Gl X "tuple") (hm : X.mg "tuple" = none) (ha : PE X a ta) (hK : X.K = K := by rfl) (na : starEach [a] X.env = (false, eval a X.env) :: starEach [] X.env := by rfl) :
    PE X (.Call (.Name "tuple" p) [a] [] pos) (tThen ta (kTup K)) := by
  subst hK
  exact pe_tupleOf hg hm ha na
end
theorem g2for_it {J : It} {n : Nat} {G : Hp → Prop} {Y : Nat → Hp → V → Hp → Prop} (w : Walk J n G Y) {g : TG} {tb : TG2} {D : GE} {ys : List V} {Hs : Hp} {σ : L2.St} {H : Hp} (Pv : Nat → List V → Hp → L2.St → Hp → Prop) (h0 : Pv 0 ys Hs σ H) (hG : ∀ i ys Hs σ H, i ≤ n → Pv i ys Hs σ H → G H)
    (hs : ∀ i x ys Hs σ H H', i < n → Pv i ys Hs σ H → Y i H x H' → g x σ H' fun σ2 H2 => tb { D with nx := Pv (i + 1), ct := Pv (i + 1), bk := D.nx } ys Hs σ2 H2) (hd : ∀ ys Hs σ H, Pv n ys Hs σ H → D.nx ys Hs σ H) :
    ∃ W : Nat → Nat → List V → Hp → L2.St → Hp → Prop, (∃ m, W 0 m ys Hs σ H) ∧ ∀ i m ys Hs σ H, W i m ys Hs σ H → (J.stop i H ∧ D.nx ys Hs σ H) ∨ (J.go i H ∧ ∃ N : List V → Hp → L2.St → Hp → Prop, (∀ ys' Hs' σ' H', N ys' Hs' σ' H' → ∃ m', m' < m ∧ W (i + 1) m' ys' Hs' σ' H') ∧
      ∀ x H', J.yld i H x H' → g x σ H' fun σ2 H2 => tb { D with nx := N, ct := N, bk := D.nx } ys Hs σ2 H2) := by
  refine ⟨fun i m ys Hs σ H => m = n - i ∧ i ≤ n ∧ Pv i ys Hs σ H, ⟨n, rfl, Nat.zero_le _, h0⟩, ?_⟩
  rintro i m ys Hs σ H ⟨rfl, hi, p⟩
  have q := hG i ys Hs σ H hi p
  by_cases hlt : i < n
  · exact .inr ⟨w.goes i H hlt q, Pv (i + 1), fun ys' Hs' σ' H' p' => ⟨n - (i + 1), by omega, rfl, hlt, p'⟩, fun x H' y => hs i x ys Hs σ H H' hlt p (w.yields i H x H' hlt q y)⟩
  · obtain rfl : i = n := by omega
    exact .inl ⟨w.stops H q, hd ys Hs σ H p⟩
theorem upTo_le (n i : Nat) : ∀ d, upTo n i <+: upTo n (i + d)
  | 0 => List.prefix_refl _
  | d + 1 => (upTo_le n i d).trans (List.prefix_append _ _)
theorem upTo_pre {n i j : Nat} (hi : i ≤ n) : upTo n i ++ (lev n i).take j <+: upTo n (n + 1) := by
  have h1 : upTo n i ++ (lev n i).take j <+: upTo n (i + 1) := (List.prefix_append_right_inj _).mpr (List.take_prefix _ _)
  have h2 := upTo_le n (i + 1) (n - i)
  rw [show i + 1 + (n - i) = n + 1 by omega] at h2
  exact h1.trans h2
/-- a list that is new is not the one at D -/
theorem ne_list {H H' : Hp} {D a : Addr} {xs : List V} (hD : H D = some (.lst xs)) (ha : H a = none) : a ≠ D := fun z => by
  rw [z, hD] at ha
  cases ha
theorem tup_neD {H : Hp} {D a : Addr} {xs ys : List V} (hD : H D = some (.lst xs)) (ha : H a = some (.tup ys)) : a ≠ D := fun z => by
  rw [z, hD] at ha
  cases ha
section
variable {P : Program} {w : World} {K : PySem.W.Frag} {mg : Str → Option Value} {base : Heap}
def spNamesF (K : PySem.W.Frag) : Sp := fun vs H Q _ => ∃ (p : Addr) (n : Nat) (S : Sts) (L : Ncs), vs = [.ref p] ∧ WorldAt K H p n S L ∧ ∀ r H', Same H H' → H r = none → H' r = some (.lst ((names L).map V.str)) → Q (.ref r) H'
theorem ok_World_namesF (T : Txt K mg) : Ok P w K mg base (a_World_names K) ["self"] 1 (spNamesF K) := by
  refine ok_of T.f_World_names sc_wn (fun _ _ _ _ _ _ us hl => match us, hl with | [_], _ => rfl) (fun vs H Q E h => ?_) (fun cdv A outer s H vs Q E hr h => ?_)
  · obtain ⟨p, n, S, L, rfl, _⟩ := h
    rfl
  · obtain ⟨p, n, S, L, rfl, ⟨⟨dx, l, d, hp, hl, hd⟩, _, _⟩, k⟩ := h
    refine ⟨_, pss_one (ps_ret (pe_callTy (call_list_dK rfl) (by rfl) T.z_list (by decide +kernel) (pa_cons (pe_fld (pv 0) rfl) pa_nil))), ?_⟩
    refine ⟨_, rfl, p, c_World K, dx, _, _, rfl, hp, T.o_World.cl, T.n_World_made, lookC w_m s_m, d, _, rfl, hd, fun r hr => k r _ (same_upd hr) hr ?_⟩
    rw [upd_same, kvs_keys]
def spSets2 (K : PySem.W.Frag) : SpG2 := fun vs H D It Q => ∃ (p : Addr) (n : Nat) (S : Sts) (L : Ncs), vs = [.ref p] ∧ WorldAt K H p n S L ∧ WOk n S L ∧ (∃ xs, H D = some (.lst xs)) ∧
  (∀ (Z : Nts) Hs H1, Z.map (·.2) <+: setsOf (names L) → Same Hs H1 → NtsAt H1 Z → It (nrefs Z) Hs H1) ∧ (∀ (Z : Nts) Hs H1, Z.map (·.2) = setsOf (names L) → Same Hs H1 → NtsAt H1 Z → Q (nrefs Z) Hs H1)
theorem gok_sets2 (T : Txt K mg) : ∃ fd, GFn2 P w K mg base 3 (a_World_sets K) fd ["self"] (spSets2 K) ∧ Binds K fd ["self"] [] ∧ PySem.W.keepIn K (.ref (a_World_sets K)) = true := by
  have GN : Ok P w K mg base (a_World_names K) _ 1 (spNamesF K) := ok_World_namesF T
  have GL : Ok P w K mg base (a_one_larger K) _ 1 (spLarger K) := ok_one_larger T
  obtain ⟨fd, F⟩ := T.f_World_sets
  obtain ⟨oc, od, kV, doc, pm, an, cdv, ct, osl, rfl, lk, hcd⟩ := F.ex
  refine ⟨_, gfn2_of lk hcd sc_ss (fun vs H D It Q h => ?_) (fun A outer s H vs Lo D C It Q pn hr hlen h => ?_), F.binds (fun _ _ _ _ _ _ us hl => match us, hl with | [_], _ => rfl), F.kp⟩
  · obtain ⟨p, n, S, L, rfl, _⟩ := h
    rfl
  · obtain ⟨p, n, S, L, rfl, W, ok, ⟨x0, hD0⟩, kI, kQ⟩ := h
    have hr1 : Room 1 _ := hr.mono (by decide)
    refine ⟨_, g2_cons (g2_ps fun _ _ => ps_set (i := 1) sc_ss.nd rfl (Or.inr rfl) (pe_pr (pv 0) T.o_World T.p_World_names GN hr))
      (g2_cons (g2_ps fun _ _ => ps_set (i := 2) sc_ss.nd rfl (Or.inl rfl) (pe_lst (pa_cons (pe_tup pa_nil) pa_nil)))
      (g2_cons (g2_while (fun _ _ => pt_truthK K (pv 2) (fun _ => rfl))
        (g2_cons (g2_for rfl (fun _ _ => pi_listK K (pv 2)) (fun _ _ => pg_name (i := 3) sc_ss.nd rfl (Or.inl rfl))
            (g2_cons (g2_yield fun _ _ => pe_tupleOfK K (by rfl) T.z_tuple (pe_lc (own := [("at", 4)]) (g := gName 4) (tt := tYes) rfl sc_ss.nd (pi_tupK K (pv 3)) (blkOk_by (own := [("at", 4)]) (N := ["self", "names", "chosen", "places", "at"]) (sc := defScope s_World_sets) (by decide +kernel))
              (fun _ _ _ _ _ => pg_name (i := 4) sc_ss.nd rfl (Or.inl rfl)) (fun _ _ _ _ _ => pts_nil)
              (fun _ _ _ _ _ => pe_ix (ix_listK K) (pv 1) (pv 4) (fun _ _ => rfl)))) g2_nil) hlen)
        (g2_cons (g2_ps fun _ _ => ps_set (i := 2) sc_ss.nd rfl (Or.inl rfl) (pe_c GL hr1 T.g_one_larger (pa_cons (pv 2) (pa_cons (pe_callB (call_ln K) (by rfl) T.z_len PySem.boot_len (pa_cons (pv 1) pa_nil)) pa_nil)))) g2_nil)))
      g2_nil)), ?_⟩
    have hL := ok.chgs
    have hnl : (names L).length = L.length := List.length_map ..
    have lv : LevOk L.length := lev_ok hL.lo hL.hi
    obtain ⟨⟨dx, l, d, hp, hl, hd⟩, _⟩ := id W
    refine ⟨_, rfl, p, dx, _, rfl, hp, p, n, S, L, rfl, W, fun a H1 s1 na ha => ?_⟩
    have hD1 := s1 _ _ hD0
    have aD : a ≠ D := ne_list (H' := H) hD0 na
    refine ⟨(by show 0 ≤ sizeLine; exact Nat.zero_le _), fun t ht => ⟨(by show 1 ≤ sizeLine; decide), fun c hc => ?_⟩⟩
    have s2 : Same H1 _ := same_upd (o := .tup []) ht
    have s3 : Same _ _ := s2.push (o := .lst [V.ref t]) hc
    have cD : c ≠ D := ne_list (H' := H) (s2 _ _ hD1) hc
    have step : ∀ {Hs H2 H' : Hp} {c : Addr} {C : Sts} {Z : Nts} {x1 : List V}, HWoke D H2 H' → c ≠ D → H2 D = some (.lst x1) → H2 a = some (.lst ((names L).map V.str)) → H2 c = some (.lst (refs C)) → StsAt H2 C → NtsAt H2 Z →
        H' a = some (.lst ((names L).map V.str)) ∧ H' c = some (.lst (refs C)) ∧ (∃ x2, H' D = some (.lst x2)) ∧ StsAt H' C ∧ NtsAt H' Z := fun {Hs H2 H' c C Z x1} hw hcD hD2 h1 h2 h3 h4 => by
      obtain ⟨_, y2, _, hy⟩ := hw.lst
      exact ⟨hw.held _ _ aD h1, hw.held _ _ hcD h2, ⟨y2, hy⟩, fun q hq => hw.held _ _ (tup_neD hD2 (h3 q hq)) (h3 q hq), fun q hq => hw.held _ _ (tup_neD hD2 (h4 q hq)) (h4 q hq)⟩
    refine ⟨fun m ys Hs σ H' => ∃ i, i ≤ L.length + 1 ∧ m = L.length + 1 - i ∧ ∃ (c : Addr) (v3 : Option V) (C : Sts) (Z : Nts) (x1 : List V), σ = [some (.ref p), some (.ref a), some (.ref c), v3, none] ∧ ys = nrefs Z ∧ Same Hs H' ∧ H' a = some (.lst ((names L).map V.str)) ∧ c ≠ D ∧ H' D = some (.lst x1) ∧ H' c = some (.lst (refs C)) ∧ StsAt H' C ∧ C.map (·.2) = lev L.length i ∧ NtsAt H' Z ∧ Z.map (·.2) = (upTo L.length i).map (pick (names L)),
      ⟨L.length + 1, 0, Nat.zero_le _, rfl, c, none, [(t, [])], [], x0, rfl, rfl, s1.trans s3, s3 _ _ ha, cD, s3 _ _ hD1, upd_same, fun q hq => ?_, rfl, fun q hq => (by cases hq), rfl⟩, fun m ys Hs σ H' hW => ?_⟩
    · obtain rfl := List.mem_singleton.mp hq
      show upd _ c _ t = _
      rw [upd_ne (ne_of_none upd_same hc)]
      exact upd_same
    obtain ⟨i, hi, rfl, c, v3, C, Z, x1, rfl, rfl, s4, a4, cD, hDx, hc, hC, eC, hZ, eZ⟩ := hW
    have lC : C.length = (lev L.length i).length := by rw [← eC, List.length_map]
    have lrC : (refs C).length = C.length := List.length_map ..
    refine ⟨_, rfl, _, .inl ⟨_, SqL.of hc, rfl⟩, ?_⟩
    by_cases hin : i ≤ L.length
    · have hne : C ≠ [] := fun z => lv.some i hin (by rw [← eC, z]; rfl)
      have e1 : (!(refs C).isEmpty) = true := by
        cases C with
        | nil => exact absurd rfl hne
        | cons _ _ => rfl
      rw [e1]
      refine iteT ⟨fun ys' Hs' σ' H2 => ∃ (c : Addr) (v3 : Option V) (C : Sts) (Z : Nts) (x1 : List V), σ' = [some (.ref p), some (.ref a), some (.ref c), v3, none] ∧ ys' = nrefs Z ∧ Same Hs' H2 ∧ H2 a = some (.lst ((names L).map V.str)) ∧ c ≠ D ∧ H2 D = some (.lst x1) ∧ H2 c = some (.lst (refs C)) ∧ StsAt H2 C ∧ C.map (·.2) = lev L.length (i + 1) ∧ NtsAt H2 Z ∧ Z.map (·.2) = (upTo L.length (i + 1)).map (pick (names L)),
        fun ys' Hs' σ' H2 q => ⟨L.length + 1 - (i + 1), by omega, i + 1, by omega, rfl, q⟩, ?_⟩
      refine ⟨_, rfl, c, rfl, ⟨_, SqL.of hc⟩, ?_⟩
      refine g2for_it (walk_list (K := K) (a := c) (xs := refs C)) (fun j ys' Hs' σ' H2 => ∃ (v3 : Option V) (Z' : Nts) (x1 : List V), σ' = [some (.ref p), some (.ref a), some (.ref c), v3, none] ∧ ys' = nrefs Z' ∧ Same Hs' H2 ∧ H2 a = some (.lst ((names L).map V.str)) ∧ H2 D = some (.lst x1) ∧ H2 c = some (.lst (refs C)) ∧ StsAt H2 C ∧ NtsAt H2 Z' ∧ Z'.map (·.2) = (upTo L.length i ++ (lev L.length i).take j).map (pick (names L))) ?_ ?_ ?_ ?_
      · exact ⟨v3, Z, x1, rfl, rfl, s4, a4, hDx, hc, hC, hZ, by rw [eZ, List.take_zero, List.append_nil]⟩
      · rintro j ys' Hs' σ' H2 _ ⟨_, _, _, _, _, _, _, _, h, _⟩
        exact SqL.of h
      · rintro j x ys' Hs' σ' H2 H3 hj ⟨v3', Z', x2, rfl, rfl, s5, a5, hD5, c5, hC5, hZ', eZ'⟩ ⟨rfl, hx⟩
        have hjC : j < C.length := by rw [← lrC]; exact hj
        unfold refs at hx
        rw [List.getElem?_map, List.getElem?_eq_getElem hjC] at hx
        obtain rfl := (Option.some.inj hx).symm
        have mem : C[j] ∈ C := List.getElem_mem hjC
        have hjl : j < (lev L.length i).length := by rw [← lC]; exact hjC
        have e2 : (lev L.length i)[j] = C[j].2 := by
          rw [List.getElem_of_eq eC.symm hjl, List.getElem_map]
        obtain ⟨len4, bnd⟩ := lv.each i hi C[j].2 (by rw [← e2]; exact List.getElem_mem hjl)
        have hq : H3 C[j].1 = some (.tup (C[j].2.map V.int)) := hC5 _ mem
        have lz : (nrefs Z').length ≤ 1000 := by
          have h1 : (nrefs Z').length = (Z'.map (·.2)).length := by unfold nrefs; rw [List.length_map, List.length_map]
          rw [h1, eZ', List.length_map, List.length_append, List.length_take]
          have h2 := lv.all i hi
          have h3 := lv.len i hi
          omega
        refine ⟨small1000 lz, ?_⟩
        refine ⟨_, rfl, C[j].1, rfl, ⟨_, SqT.of hq⟩, fun B hB => ?_⟩
        have hm : (C[j].2.map V.int).length = C[j].2.length := List.length_map ..
        refine lcT_map (K := K) (a := C[j].1) (xs := C[j].2.map V.int) ((pick (names L) C[j].2).map V.str) hB (SqT.of hq) (by rw [hm]; omega) (by rw [hm, List.length_map]; exact List.length_map ..) (fun i' x y H4 Qe hx' hy s6 kk => ?_) fun H4 s6 e => ?_
        · obtain ⟨z, hz, rfl⟩ := ints_at hx'
          obtain ⟨b1, b2⟩ := bnd z (List.mem_of_getElem? hz)
          unfold pick at hy
          rw [List.getElem?_map, List.getElem?_map, hz] at hy
          obtain rfl := Option.some.inj hy
          have hzl : z.toNat < (names L).length := by rw [hnl]; omega
          refine ⟨_, rfl, _, rfl, a, (names L).map V.str, z, _, rfl, rfl, SqL.of (s6 _ _ a5), ?_, kk H4 (Same.refl _)⟩
          unfold atI ixN
          rw [if_pos b1, List.length_map, if_pos (by rw [hnl]; omega)]
          show ((names L).map V.str)[z.toNat]? = _
          have e5 : (names L).getD z.toNat "" = (names L)[z.toNat] := by rw [List.getD_eq_getElem?_getD, List.getElem?_eq_getElem hzl] <;> rfl
          rw [List.getElem?_map, List.getElem?_eq_getElem hzl]
          show some (V.str (names L)[z.toNat]) = some (V.str ((names L).getD z.toNat ""))
          rw [e5]
        · refine .inl ⟨B, _, rfl, SqL.of e, fun q hq' => ?_⟩
          have s7 : Same H4 _ := same_upd (o := .tup ((pick (names L) C[j].2).map V.str)) hq'
          have s8 : Same H3 _ := s6.trans s7
          have e6 : (lev L.length i).take (j + 1) = (lev L.length i).take j ++ [C[j].2] := by
            rw [List.take_add_one, List.getElem?_eq_getElem hjl, e2] <;> rfl
          have eZ2 : (Z' ++ [(q, pick (names L) C[j].2)]).map (·.2) = (upTo L.length i ++ (lev L.length i).take (j + 1)).map (pick (names L)) := by
            rw [List.map_append, eZ', e6, ← List.append_assoc, List.map_append, List.map_append, List.map_append] <;> rfl
          have hZ2 : NtsAt _ (Z' ++ [(q, pick (names L) C[j].2)]) := (hZ'.ext s8).snoc upd_same
          refine ⟨?_, fun H' hw => ?_⟩
          · rw [← nrefs_snoc _ _ (pick (names L) C[j].2)]
            refine kI _ _ _ ?_ (s5.trans s8) hZ2
            rw [eZ2]
            unfold setsOf
            rw [hnl]
            exact (upTo_pre hin).map _
          · obtain ⟨w1, w2, ⟨x3, w3⟩, w4, w5⟩ := step (Hs := H) hw cD (s8 _ _ hD5) (s8 _ _ a5) (s8 _ _ c5) (hC5.ext s8) hZ2
            exact ⟨_, _, x3, rfl, (nrefs_snoc _ _ _).symm, Same.refl _, w1, w3, w2, w4, w5, eZ2⟩
      · rintro ys' Hs' σ' H2 ⟨v3', Z', x2, rfl, rfl, s5, a5, hD5, c5, hC5, hZ', eZ'⟩
        refine ⟨_, rfl, _, rfl, a, _, rfl, .inl (SqL.of a5), c, C, L.length, ?_, c5, hC5, hL.hi, by rw [lC]; exact lv.len i hi, fun q hq => ?_, fun r C' H3 s6 nr hr' hC' eC' => ?_⟩
        · show [V.ref c, V.int (((names L).map V.str).length : Int)] = _
          rw [List.length_map, hnl]
        · have : q.2 ∈ lev L.length i := by rw [← eC]; exact List.mem_map.mpr ⟨q, hq, rfl⟩
          exact (lv.each i hi _ this).1
        · refine ⟨r, v3', C', Z', x2, rfl, rfl, s5.trans s6, s6 _ _ a5, ne_list (H' := H) hD5 nr, s6 _ _ hD5, hr', hC', by rw [eC', eC]; rfl, hZ'.ext s6, ?_⟩
          rw [eZ', List.take_of_length_le (by rw [lrC, lC]; exact Nat.le_refl _)]
          rfl
    · obtain rfl : i = L.length + 1 := by omega
      have e0 : C = [] := by
        rw [lv.none] at eC
        exact List.map_eq_nil_iff.mp eC
      rw [e0]
      refine iteF ?_
      refine kQ Z _ H' ?_ s4 hZ
      unfold setsOf
      rw [eZ, hnl]
end
end OP
namespace OP
open PySem PySem.Spec PyProof.Rows GenW L2
/-- pairs of an initial store and a set: the pair, the store, the set at their places -/
abbrev Prs := List (Addr × (Addr × List Int) × (Addr × List Str))
def qrefs (Z : Prs) : List V := Z.map fun p => V.ref p.1
def PrsAt (H : Hp) (Z : Prs) : Prop := ∀ p ∈ Z, H p.1 = some (.tup [.ref p.2.1.1, .ref p.2.2.1]) ∧ H p.2.1.1 = some (.tup (p.2.1.2.map V.int)) ∧ H p.2.2.1 = some (.tup (p.2.2.2.map V.str))
def pcont (Z : Prs) : List (List Int × List Str) := Z.map fun p => (p.2.1.2, p.2.2.2)
theorem PrsAt.ext {H H' : Hp} {Z : Prs} (e : Same H H') (h : PrsAt H Z) : PrsAt H' Z := fun p hp => ⟨e _ _ (h p hp).1, e _ _ (h p hp).2.1, e _ _ (h p hp).2.2⟩
/-- a list is written, tuples stay -/
theorem PrsAt.off {H : Hp} {Z : Prs} {D : Addr} {xs : List V} {o : HO} (hd : H D = some (.lst xs)) (h : PrsAt H Z) : PrsAt (upd H D o) Z := fun p hp => by
  obtain ⟨h1, h2, h3⟩ := h p hp
  exact ⟨by rw [upd_ne (tup_neD hd h1)]; exact h1, by rw [upd_ne (tup_neD hd h2)]; exact h2, by rw [upd_ne (tup_neD hd h3)]; exact h3⟩
def pairsOf (S : List (List Int)) (ns : List Str) : List (List Int × List Str) := S.flatMap fun st => (setsOf ns).map fun y => (st, y)
theorem no_w' {n : Nat} {l d : Addr} {x : Str} (h1 : (x == ("width" : Str)) = false) (h2 : (x == ("starts" : Str)) = false) (h3 : (x == ("made" : Str)) = false) : (wFlds n l d).lookup x = none := by
  unfold wFlds
  simp [List.lookup, h1, h2, h3]
theorem prefs_snoc (A : Prs) (q : Addr × (Addr × List Int) × (Addr × List Str)) : qrefs (A ++ [q]) = qrefs A ++ [V.ref q.1] := by
  unfold qrefs
  rw [List.map_append] <;> rfl
theorem nrefs_last {Z : Nts} {ys : List V} {x : V} (h : ys ++ [x] = nrefs Z) : ∃ z ∈ Z, x = .ref z.1 := by
  have hx : x ∈ nrefs Z := by rw [← h]; exact List.mem_append_right _ (List.mem_singleton.mpr rfl)
  unfold nrefs at hx
  obtain ⟨z, hz, e⟩ := List.mem_map.mp hx
  exact ⟨z, hz, e.symm⟩
theorem str_inj : ∀ {xs ys : List Str}, xs.map V.str = ys.map V.str → xs = ys
  | [], [], _ => rfl
  | [], _ :: _, h => nomatch h
  | _ :: _, [], h => nomatch h
  | x :: xs, y :: ys, h => by
    rw [List.map_cons, List.map_cons] at h
    injection h with h1 h2
    rw [V.str.inj h1, str_inj h2]
/-- the same places hold the same texts -/
theorem same_nts {H : Hp} {st : Addr × List Int} : ∀ {new : Prs} {Z : Nts}, (new.map fun q => V.ref q.2.2.1) = nrefs Z → PrsAt H new → NtsAt H Z → (∀ q ∈ new, q.2.1 = st) → pcont new = (Z.map (·.2)).map fun y => (st.2, y)
  | [], [], _, _, _, _ => rfl
  | [], _ :: _, h, _, _, _ => nomatch h
  | _ :: _, [], h, _, _, _ => nomatch h
  | q :: new, z :: Z, h, hp, hz, hs => by
    have h : V.ref q.2.2.1 :: (new.map fun q => V.ref q.2.2.1) = V.ref z.1 :: nrefs Z := h
    injection h with h1 h2
    have e1 : q.2.2.1 = z.1 := V.ref.inj h1
    have a1 := (hp q List.mem_cons_self).2.2
    have a2 := hz z List.mem_cons_self
    rw [e1, a2] at a1
    injection a1 with a1
    injection a1 with a1
    have e2 := str_inj a1
    have e3 := hs q List.mem_cons_self
    have ih := same_nts h2 (fun p m => hp p (List.mem_cons_of_mem _ m)) (fun p m => hz p (List.mem_cons_of_mem _ m)) fun p m => hs p (List.mem_cons_of_mem _ m)
    show (q.2.1.2, q.2.2.2) :: pcont new = (st.2, z.2) :: (Z.map (·.2)).map fun y => (st.2, y)
    rw [ih, e3, ← e2]
section
variable {P : Program} {w : World} {K : PySem.W.Frag} {mg : Str → Option Value} {base : Heap}
def spStSets (K : PySem.W.Frag) : Sp := fun vs H Q _ => ∃ (p : Addr) (n : Nat) (S : Sts) (L : Ncs), vs = [.ref p] ∧ WorldAt K H p n S L ∧ WOk n S L ∧ ∀ (Z : Prs) r H', Same H H' → H r = none → H' r = some (.lst (qrefs Z)) → PrsAt H' Z → pcont Z = pairsOf (S.map (·.2)) (names L) → Q (.ref r) H'
theorem sc_sts : FnScope ["world", "pairs", "start", "names"] ["world"] (defScope s_stores_and_sets) := ⟨rfl, rfl, rfl, by decide +kernel, rfl, by decide +kernel, by decide +kernel⟩
theorem ok_stsets (T : Txt K mg) : Ok P w K mg base (a_stores_and_sets K) ["world"] 5 (spStSets K) := by
  have GS : Ok P w K mg base (a_World_stores K) _ 1 (spStores K) := ok_World_stores T
  obtain ⟨fd, GG, bd, kp⟩ := gok_sets2 (P := P) (w := w) (base := base) T
  refine ok_of T.f_stores_and_sets sc_sts (fun _ _ _ _ _ _ us hl => match us, hl with | [_], _ => rfl) (fun vs H Q E h => ?_) (fun cdv A outer s H vs Q E hr h => ?_)
  · obtain ⟨p, n, S, L, rfl, _⟩ := h
    rfl
  · obtain ⟨p, n, S, L, rfl, W, ok, kk⟩ := h
    have hr2 : Room 2 _ := hr.mono (by omega)
    refine ⟨_, pss_cons (ps_set (i := 1) sc_sts.nd rfl (Or.inl rfl) (pe_lst pa_nil))
      (pss_cons (ps_for PassesOwn.never rfl (pi_list (pe_pr (pv 0) T.o_World T.p_World_stores GS hr2)) (pg_name (i := 2) sc_sts.nd rfl (Or.inl rfl))
        (pss_one (ps_forG (iL := 1) (iA := 2) (iT := 3) (pv 0) T.o_World.cl T.m_World_sets GG hr bd rfl sc_sts.nd rfl)))
      (pss_one (ps_ret (pv 1)))), ?_⟩
    have lv : LevOk L.length := lev_ok ok.chgs.lo ok.chgs.hi
    have hnl : (names L).length = L.length := List.length_map ..
    have few : (setsOf (names L)).length ≤ 16 := by
      unfold setsOf
      rw [List.length_map, hnl]
      exact lv.all _ (Nat.le_refl _)
    refine ⟨(by show 0 ≤ sizeLine; exact Nat.zero_le _), fun D hD => ?_⟩
    have s0 : Same H _ := same_upd (o := .lst []) hD
    obtain ⟨⟨dx, ls, ld, hp, _, _⟩, _, _⟩ := id (W.ext s0)
    refine ⟨_, rfl, p, dx, _, rfl, hp, p, n, S, L, rfl, W.ext s0, fun l H1 s1 e1 => ⟨l, rfl, ⟨_, SqL.of e1⟩, ?_⟩⟩
    have hD1 : H1 D = some (.lst []) := s1 _ _ upd_same
    have lrS : (refs S).length = S.length := List.length_map ..
    have lD : l ≠ D := fun z => by
      rw [z, hD1] at e1
      injection e1 with e1
      injection e1 with e1
      have := ok.sts.lo
      rw [← lrS, ← e1] at this
      exact absurd this (by decide)
    have sH1 : Same H H1 := s0.trans s1
    refine for_it (walk_list (K := K) (a := l) (xs := refs S)) (fun i σ H' => ∃ (f g : Option V) (Z : Prs), σ = [some (.ref p), some (.ref D), f, g] ∧ Same H H' ∧ H' l = some (.lst (refs S)) ∧ H' D = some (.lst (qrefs Z)) ∧ PrsAt H' Z ∧ pcont Z = pairsOf ((S.map (·.2)).take i) (names L)) ⟨_, _, [], rfl, sH1, e1, hD1, fun q hq => (by cases hq), rfl⟩ (fun i σ H' _ ⟨_, _, _, _, _, h, _⟩ => SqL.of h) (fun i x σ H2 H3 hi inv yy => ?_) (fun σ H2 inv => ?_)
    · obtain ⟨f, g, old, rfl, s2, l2, d2, a2, c2⟩ := inv
      obtain ⟨rfl, hx⟩ := yy
      have hiS : i < S.length := by rw [← lrS]; exact hi
      unfold refs at hx
      rw [List.getElem?_map, List.getElem?_eq_getElem hiS] at hx
      obtain rfl := (Option.some.inj hx).symm
      have W2 := W.ext s2
      obtain ⟨⟨dx2, ls2, ld2, hp2, _, _⟩, hS2, _⟩ := id W2
      have lold : old.length ≤ 128 := by
        have h1 : old.length = (pcont old).length := (List.length_map ..).symm
        rw [h1, c2]
        unfold pairsOf
        have f1 := flat_le (f := fun st : List Int => (setsOf (names L)).map fun y => (st, y)) (m := 16) (fun st => by rw [List.length_map]; exact few) ((S.map (·.2)).take i)
        refine Nat.le_trans f1 ?_
        have h8 := ok.sts.hi
        rw [List.length_take, List.length_map]
        exact Nat.le_trans (Nat.mul_le_mul_right 16 (Nat.le_trans (Nat.min_le_right _ _) h8)) (by decide)
      refine ⟨D, fun ys σ Hs => ∃ (new : Prs) (g : Option V), σ = [some (.ref p), some (.ref D), some (.ref S[i].1), g] ∧ Same H Hs ∧ Hs l = some (.lst (refs S)) ∧ Hs D = some (.lst (qrefs (old ++ new))) ∧ PrsAt Hs (old ++ new) ∧ (new.map fun q => V.ref q.2.2.1) = ys ∧ ∀ q ∈ new, q.2.1 = S[i],
        fun ys H1 => ∃ Z : Nts, ys = nrefs Z ∧ Z.map (·.2) <+: setsOf (names L) ∧ NtsAt H1 Z, fun ys H1 => ∃ Z : Nts, ys = nrefs Z ∧ Z.map (·.2) = setsOf (names L) ∧ NtsAt H1 Z, ?_, ?_, ?_⟩
      · refine ⟨_, rfl, p, dx2, _, rfl, hp2, ?_, ⟨_, d2⟩, ⟨p, n, S, L, rfl, W2, ok, ⟨_, d2⟩, fun Z Hs H4 pre sm hZ => ⟨sm, Z, rfl, pre, hZ⟩, fun Z Hs H4 e sm hZ => ⟨sm, Z, rfl, e, hZ⟩⟩, ⟨[], g, rfl, s2, l2, by rw [List.append_nil]; exact d2, by rw [List.append_nil]; exact a2, rfl, fun q hq => (by cases hq)⟩⟩
        exact no_w' (by decide +kernel) (by decide +kernel) (by decide +kernel)
      · rintro ys x σ Hs H4 ⟨new, g, rfl, s3, l3, d3, a3, c3, t3⟩ sm ⟨Z, eZ, pre, hZ⟩
        obtain ⟨z, hz, rfl⟩ := nrefs_last eZ
        have d4 := sm _ _ d3
        have lny : new.length + 1 ≤ 16 := by
          have h1 : new.length = ys.length := by rw [← c3, List.length_map]
          have h2 : (ys ++ [V.ref z.1]).length = Z.length := by rw [eZ]; exact List.length_map ..
          have h3 := pre.length_le
          rw [List.length_map] at h3
          rw [List.length_append, List.length_singleton] at h2
          omega
        refine ⟨qrefs (old ++ new), .ref S[i].1, rfl, rfl, rfl, d4, small1000 ?_, fun t ht => ?_⟩
        · unfold qrefs
          rw [List.length_map, List.length_append]
          omega
        · have st : Same H4 _ := same_upd (o := .tup [.ref S[i].1, .ref z.1]) ht
          have tD : t ≠ D := ne_list (H' := H) d4 ht
          have nD : ∀ b u, H b = some u → b ≠ D := fun b u hb z => by rw [z, hD] at hb; cases hb
          refine ⟨new ++ [(t, S[i], z)], _, rfl, fun b u hb => ?_, ?_, ?_, ?_, ?_, fun q hq => ?_⟩
          · rw [upd_ne (nD b u hb)]
            exact st _ _ (sm _ _ (s3 _ _ hb))
          · rw [upd_ne lD]
            exact st _ _ (sm _ _ l3)
          · rw [upd_same, ← List.append_assoc, prefs_snoc]
          · rw [← List.append_assoc]
            intro q hq
            rcases List.mem_append.mp hq with hq | hq
            · exact (((a3.ext sm).ext st).off (st _ _ d4)) q hq
            · obtain rfl := List.mem_singleton.mp hq
              have h2 := st _ _ (sm _ _ (s3 _ _ (W.sts S[i] (List.getElem_mem hiS))))
              have h3 := st _ _ (hZ z hz)
              exact ⟨by rw [upd_ne tD]; exact upd_same, by rw [upd_ne (tup_neD (st _ _ d4) h2)]; exact h2, by rw [upd_ne (tup_neD (st _ _ d4) h3)]; exact h3⟩
          · rw [List.map_append, c3] <;> rfl
          · rcases List.mem_append.mp hq with hq | hq
            · exact t3 q hq
            · obtain rfl := List.mem_singleton.mp hq
              rfl
      · rintro ys σ Hs H4 ⟨new, g, rfl, s3, l3, d3, a3, c3, t3⟩ sm ⟨Z, eZ, pre, hZ⟩
        refine ⟨_, _, old ++ new, rfl, s3.trans sm, sm _ _ l3, sm _ _ d3, a3.ext sm, ?_⟩
        have e5 := same_nts (c3.trans eZ) (fun q hq => (a3.ext sm) q (List.mem_append_right _ hq)) hZ t3
        have e6 : (S.map (·.2)).take (i + 1) = (S.map (·.2)).take i ++ [S[i].2] := by
          rw [List.take_add_one, List.getElem?_map, List.getElem?_eq_getElem hiS] <;> rfl
        rw [pre] at e5
        rw [show pcont (old ++ new) = pcont old ++ pcont new from List.map_append .., c2, e5, e6]
        unfold pairsOf
        rw [List.flatMap_append, List.flatMap_singleton]
    · obtain ⟨f, g, Z, rfl, s2, l2, d2, a2, c2⟩ := inv
      refine ⟨_, rfl, ?_⟩
      rw [lrS, List.take_of_length_le (by rw [List.length_map]; exact Nat.le_refl _)] at c2
      exact kk Z D H2 s2 hD d2 a2 c2
end
end OP
namespace OP
open PySem PySem.Spec PyProof.Rows GenW L2
section
variable {P : Program} {w : World} {K : PySem.W.Frag} {mg : Str → Option Value} {base : Heap}
/-- an order that the world can walk -/
structure OrdOk (L : Ncs) (ys : List Str) : Prop where
  nd : ys.Nodup
  few : ys.length ≤ 4
  mem : ∀ y ∈ ys, y ∈ names L
def spSplitOf (K : PySem.W.Frag) : Sp := fun vs H Q _ => ∃ (p st r : Addr) (xs : List Int) (z0 : Addr × List Str) (Z : Nts) (n : Nat) (S : Sts) (L : Ncs), vs = [.ref p, .ref st, .ref r] ∧ WorldAt K H p n S L ∧ WOk n S L ∧ H st = some (.tup (xs.map V.int)) ∧ StoreOk xs ∧ xs.length = n ∧
  H r = some (.lst (nrefs (z0 :: Z))) ∧ NtsAt H (z0 :: Z) ∧ (∀ z ∈ z0 :: Z, OrdOk L z.2) ∧ Z.length ≤ 300 ∧
  (∀ H', Same H H' → (∀ z ∈ z0 :: Z, appAll L z.2 xs = appAll L z0.2 xs) → Q .non H') ∧
  (∀ H' t i z, Same H H' → (z0 :: Z)[i]? = some z → (∀ y ∈ (z0 :: Z).take i, appAll L y.2 xs = appAll L z0.2 xs) → appAll L z.2 xs ≠ appAll L z0.2 xs → H' t = some (.tup [.ref st, .ref z0.1, .ref z.1]) → Q (.ref t) H')
theorem sc_spl : FnScope ["world", "start", "choices", "end", "order"] ["world", "start", "choices"] (defScope s_split_of) := ⟨rfl, rfl, rfl, by decide +kernel, rfl, by decide +kernel, by decide +kernel⟩
theorem ok_split_of (T : Txt K mg) : Ok P w K mg base (a_split_of K) ["world", "start", "choices"] 7 (spSplitOf K) := by
  have GE : Ok P w K mg base (a_World_end K) _ 6 (spEnd K) := ok_World_end T
  refine ok_of T.f_split_of sc_spl (fun _ _ _ _ _ _ us hl => match us, hl with | [_, _, _], _ => rfl) (fun vs H Q E h => ?_) (fun cdv A outer s H vs Q E hr h => ?_)
  · obtain ⟨p, st, r, xs, z0, Z, n, S, L, rfl, _⟩ := h
    rfl
  · obtain ⟨p, st, r, xs, z0, Z, n, S, L, rfl, W, ok, hst, sok, hxn, hrl, hZ, ho, hz, kN, kS⟩ := h
    refine ⟨_, pss_cons (ps_set (i := 3) sc_spl.nd rfl (Or.inl rfl) (pe_mt (pv 0) T.o_World T.m_World_end GE hr (pa_cons (pv 1) (pa_cons (pe_ix ix_list (pv 2) pe_int (fun _ _ => rfl)) pa_nil))))
      (pss_cons (ps_for PassesOwn.never rfl (pi_list (pv 2)) (pg_name (i := 4) sc_spl.nd rfl (Or.inl rfl))
        (pss_one (ps_if (pt_cmpR (op_neD (room64 hr)) (pe_mt (pv 0) T.o_World T.m_World_end GE hr (pa_cons (pv 1) (pa_cons (pv 4) pa_nil))) (pv 3) (nomark _))
          (pss_one (ps_ret (pe_tup (pa_cons (pv 1) (pa_cons (pe_ix ix_list (pv 2) pe_int (fun _ _ => rfl)) (pa_cons (pv 4) pa_nil)))))) pss_nil)))
      (pss_one (ps_ret pe_non))), ?_⟩
    have m0 : z0 ∈ z0 :: Z := List.mem_cons_self
    have o0 := ho z0 m0
    obtain ⟨⟨dx, ls, ld, hp, _, _⟩, _, _⟩ := id W
    have ne : ∀ {n : Nat} {l d : Addr}, (wFlds n l d).lookup ("end" : Str) = none := no_w' (by decide +kernel) (by decide +kernel) (by decide +kernel)
    refine ⟨_, rfl, p, dx, _, rfl, hp, ne, ?_⟩
    have lz : (nrefs (z0 :: Z)).length = Z.length + 1 := by
      unfold nrefs
      rw [List.length_map, List.length_cons]
    have at0 : atI (nrefs (z0 :: Z)) 0 = some (V.ref z0.1) := by
      unfold atI ixN
      rw [if_pos (by decide), if_pos (by rw [lz]; omega)]
      rfl
    refine ⟨_, rfl, _, rfl, r, _, 0, _, rfl, rfl, SqL.of hrl, at0, ?_⟩
    refine ⟨p, st, z0.1, xs, z0.2, n, S, L, rfl, W, ok, hst, sok, hxn, hZ z0 m0, o0.nd, o0.few, o0.mem, fun en H1 s1 e1 => ?_⟩
    refine ⟨_, rfl, r, rfl, ⟨_, SqL.of (s1 _ _ hrl)⟩, ?_⟩
    refine for_it (walk_list (K := K) (a := r) (xs := nrefs (z0 :: Z))) (fun i σ H' => ∃ g, σ = [some (.ref p), some (.ref st), some (.ref r), some (.ref en), g] ∧ Same H1 H' ∧ ∀ y ∈ (z0 :: Z).take i, appAll L y.2 xs = appAll L z0.2 xs) ⟨_, rfl, Same.refl _, fun y hy => (by cases hy)⟩ (fun i σ H' _ ⟨_, _, s, _⟩ => SqL.of (s _ _ (s1 _ _ hrl))) (fun i x σ H2 H3 hi inv yy => ?_) (fun σ H2 inv => ?_)
    · obtain ⟨g, rfl, s2, al⟩ := inv
      obtain ⟨rfl, hx⟩ := yy
      obtain ⟨hiZ, rfl⟩ := nts_at hx
      have mz : (z0 :: Z)[i] ∈ z0 :: Z := List.getElem_mem hiZ
      have oz := ho _ mz
      have s3 := s1.trans s2
      refine ⟨_, rfl, p, dx, _, rfl, s3 _ _ hp, ne, _, rfl, _, rfl, p, st, (z0 :: Z)[i].1, xs, (z0 :: Z)[i].2, n, S, L, rfl, W.ext s3, ok, s3 _ _ hst, sok, hxn, s3 _ _ (hZ _ mz), oz.nd, oz.few, oz.mem, fun e2 H4 s4 h4 => ?_⟩
      refine ⟨_, rfl, dT (appAll L (z0 :: Z)[i].2 xs), dT (appAll L z0.2 xs), dp_T h4, dp_T (s4 _ _ (s2 _ _ e1)), shp_T _, shp_T _, _, rfl, ?_⟩
      rw [eqv_T]
      by_cases q : appAll L (z0 :: Z)[i].2 xs = appAll L z0.2 xs
      · rw [decide_eq_true q]
        refine iteF ⟨_, rfl, s2.trans s4, fun y hy => ?_⟩
        rw [List.take_add_one, List.getElem?_eq_getElem hiZ] at hy
        rcases List.mem_append.mp hy with hy | hy
        · exact al y hy
        · obtain rfl := List.mem_singleton.mp hy
          exact q
      · rw [decide_eq_false q]
        have s5 := s3.trans s4
        refine iteT ⟨_, rfl, _, rfl, r, _, 0, _, rfl, rfl, SqL.of (s5 _ _ hrl), at0, _, rfl, (by show 3 ≤ sizeLine; decide), fun t ht => ?_⟩
        exact kS _ t i _ (s5.push ht) (List.getElem?_eq_getElem hiZ) al q upd_same
    · obtain ⟨g, rfl, s2, al⟩ := inv
      rw [lz, List.take_of_length_le (by rw [List.length_cons]; exact Nat.le_refl _)] at al
      exact kN _ (s1.trans s2) al
end
end OP
namespace OP
open PySem PySem.Spec PyProof.Rows GenW L2
/-- the first split at an initial store and a set -/
def split1 (L : Ncs) (E : Ents) (q : List Int × List Str) : Option (List Int × List Str × List Str) := match allowN E 4 q.2 with
  | [] => none
  | o0 :: os => ((o0 :: os).find? fun o => !decide (appAll L o q.1 = appAll L o0 q.1)).map fun o => (q.1, o0, o)
def splitM (L : Ncs) (E : Ents) (qs : List (List Int × List Str)) : Option (List Int × List Str × List Str) := qs.findSome? (split1 L E)
/-- each set has an allowed order, and all of them can be walked -/
structure AllowOk (L : Ncs) (E : Ents) : Prop where
  some : ∀ ys ∈ setsOf (names L), allowN E 4 ys ≠ []
  ord : ∀ ys ∈ setsOf (names L), ∀ o ∈ allowN E 4 ys, OrdOk L o
  few : ∀ ys ∈ setsOf (names L), ys.length ≤ 4
theorem find_at {α : Type} {f : α → Bool} : ∀ {xs : List α} {i : Nat} {x : α}, xs[i]? = some x → (∀ y ∈ xs.take i, f y = false) → f x = true → xs.find? f = some x
  | [], i, x, h, _, _ => by simp at h
  | a :: xs, 0, x, h, _, hx => by
    obtain rfl := Option.some.inj h
    rw [List.find?_cons, hx]
  | a :: xs, i + 1, x, h, hy, hx => by
    rw [List.find?_cons, hy a (by rw [List.take_succ_cons]; exact List.mem_cons_self)]
    exact find_at (by simpa using h) (fun y m => hy y (by rw [List.take_succ_cons]; exact List.mem_cons_of_mem _ m)) hx
theorem findS_at {α β : Type} {f : α → Option β} {b : β} : ∀ {xs : List α} {i : Nat} {x : α}, xs[i]? = some x → (∀ y ∈ xs.take i, f y = none) → f x = some b → xs.findSome? f = some b
  | [], i, x, h, _, _ => by simp at h
  | a :: xs, 0, x, h, _, hx => by
    obtain rfl := Option.some.inj h
    rw [List.findSome?_cons, hx]
  | a :: xs, i + 1, x, h, hy, hx => by
    rw [List.findSome?_cons, hy a (by rw [List.take_succ_cons]; exact List.mem_cons_self)]
    exact findS_at (by simpa using h) (fun y m => hy y (by rw [List.take_succ_cons]; exact List.mem_cons_of_mem _ m)) hx
section
variable {P : Program} {w : World} {K : PySem.W.Frag} {mg : Str → Option Value} {base : Heap}
def spFind (K : PySem.W.Frag) : Sp := fun vs H Q _ => ∃ (p d : Addr) (n : Nat) (S : Sts) (L : Ncs) (E : Ents), vs = [.ref p, .ref d] ∧ WorldAt K H p n S L ∧ WOk n S L ∧ PolAt H d E ∧ AllowOk L E ∧
  (∀ H', Same H H' → splitM L E (pairsOf (S.map (·.2)) (names L)) = none → Q .non H') ∧
  (∀ H' t (st : Addr × List Int) (z0 z : Addr × List Str), Same H H' → splitM L E (pairsOf (S.map (·.2)) (names L)) = some (st.2, z0.2, z.2) → H' t = some (.tup [.ref st.1, .ref z0.1, .ref z.1]) → H' st.1 = some (.tup (st.2.map V.int)) → NtsAt H' [z0, z] → Q (.ref t) H')
theorem sc_fs : FnScope ["world", "policy", "start", "names", "split"] ["world", "policy"] (defScope s_find_split) := ⟨rfl, rfl, rfl, by decide +kernel, rfl, by decide +kernel, by decide +kernel⟩
theorem ok_find (T : Txt K mg) : Ok P w K mg base (a_find_split K) ["world", "policy"] 8 (spFind K) := by
  have GS : Ok P w K mg base (a_stores_and_sets K) _ 5 (spStSets K) := ok_stsets T
  have GO : Ok P w K mg base (a_split_of K) _ 7 (spSplitOf K) := ok_split_of T
  have GA : Ok P w K mg base (a_allowed_orders K) _ 6 (spAllow K 4) := ok_allow T
  refine ok_of T.f_find_split sc_fs (fun _ _ _ _ _ _ us hl => match us, hl with | [_, _], _ => rfl) (fun vs H Q E h => ?_) (fun cdv A outer s H vs Q E hr h => ?_)
  · obtain ⟨p, d, n, S, L, E', rfl, _⟩ := h
    rfl
  · obtain ⟨p, d, n, S, L, E', rfl, W, ok, hd, al, kN, kS⟩ := h
    have hr5 : Room 5 _ := hr.mono (by omega)
    have hr6 : Room 6 _ := hr.mono (by omega)
    refine ⟨_, pss_cons (ps_for PassesOwn.never rfl (pi_list (pe_c GS hr5 T.g_stores_and_sets (pa_cons (pv 0) pa_nil))) (pg_tup rfl (pgs_cons (pg_name (i := 2) sc_fs.nd rfl (Or.inl rfl)) (pgs_cons (pg_name (i := 3) sc_fs.nd rfl (Or.inl rfl)) pgs_nil)))
        (pss_cons (ps_set (i := 4) sc_fs.nd rfl (Or.inl rfl) (pe_c GO hr T.g_split_of (pa_cons (pv 0) (pa_cons (pv 2) (pa_cons (pe_c GA hr6 T.g_allowed_orders (pa_cons (pv 1) (pa_cons (pv 3) pa_nil))) pa_nil)))))
          (pss_one (ps_if (pt_cmpR op_notN (pv 4) pe_non (nomark _)) (pss_one (ps_ret (pv 4))) pss_nil))))
      (pss_one (ps_ret pe_non)), ?_⟩
    refine ⟨_, rfl, p, n, S, L, rfl, W, ok, fun Z l H1 s1 _ e1 a1 c1 => ⟨l, rfl, ⟨_, SqL.of e1⟩, ?_⟩⟩
    have lp : (qrefs Z).length = Z.length := List.length_map ..
    have lc : (pcont Z).length = Z.length := List.length_map ..
    refine for_it (walk_list (K := K) (a := l) (xs := qrefs Z)) (fun i σ H' => ∃ f g e, σ = [some (.ref p), some (.ref d), f, g, e] ∧ Same H1 H' ∧ ∀ q ∈ (pcont Z).take i, split1 L E' q = none) ⟨_, _, _, rfl, Same.refl _, fun y hy => (by rw [List.take_zero] at hy; cases hy)⟩ (fun i σ H' _ ⟨_, _, _, _, s, _⟩ => SqL.of (s _ _ e1)) (fun i x σ H2 H3 hi inv yy => ?_) (fun σ H2 inv => ?_)
    · obtain ⟨f, g, e, rfl, s2, no⟩ := inv
      obtain ⟨rfl, hx⟩ := yy
      have hiZ : i < Z.length := by rw [← lp]; exact hi
      unfold qrefs at hx
      rw [List.getElem?_map, List.getElem?_eq_getElem hiZ] at hx
      obtain rfl := (Option.some.inj hx).symm
      obtain ⟨b1, b2, b3⟩ := (a1.ext s2) Z[i] (List.getElem_mem hiZ)
      have hq : (pcont Z)[i]? = some (Z[i].2.1.2, Z[i].2.2.2) := by
        unfold pcont
        rw [List.getElem?_map, List.getElem?_eq_getElem hiZ] <;> rfl
      have hqi := hq
      have hin : (Z[i].2.1.2, Z[i].2.2.2) ∈ pairsOf (S.map (·.2)) (names L) := by
        rw [← c1]
        exact List.mem_of_getElem? hq
      obtain ⟨st0, hst0, hm2⟩ := List.mem_flatMap.mp hin
      obtain ⟨ys0, hys0, ee⟩ := List.mem_map.mp hm2
      injection ee with ee1 ee2
      rw [ee1] at hst0
      rw [ee2] at hys0
      have s3 := s1.trans s2
      refine ⟨Z[i].1, _, rfl, SqT.of b1, rfl, _, _, rfl, _, _, rfl, rfl, ?_⟩
      refine ⟨_, rfl, _, rfl, _, rfl, _, rfl, d, Z[i].2.2.1, E', Z[i].2.2.2, rfl, hd.ext s3, SqT.of b3, al.few _ hys0, fun H4 r O s4 h4 n4 c4 => ?_⟩
      obtain ⟨so, hso, eso⟩ := List.mem_map.mp hst0
      obtain ⟨sok, sln⟩ := ok.sts.each so hso
      rw [eso] at sok sln
      have lO : O.length ≤ 256 := by
        rw [nts_count c4]
        exact allow_le E' 4 _ (al.few _ hys0)
      cases O with
      | nil => exact absurd c4.symm (al.some _ hys0)
      | cons z0 O =>
        have c5 : allowN E' 4 Z[i].2.2.2 = z0.2 :: O.map (·.2) := c4.symm
        have s5 := s3.trans s4
        have oo : ∀ z ∈ z0 :: O, OrdOk L z.2 := fun z hz => al.ord _ hys0 z.2 (by
          rw [← c4]
          exact List.mem_map.mpr ⟨z, hz, rfl⟩)
        refine ⟨p, Z[i].2.1.1, r, Z[i].2.1.2, z0, O, n, S, L, rfl, W.ext s5, ok, s4 _ _ b2, sok, sln, h4, n4, oo, (by rw [List.length_cons] at lO; omega), fun H5 s6 alike => ?_, fun H5 t j z s6 hj before dif ht => ?_⟩
        · refine ⟨_, rfl, rfl, _, rfl, iteF ⟨_, _, _, rfl, (s2.trans s4).trans s6, fun q hq => ?_⟩⟩
          rw [List.take_add_one] at hq
          rcases List.mem_append.mp hq with hq | hq2
          · exact no q hq
          · rw [hqi] at hq2
            obtain rfl := List.mem_singleton.mp hq2
            show (match allowN E' 4 Z[i].2.2.2 with | [] => none | o0 :: os => ((o0 :: os).find? fun o => !decide (appAll L o Z[i].2.1.2 = appAll L o0 Z[i].2.1.2)).map fun o => (Z[i].2.1.2, o0, o)) = none
            rw [c5]
            have f1 : (z0.2 :: O.map (·.2)).find? (fun o => !decide (appAll L o Z[i].2.1.2 = appAll L z0.2 Z[i].2.1.2)) = none := List.find?_eq_none.mpr fun y hy => by
              obtain ⟨y', hy', rfl⟩ := List.mem_map.mp (show y ∈ (z0 :: O).map (·.2) from hy)
              rw [decide_eq_true (alike y' hy')]
              decide
            show ((z0.2 :: O.map (·.2)).find? _).map _ = _
            rw [f1]
            rfl
        · refine ⟨_, rfl, rfl, _, rfl, iteT ⟨_, rfl, ?_⟩⟩
          refine kS H5 t Z[i].2.1 z0 z (s5.trans s6) ?_ ht (s6 _ _ (s4 _ _ b2)) (fun q hq => ?_)
          · rw [← c1]
            refine findS_at hq no ?_
            unfold split1
            show (match allowN E' 4 Z[i].2.2.2 with | [] => none | o0 :: os => ((o0 :: os).find? fun o => !decide (appAll L o Z[i].2.1.2 = appAll L o0 Z[i].2.1.2)).map fun o => (Z[i].2.1.2, o0, o)) = _
            rw [c5]
            have f1 : (z0.2 :: O.map (·.2)).find? (fun o => !decide (appAll L o Z[i].2.1.2 = appAll L z0.2 Z[i].2.1.2)) = some z.2 := by
              refine find_at (i := j) ?_ (fun y hy => ?_) ?_
              · rw [show z0.2 :: O.map (·.2) = (z0 :: O).map (·.2) from rfl, List.getElem?_map, hj] <;> rfl
              · rw [show z0.2 :: O.map (·.2) = (z0 :: O).map (·.2) from rfl, ← List.map_take] at hy
                obtain ⟨y', hy', rfl⟩ := List.mem_map.mp hy
                rw [decide_eq_true (before y' hy')] <;> rfl
              · rw [decide_eq_false dif] <;> rfl
            show ((z0.2 :: O.map (·.2)).find? _).map _ = _
            rw [f1]
            rfl
          · have hmz : q ∈ z0 :: O := by
              rcases List.mem_cons.mp hq with e | hq
              · rw [e]; exact List.mem_cons_self
              · rw [List.mem_singleton.mp hq]; exact List.mem_of_getElem? hj
            exact s6 _ _ (n4 q hmz)
    · obtain ⟨f, g, e, rfl, s2, no⟩ := inv
      rw [lp, ← lc, List.take_length] at no
      refine kN _ (s1.trans s2) ?_
      rw [← c1]
      exact List.findSome?_eq_none_iff.mpr no
end
end OP
namespace OP
open PySem PySem.Spec PyProof.Rows GenW L2
section
variable {P : Program} {w : World} {K : PySem.W.Frag} {mg : Str → Option Value} {base : Heap}
def spEnough (K : PySem.W.Frag) : Sp := fun vs H Q _ => ∃ (p d : Addr) (n : Nat) (S : Sts) (L : Ncs) (E : Ents), vs = [.ref p, .ref d] ∧ WorldAt K H p n S L ∧ WOk n S L ∧ (names L).Nodup ∧ H d = some (.dT (pol E)) ∧ PolOk E (names L) ∧ AllowOk L E ∧
  ∀ H', Same H H' → Q (.bl (splitM L E (pairsOf (S.map (·.2)) (names L))).isNone) H'
theorem sc_eno : FnScope ["world", "policy"] ["world", "policy"] (defScope s_is_enough) := ⟨rfl, rfl, rfl, by decide +kernel, rfl, by decide +kernel, by decide +kernel⟩
theorem ok_enough (T : Txt K mg) : Ok P w K mg base (a_is_enough K) ["world", "policy"] 9 (spEnough K) := by
  have GW : Ok P w K mg base (a_check_world K) _ 1 (spCWorld K) := ok_cworld T
  have GP : Ok P w K mg base (a_check_policy K) _ 3 (spCPol K) := ok_cpol T
  have GF : Ok P w K mg base (a_find_split K) _ 8 (spFind K) := ok_find T
  refine ok_of T.f_is_enough sc_eno (fun _ _ _ _ _ _ us hl => match us, hl with | [_, _], _ => rfl) (fun vs H Q E h => ?_) (fun cdv A outer s H vs Q E hr h => ?_)
  · obtain ⟨p, d, n, S, L, E', rfl, _⟩ := h
    rfl
  · obtain ⟨p, d, n, S, L, E', rfl, W, ok, nd, hd, po, al, kk⟩ := h
    have hr1 : Room 1 _ := hr.mono (by omega)
    have hr3 : Room 3 _ := hr.mono (by omega)
    refine ⟨_, pss_cons (ps_expr (pe_c GW hr1 T.g_check_world (pa_cons (pv 0) pa_nil))) (pss_cons (ps_expr (pe_c GP hr3 T.g_check_policy (pa_cons (pv 0) (pa_cons (pv 1) pa_nil)))) (pss_one (ps_ret (pe_cmpR op_isN (pe_c GF hr T.g_find_split (pa_cons (pv 0) (pa_cons (pv 1) pa_nil))) pe_non (nomark _))))), ?_⟩
    refine ⟨_, rfl, p, n, S, L, rfl, W, ?_⟩
    refine ⟨_, rfl, _, rfl, p, d, n, S, L, E', rfl, W, nd, ok.chgs.hi, hd, po, fun H1 s1 => ?_⟩
    refine ⟨_, rfl, _, rfl, p, d, n, S, L, E', rfl, W.ext s1, ok, .inl (s1 _ _ hd), al, fun H' s2 e => ⟨rfl, ?_⟩, fun H' t st z0 z s2 e a b c => ⟨rfl, ?_⟩⟩
    · have := kk _ (s1.trans s2)
      rw [e] at this
      exact this
    · have := kk _ (s1.trans s2)
      rw [e] at this
      exact this
end
end OP
namespace OP
open PySem PySem.Spec PyProof.Rows GenW L2
theorem free_iff {E : Ents} {ys : List Str} {y : Str} : y ∈ freeN E ys ↔ y ∈ ys ∧ ∀ o ∈ ys, bef E o y = false := by
  unfold freeN
  rw [List.mem_filter]
  simp
theorem free_some (E : Ents) : ∀ (n : Nat) {zs ys : List Str}, cyc E n zs = false → zs.length ≤ n → (∀ y ∈ ys, y ∈ zs) → ys ≠ [] → freeN E ys ≠ []
  | n, zs, ys, hc, hl, sub, ne => by
    have zne : zs ≠ [] := fun z => by
      obtain ⟨y, hy⟩ := List.exists_mem_of_ne_nil _ ne
      have := sub y hy
      rw [z] at this
      cases this
    have fz : freeN E zs ≠ [] := fun z => by
      rw [cyc_none hl zne z] at hc
      cases hc
    by_cases h : ∃ y ∈ ys, y ∈ freeN E zs
    · obtain ⟨y, hy, hf⟩ := h
      have : y ∈ freeN E ys := free_iff.mpr ⟨hy, fun o ho => (free_iff.mp hf).2 o (sub o ho)⟩
      exact fun z => by rw [z] at this; cases this
    · obtain ⟨m, rfl, lm, ec⟩ := cyc_step hl fz
      rw [ec] at hc
      exact free_some E m hc lm (fun y hy => List.mem_filter.mpr ⟨sub y hy, by
        have : y ∉ freeN E zs := fun q => h ⟨y, hy, q⟩
        simp [this]⟩) ne
theorem without_sub {ys : List Str} {y x : Str} (h : x ∈ withoutN ys y) : x ∈ ys ∧ x ≠ y := by
  unfold withoutN at h
  obtain ⟨h1, h2⟩ := List.mem_filter.mp h
  exact ⟨h1, by simpa using h2⟩
theorem allow_some {E : Ents} {ns : List Str} (fr : ∀ ys : List Str, (∀ y ∈ ys, y ∈ ns) → ys ≠ [] → freeN E ys ≠ []) : ∀ (n : Nat) (ys : List Str), ys.length ≤ n → (∀ y ∈ ys, y ∈ ns) → allowN E n ys ≠ []
  | 0, ys, _, _ => by
    show ([[]] : List (List Str)) ≠ []
    exact List.cons_ne_nil _ _
  | n + 1, ys, hl, sub => by
    show (if ys = [] then [[]] else (freeN E ys).flatMap fun y => (allowN E n (withoutN ys y)).map (y :: ·)) ≠ []
    by_cases ne : ys = []
    · rw [if_pos ne]
      exact List.cons_ne_nil _ _
    · rw [if_neg ne]
      obtain ⟨y, hy⟩ := List.exists_mem_of_ne_nil _ (fr ys sub ne)
      have lt := without_lt (free_mem hy)
      obtain ⟨o, ho⟩ := List.exists_mem_of_ne_nil _ (allow_some fr n (withoutN ys y) (by omega) fun x hx => sub x (without_sub hx).1)
      have : (y :: o) ∈ (freeN E ys).flatMap fun y => (allowN E n (withoutN ys y)).map (y :: ·) := List.mem_flatMap.mpr ⟨y, hy, List.mem_map.mpr ⟨o, ho, rfl⟩⟩
      exact fun z => by rw [z] at this; cases this
theorem allow_ord (E : Ents) : ∀ (n : Nat) (ys o : List Str), o ∈ allowN E n ys → o.Nodup ∧ ∀ x ∈ o, x ∈ ys
  | 0, _, o, ho => by
    obtain rfl := List.mem_singleton.mp ho
    exact ⟨List.nodup_nil, fun x hx => (by cases hx)⟩
  | n + 1, ys, o, ho => by
    have ho : o ∈ (if ys = [] then [[]] else (freeN E ys).flatMap fun y => (allowN E n (withoutN ys y)).map (y :: ·)) := ho
    split at ho
    · obtain rfl := List.mem_singleton.mp ho
      exact ⟨List.nodup_nil, fun x hx => (by cases hx)⟩
    · obtain ⟨y, hy, h2⟩ := List.mem_flatMap.mp ho
      obtain ⟨r, hr, rfl⟩ := List.mem_map.mp h2
      obtain ⟨h3, h4⟩ := allow_ord E n _ r hr
      refine ⟨List.nodup_cons.mpr ⟨fun z => (without_sub (h4 y z)).2 rfl, h3⟩, fun x hx => ?_⟩
      rcases List.mem_cons.mp hx with e | hx
      · rw [e]; exact free_mem hy
      · exact (without_sub (h4 x hx)).1
theorem sets_mem {ns : List Str} (h2 : 2 ≤ ns.length) (h4 : ns.length ≤ 4) {ys : List Str} (h : ys ∈ setsOf ns) : ys.length ≤ 4 ∧ ∀ y ∈ ys, y ∈ ns := by
  unfold setsOf at h
  obtain ⟨p, hp, rfl⟩ := List.mem_map.mp h
  have all : ∀ p ∈ upTo ns.length (ns.length + 1), p.length ≤ 4 ∧ ∀ z ∈ p, z.toNat < ns.length := by
    obtain e | e | e : ns.length = 2 ∨ ns.length = 3 ∨ ns.length = 4 := by omega
    · rw [e]; decide +kernel
    · rw [e]; decide +kernel
    · rw [e]; decide +kernel
  obtain ⟨a1, a2⟩ := all p hp
  refine ⟨by unfold pick; rw [List.length_map]; exact a1, fun y hy => ?_⟩
  unfold pick at hy
  obtain ⟨z, hz, rfl⟩ := List.mem_map.mp hy
  rw [List.getD_eq_getElem?_getD, List.getElem?_eq_getElem (a2 z hz)]
  exact List.getElem_mem _
theorem allow_ok {n : Nat} {S : Sts} {L : Ncs} {E : Ents} (ok : WOk n S L) (po : PolOk E (names L)) : AllowOk L E := by
  have hl : (names L).length = L.length := List.length_map ..
  have lo := ok.chgs.lo
  have hi := ok.chgs.hi
  have sm : ∀ ys ∈ setsOf (names L), ys.length ≤ 4 ∧ ∀ y ∈ ys, y ∈ names L := fun ys h => sets_mem (by omega) (by omega) h
  refine ⟨fun ys h => allow_some (fun zs sub ne => free_some E 4 po.acyc (by omega) sub ne) 4 ys (sm ys h).1 (sm ys h).2, fun ys h o ho => ?_, fun ys h => (sm ys h).1⟩
  obtain ⟨a1, a2⟩ := allow_ord E 4 ys o ho
  exact ⟨a1, allow_len E 4 ys (sm ys h).1 o ho, fun y hy => (sm ys h).2 y (a2 y hy)⟩
end OP
/-! dicts whose keys are pairs of a tuple of ints and a tuple of texts, their values tuples of ints -/
namespace OP
open PySem PySem.Spec PyProof.Rows L2
/-- a key of a table -/
abbrev TK := List Int × List Str
def nk (q : TK) : NestedKey := .tup [.tup (q.1.map NestedKey.num), .tup (q.2.map NestedKey.text)]
theorem map_inj' {α β : Type} {f : α → β} (hf : ∀ a b, f a = f b → a = b) : ∀ {x y : List α}, x.map f = y.map f → x = y
  | [], [], _ => rfl
  | [], _ :: _, h => by cases h
  | _ :: _, [], h => by cases h
  | a :: x, b :: y, h => by
    rw [List.map_cons, List.map_cons] at h
    injection h with h1 h2
    rw [hf a b h1, map_inj' hf h2]
theorem nk_inj {p q : TK} (h : nk p = nk q) : p = q := by
  unfold nk at h
  injection h with h
  injection h with h1 h2
  injection h2 with h2 _
  injection h1 with h1
  injection h2 with h2
  have e1 := map_inj' (fun a b z => by injection z) h1
  have e2 := map_inj' (fun a b z => by injection z) h2
  exact Prod.ext e1 e2
theorem depth_nums : ∀ xs : List Int, NestedKey.depthAll (xs.map NestedKey.num) = 0
  | [] => rfl
  | x :: xs => by
    rw [List.map_cons, NestedKey.depthAll, depth_nums xs] <;> rfl
theorem depth_texts : ∀ xs : List Str, NestedKey.depthAll (xs.map NestedKey.text) = 0
  | [] => rfl
  | x :: xs => by
    rw [List.map_cons, NestedKey.depthAll, depth_texts xs] <;> rfl
theorem nk_depth (q : TK) : (nk q).depth ≤ 8 := by
  unfold nk
  simp only [NestedKey.depth, NestedKey.depthAll, depth_nums, depth_texts]
  decide
/-- an entry: key, place of the key, place of the value, value -/
abbrev Ent := TK × Addr × Addr × List Int
def raws (xs : List Ent) : List (NestedKey × Addr × Value) := xs.map fun x => (nk x.1, x.2.1, Value.ref x.2.2.1)
def TabO (P : Program) (w : PySem.World) (d : Addr) (xs : List Ent) : HO := .ext fun h => ∃ o es ep, h.get? d = some o ∧ o.ExactDict ∧ o.data = .dict es ep ∧ es.toList = (raws xs).map (entryOfKey (nestedKind P w))
def KeyAt (H : Hp) (a : Addr) (q : TK) : Prop := ∃ s t, H a = some (.tup [.ref s, .ref t]) ∧ H s = some (.tup (q.1.map V.int)) ∧ H t = some (.tup (q.2.map V.str))
/-- the table at d -/
structure TabAt (P : Program) (w : PySem.World) (H : Hp) (d : Addr) (xs : List Ent) : Prop where
  tab : H d = some (TabO P w d xs)
  sys : (d == sysModules) = false
  keys : ∀ x ∈ xs, KeyAt H x.2.1 x.1
  vals : ∀ x ∈ xs, H x.2.2.1 = some (.tup (x.2.2.2.map V.int))
  nd : (xs.map (·.1)).Nodup
  few : xs.length ≤ 200
theorem KeyAt.keep {H H' : Hp} {a : Addr} {q : TK} (s : ∀ b ys, H b = some (.tup ys) → H' b = some (.tup ys)) (h : KeyAt H a q) : KeyAt H' a q := by
  obtain ⟨x, t, h1, h2, h3⟩ := h
  exact ⟨x, t, s _ _ h1, s _ _ h2, s _ _ h3⟩
theorem TabAt.keep {P : Program} {w : PySem.World} {H H' : Hp} {d : Addr} {xs : List Ent} (s : ∀ b ys, H b = some (.tup ys) → H' b = some (.tup ys)) (hd : H' d = H d) (h : TabAt P w H d xs) : TabAt P w H' d xs :=
  ⟨hd.trans h.tab, h.sys, fun x hx => (h.keys x hx).keep s, fun x hx => s _ _ (h.vals x hx), h.nd, h.few⟩
section
variable {P : Program} {w : PySem.World} {H : Hp} {h : Heap}
theorem all_nums {h : Heap} : ∀ {xs : List Int} {us : List Value}, Vals (xs.map V.int) us → NestedAll h (xs.map NestedKey.num) us
  | [], _, r => by rw [List.map_nil] at r; cases r; exact .nil
  | x :: xs, _, r => by
    rw [List.map_cons] at r
    cases r with
    | cons h t =>
      obtain ⟨k, rfl⟩ := h
      exact .cons (.int x k) (all_nums t)
theorem all_texts {h : Heap} : ∀ {xs : List Str} {us : List Value}, Vals (xs.map V.str) us → NestedAll h (xs.map NestedKey.text) us
  | [], _, r => by rw [List.map_nil] at r; cases r; exact .nil
  | x :: xs, _, r => by
    rw [List.map_cons] at r
    cases r with
    | cons h t =>
      obtain ⟨k, rfl⟩ := h
      exact .cons (.text x k) (all_texts t)
theorem key_at (ok : HOk P w H h) {a : Addr} {q : TK} (e : KeyAt H a q) : (nestedKind P w).is h (nk q) a := by
  obtain ⟨s, t, h1, h2, h3⟩ := e
  obtain ⟨_, i1, r1, o1, g1, c1, n1, d1⟩ := (show ObjOk P w H h a (.tup [.ref s, .ref t]) from ok a _ h1)
  obtain ⟨_, i2, r2, o2, g2, c2, n2, d2⟩ := (show ObjOk P w H h s (.tup (q.1.map V.int)) from ok s _ h2)
  obtain ⟨_, i3, r3, o3, g3, c3, n3, d3⟩ := (show ObjOk P w H h t (.tup (q.2.map V.str)) from ok t _ h3)
  refine ⟨?_, nk_depth q⟩
  have e2 : NestedIs h (.tup (q.1.map NestedKey.num)) (.ref s) := .tup g2 c2 d2 (by simpa using all_nums r2)
  have e3 : NestedIs h (.tup (q.2.map NestedKey.text)) (.ref t) := .tup g3 c3 d3 (by simpa using all_texts r3)
  obtain ⟨u1, u2, rfl, hu1, hu2⟩ := vals2 r1
  cases hu1
  cases hu2
  exact .tup g1 c1 d1 (by simpa using (NestedAll.cons e2 (.cons e3 .nil)))
theorem raws_len (xs : List Ent) : (raws xs).length = xs.length := List.length_map ..
theorem raws_nodup {xs : List Ent} (h : (xs.map (·.1)).Nodup) : ((raws xs).map (·.1)).Nodup := by
  have e : (raws xs).map (·.1) = (xs.map (·.1)).map nk := by unfold raws; rw [List.map_map, List.map_map]; rfl
  rw [e]
  exact List.Pairwise.map _ (fun a b z q => z (nk_inj q)) h
theorem tab_raw (ok : HOk P w H h) {d : Addr} {xs : List Ent} (e : H d = some (TabO P w d xs)) : ∃ o es ep, h.get? d = some o ∧ o.ExactDict ∧ o.data = .dict es ep ∧ es.toList = (raws xs).map (entryOfKey (nestedKind P w)) := by
  obtain ⟨z, _, _⟩ := (show ObjOk P w H h d (TabO P w d xs) from ok d _ e)
  exact z
theorem tab_of (ok : HOk P w H h) {d : Addr} {xs : List Ent} (e : TabAt P w H d xs) : (d == sysModules) = false ∧ h.DictOfH (nestedKind P w) d (raws xs) := by
  obtain ⟨o, es, ep, h1, h2, h3, h4⟩ := tab_raw ok e.tab
  refine ⟨e.sys, o, es, ep, h1, h2, h3, h4, fun x hx => ?_, raws_nodup e.nd⟩
  obtain ⟨y, hy, rfl⟩ := List.mem_map.mp hx
  exact key_at ok (e.keys y hy)
theorem tab_ok {d : Addr} {xs : List Ent} (dd : ∃ o es ep, h.get? d = some o ∧ o.ExactDict ∧ o.data = .dict es ep ∧ es.toList = (raws xs).map (entryOfKey (nestedKind P w))) : ObjOk P w H h d (TabO P w d xs) := by
  refine ⟨dd, ?_, fun h1 h2 ⟨o, es, ep, a1, a2⟩ k => ⟨o, es, ep, k _ a1, a2⟩⟩
  obtain ⟨o, es, ep, h1, _⟩ := dd
  exact ⟨o, h1⟩
def findN (xs : List Ent) (q : TK) : Option Ent := xs.find? fun x => decide (x.1 = q)
theorem atKey_raws (xs : List Ent) (q : TK) : atKey (raws xs) (nk q) = (findN xs q).map fun x => (x.2.1, Value.ref x.2.2.1) := by
  induction xs with
  | nil => rfl
  | cons x xs ih =>
    by_cases e : x.1 = q
    · have a : atKey (raws (x :: xs)) (nk q) = some (x.2.1, Value.ref x.2.2.1) := by simp [raws, atKey, List.find?_cons, e]
      have b : findN (x :: xs) q = some x := by simp [findN, List.find?_cons, e]
      rw [a, b] <;> rfl
    · have e' : ¬ nk x.1 = nk q := fun z => e (nk_inj z)
      have a : atKey (raws (x :: xs)) (nk q) = atKey (raws xs) (nk q) := by simp [raws, atKey, List.find?_cons, e']
      have b : findN (x :: xs) q = findN xs q := by simp [findN, List.find?_cons, e]
      rw [a, b, ih]
def putN (xs : List Ent) (q : TK) (k a : Addr) (zs : List Int) : List Ent :=
  if (findN xs q).isSome = true then xs.map (fun x => if x.1 = q then (x.1, x.2.1, a, zs) else x) else xs ++ [(q, k, a, zs)]
theorem raws_put (xs : List Ent) (q : TK) (k a : Addr) (zs : List Int) : raws (putN xs q k a zs) = storedH (raws xs) (nk q) k (Value.ref a) := by
  unfold putN storedH
  rw [atKey_raws, Option.isSome_map]
  by_cases e : (findN xs q).isSome = true
  · rw [if_pos e, if_pos e]
    unfold raws
    rw [List.map_map, List.map_map]
    refine List.map_congr_left fun x _ => ?_
    by_cases z : x.1 = q
    · simp [putAt, z]
    · have z' : ¬ nk x.1 = nk q := fun y => z (nk_inj y)
      simp [putAt, z, z']
  · rw [if_neg e, if_neg e]
    unfold raws
    rw [List.map_append] <;> rfl
theorem putN_keys (xs : List Ent) (q : TK) (k a : Addr) (zs : List Int) : (putN xs q k a zs).map (·.1) = if (findN xs q).isSome = true then xs.map (·.1) else xs.map (·.1) ++ [q] := by
  unfold putN
  split
  · rw [List.map_map]
    refine List.map_congr_left fun x _ => ?_
    show (if x.1 = q then (x.1, x.2.1, a, zs) else x).1 = x.1
    split <;> rfl
  · rw [List.map_append] <;> rfl
theorem findN_none {xs : List Ent} {q : TK} : (findN xs q).isSome = false ↔ q ∉ xs.map (·.1) := by
  unfold findN
  rw [Option.isSome_eq_false_iff, Option.isNone_iff_eq_none, List.find?_eq_none]
  constructor
  · intro h z
    obtain ⟨x, hx, rfl⟩ := List.mem_map.mp z
    exact h x hx (by simp)
  · intro h x hx z
    exact h (List.mem_map.mpr ⟨x, hx, by simpa using z⟩)
theorem putN_nodup {xs : List Ent} {q : TK} {k a : Addr} {zs : List Int} (h : (xs.map (·.1)).Nodup) : ((putN xs q k a zs).map (·.1)).Nodup := by
  rw [putN_keys]
  split
  · exact h
  · rename_i e
    have n : q ∉ xs.map (·.1) := findN_none.mp (by simpa using e)
    exact List.nodup_append.mpr ⟨h, by simp, fun x hx y hy z => n (by rw [List.mem_singleton.mp hy] at z; rw [← z]; exact hx)⟩
theorem putN_mem {xs : List Ent} {q : TK} {k a : Addr} {zs : List Int} {x : Ent} (h : x ∈ putN xs q k a zs) : (∃ y ∈ xs, x.1 = y.1 ∧ x.2.1 = y.2.1 ∧ (x.2.2 = y.2.2 ∨ (x.1 = q ∧ x.2.2 = (a, zs)))) ∨ x = (q, k, a, zs) := by
  unfold putN at h
  split at h
  · obtain ⟨y, hy, rfl⟩ := List.mem_map.mp h
    refine .inl ⟨y, hy, ?_⟩
    by_cases e : y.1 = q
    · rw [if_pos e]; exact ⟨rfl, rfl, .inr ⟨e, rfl⟩⟩
    · rw [if_neg e]; exact ⟨rfl, rfl, .inl rfl⟩
  · rcases List.mem_append.mp h with z | z
    · exact .inl ⟨x, z, rfl, rfl, .inl rfl⟩
    · exact .inr (List.mem_singleton.mp z)
theorem putN_len (xs : List Ent) (q : TK) (k a : Addr) (zs : List Int) : (putN xs q k a zs).length ≤ xs.length + 1 := by
  unfold putN
  split
  · rw [List.length_map]; omega
  · rw [List.length_append]; simp
theorem tabO_ne {P : Program} {w : PySem.World} {d : Addr} {xs : List Ent} {u : HO} (hu : ∀ φ, u ≠ .ext φ) : TabO P w d xs ≠ u := fun z => hu _ z.symm
theorem tup_off {H : Hp} {d b : Addr} {xs : List Ent} {o : HO} {ys : List V} (hd : H d = some (TabO P w d xs)) (h : H b = some (.tup ys)) : upd H d o b = some (.tup ys) := by
  rw [upd_ne (fun z => ?_)]
  · exact h
  · rw [z, hd] at h
    cases h
theorem TabAt.put {d k a : Addr} {q : TK} {xs : List Ent} {zs : List Int} (h : TabAt P w H d xs) (hk : KeyAt H k q) (ha : H a = some (.tup (zs.map V.int))) (hl : xs.length < 200) : TabAt P w (upd H d (TabO P w d (putN xs q k a zs))) d (putN xs q k a zs) := by
  have tt : ∀ b ys, H b = some (.tup ys) → upd H d (TabO P w d (putN xs q k a zs)) b = some (.tup ys) := fun b ys e => tup_off h.tab e
  refine ⟨upd_same, h.sys, fun x hx => ?_, fun x hx => ?_, putN_nodup h.nd, ?_⟩
  · rcases putN_mem hx with ⟨y, hy, e1, e2, _⟩ | rfl
    · rw [e1, e2]; exact (h.keys y hy).keep tt
    · exact hk.keep tt
  · rcases putN_mem hx with ⟨y, hy, _, _, e3 | ⟨_, e3⟩⟩ | rfl
    · rw [e3]; exact tt _ _ (h.vals y hy)
    · rw [e3]; exact tt _ _ ha
    · exact tt _ _ ha
  · have := putN_len xs q k a zs
    omega
end
/-! ### the rules -/
def tNNew (P : Program) (w : PySem.World) : TE := fun _ H Q => ∀ p, H p = none → (p == sysModules) = false → Q (.ref p) (upd H p (TabO P w p []))
def tNGet (P : Program) (w : PySem.World) (td ty : TE) : TE := fun σ H Q => td σ H fun x H1 => ty σ H1 fun y H2 => ∃ d xs k q e, x = .ref d ∧ y = .ref k ∧ TabAt P w H2 d xs ∧ KeyAt H2 k q ∧ findN xs q = some e ∧ Q (.ref e.2.2.1) H2
def sNPut (P : Program) (w : PySem.World) (td ty tv : TE) : TS := fun D σ H => tv σ H fun v H1 => td σ H1 fun x H2 => ty σ H2 fun y H3 => ∃ d xs k q a zs, v = .ref a ∧ x = .ref d ∧ y = .ref k ∧ TabAt P w H3 d xs ∧ KeyAt H3 k q ∧ H3 a = some (.tup (zs.map V.int)) ∧ xs.length < 200 ∧ D.nx σ (upd H3 d (TabO P w d (putN xs q k a zs)))
section
variable {X : Cx} {o i e value : Expr} {pos pos' : Pos} {td ty tv : TE}
theorem pe_nnew : PE X (.Dict [] [] pos) (tNNew X.prog X.w) := ⟨fun pins s σ H Q I h =>
  wpAny_Dict_empty ⟨.ref s.heap.objs.size, _, I.laid (a := s.heap.objs.size) (o := TabO X.prog X.w s.heap.objs.size []) (t' := s.toks) (fun _ _ q => Heap.get?_push_of_some _ q) (Nat.le_refl _)
    (tab_ok ⟨_, #[], 0, Heap.get?_push_size _ rfl, ⟨rfl, rfl, rfl⟩, rfl, rfl⟩), rfl, h _ (I.hok.fresh (Nat.le_refl _)) (beq_eq_false_iff_ne.mpr (Ne.symm (Nat.ne_of_lt I.big)))⟩⟩
theorem pe_nget (hu : X.A.units + 64 < cLine) (ho : PE X o td) (hi : PE X i ty) (hs : NoSl i) : PE X (.Subscript o i pos) (tNGet X.prog X.w td ty) := by
  refine ⟨fun pins s σ H Q I h => ?_⟩
  refine subD_of PySem.F.slot_dict_getitem.lookup hs (thn (ho.run pins s σ H _ I h) fun u s1 ⟨x, H1, I1, rx, q1⟩ => thn (hi.run pins s1 σ H1 _ I1 q1) fun iv s2 ⟨y, H2, I2, ry, d, xs, k, q, e, ex, ey, t, hk, hf, q2⟩ => ?_)
  subst ex ey
  obtain rfl : u = Value.ref d := rx
  obtain rfl : iv = Value.ref k := ry
  obtain ⟨z, dd⟩ := tab_of I2.hok t
  refine ⟨dd.typeIs, wpAny_getItem_heap (k := nk q) (p := (e.2.1, Value.ref e.2.2.1)) (by show X.A.in1.units + 8 < cLine; rw [Around.in1_units]; omega) (key_at I2.hok hk) dd (by rw [atKey_raws, hf] <;> rfl) ?_⟩
  exact ⟨.ref e.2.2.1, H2, I2.tok _, rfl, q2⟩
theorem ps_nput (hu : X.A.units + 64 < cLine) (ho : PE X o td) (hi : PE X i ty) (hv : PE X value tv) (hs : swapsWith value (some (.Subscript o i pos')) pos.line X.env = pure false) :
    PS X (.Assign [.Subscript o i pos'] value pos) (sNPut X.prog X.w td ty tv) := by
  refine ⟨fun pins s σ H D I h => ?_⟩
  refine wpAny_Assign_Subscript (thn (hv.run pins s σ H _ I h) fun r s1 ⟨v, H1, I1, rv, q1⟩ => thn (ho.run pins s1 σ H1 _ I1 q1) fun u s2 ⟨x, H2, I2, rx, q2⟩ => thn (hi.run pins s2 σ H2 _ I2 q2) fun iv s3 ⟨y, H3, I3, ry, d, xs, k, q, a, zs, ev, ex, ey, t, hk, ha, hl, q3⟩ => ?_) hs
  subst ex ey ev
  obtain rfl : u = Value.ref d := rx
  obtain rfl : iv = Value.ref k := ry
  obtain rfl : r = Value.ref a := rv
  obtain ⟨z, dd⟩ := tab_of I3.hok t
  have big : xs.length ≤ sizeLine := Nat.le_trans (Nat.le_of_lt hl) (by decide)
  refine wpAny_setItem_heap (hsz := by rw [raws_len]; exact big) (k := nk q) (by show X.A.in1.units + 8 < cLine; rw [Around.in1_units]; omega) (key_at I3.hok hk) dd fun h' dd' hs => ⟨σ, _, ?_, q3⟩
  obtain ⟨ob, es, ep, hq, h2, h3, h4, _, h5⟩ := dd'
  exact d_write I3 (by rw [t.tab]; exact True.intro) hs ⟨ob, hq⟩ (tab_ok ⟨ob, es, ep, hq, h2, h3, by rw [raws_put]; exact h4⟩)
end
end OP
namespace OP
open PySem PySem.Spec PyProof.Rows L2
section
variable {P : Program} {w : PySem.World} {H : Hp} {h : Heap}
theorem tab_dr (ok : HOk P w H h) {d : Addr} {xs : List Ent} (e : H d = some (TabO P w d xs)) : ∃ es ep, h.DictRaw d es ep ∧ es.size = xs.length ∧ ∀ i (hi : i < es.size), ∃ x, xs[i]? = some x ∧ es[i] = ⟨(nk x.1).hash w, .ref x.2.1, .ref x.2.2.1⟩ := by
  obtain ⟨o, es, ep, h1, h2, h3, h4⟩ := tab_raw ok e
  have ln : es.size = xs.length := by rw [← Array.length_toList, h4, List.length_map, raws_len]
  refine ⟨es, ep, ⟨o, h1, h2, h3⟩, ln, fun i hi => ?_⟩
  have hx : i < xs.length := by omega
  refine ⟨xs[i], List.getElem?_eq_getElem hx, ?_⟩
  have q : es.toList[i]? = some (entryOfKey (nestedKind P w) (nk xs[i].1, xs[i].2.1, Value.ref xs[i].2.2.1)) := by
    rw [h4, List.getElem?_map]
    unfold raws
    rw [List.getElem?_map, List.getElem?_eq_getElem hx] <;> rfl
  rw [Array.getElem?_toList, Array.getElem?_eq_getElem hi] at q
  exact Option.some.inj q
end
section
variable {X : Cx}
theorem call_nlen : CallR X (.builtin "len") (fun vs H Q => ∃ d xs, vs = [.ref d] ∧ TabAt X.prog X.w H d xs ∧ Q (.int xs.length) H) := by
  intro pins s σ H vs us Q I r h
  obtain ⟨d, xs, rfl, t, q⟩ := h
  obtain ⟨u, rfl, rx⟩ := vals1 r
  cases rx
  have z := t.sys
  obtain ⟨es, ep, hm, ln, _⟩ := tab_dr I.hok t.tab
  have few := t.few
  refine Calls.call_function_entry kind_len plain_len entry_len (args_len1 _) ?_
  unfold Builtin.«len»
  refine wpAny_bind (m := oneArg "len" _) (wpAny_pure ?_)
  refine wpAny_bind (m := callSpecial? (.ref d) (Str.ofString "__len__")) (wpAny_callSpecial?_slot (name := Str.ofString "__len__") hm.typeIs F.slot_dict_len (call_len_raw z hm ?_))
  show wpAny _ _ _ _ _ { s with toks := s.toks + 1 }
  refine wpAny_bind (wpAny_holding (wpAny_pure ?_))
  refine wpAny_bind (wpAny_letGo ?_)
  show wpAny _ _ (if ((es.size : Nat) : Int) < 0 then _ else _) _ _ _
  rw [if_neg (by omega)]
  show wpAny _ _ (if ((es.size : Nat) : Int) ≥ 2 ^ 63 then _ else _) _ _ _
  rw [if_neg (by omega)]
  refine wpAny_bind (wpAny_mkInt (wpAny_pure ⟨_, rfl, ?_⟩))
  exact ⟨.int xs.length, H, I.tok _, ⟨_, by rw [ln]⟩, q⟩
/-- list(d) -/
theorem call_nlist (hc : X.calm = true) : CallR X (.type "list") (fun vs H Q => ∃ d xs, vs = [.ref d] ∧ TabAt X.prog X.w H d xs ∧ ∀ l, H l = none → Q (.ref l) (upd H l (.lst (xs.map fun x => V.ref x.2.1)))) := by
  intro pins s σ H vs us Q I r h
  obtain ⟨d, xs, rfl, t, q⟩ := h
  obtain ⟨u, rfl, rx⟩ := vals1 r
  cases rx
  have z := t.sys
  obtain ⟨es, ep, hm, ln, ent⟩ := tab_dr I.hok t.tab
  have few := t.few
  have big : es.size ≤ sizeLine := Nat.le_trans (by omega : es.size ≤ 200) (by decide)
  refine PySem.W.kdl_call (KdlSrc.rawDict z) (I.ok.hd hc) hm big fun h' tk acc c hk hS hit => ?_
  obtain ⟨i1, i2⟩ := hit
  have eq : acc.toList = xs.map fun x => Value.ref x.2.1 := by
    refine List.ext_getElem? fun j => ?_
    by_cases hj : j < es.size
    · have ha : j < acc.size := by omega
      obtain ⟨_, e2⟩ := i2 j acc[j] (Array.getElem?_eq_getElem ha)
      obtain ⟨x, hx, e3⟩ := ent j hj
      rw [Array.getElem?_toList, Array.getElem?_eq_getElem ha, List.getElem?_map, hx, e2, e3] <;> rfl
    · rw [Array.getElem?_toList, Array.getElem?_eq_none (by omega), List.getElem?_map, List.getElem?_eq_none (by omega)] <;> rfl
  refine ⟨.ref s.heap.objs.size, _, I.laid (t' := tk) (o := .lst (xs.map fun x => V.ref x.2.1)) hk (Nat.le_refl _) ?_, rfl, q _ (I.hok.fresh (Nat.le_refl _))⟩
  refine ⟨by rw [List.length_map]; omega, acc.toList, c, ?_, by rw [Array.toArray_toList]; exact hS⟩
  rw [eq]
  clear q t ent few big i1 i2 eq ln
  induction xs with
  | nil => exact .nil
  | cons x xs ih => exact .cons rfl ih
end
/-! ### list(d.items()) -/
/-- pairs at their places -/
def PrAt (H : Hp) (ts : List Addr) (xs : List Ent) : Prop := Paired (fun (t : Addr) (x : Ent) => H t = some (.tup [.ref x.2.1, .ref x.2.2.1])) ts xs
def putP : Hp → List Addr → List Ent → Hp
  | H, a :: as, p :: kvs => putP (upd H a (.tup [.ref p.2.1, .ref p.2.2.1])) as kvs
  | H, _, _ => H
theorem putP_off {b : Addr} : ∀ (as : List Addr) (kvs : List Ent) (H : Hp), b ∉ as → putP H as kvs b = H b
  | [], _, _, _ => rfl
  | _ :: _, [], _, _ => rfl
  | a :: as, p :: kvs, H, h => by
    show putP (upd H a (.tup [.ref p.2.1, .ref p.2.2.1])) as kvs b = H b
    rw [putP_off as kvs _ (fun z => h (List.mem_cons_of_mem _ z)), upd_ne (fun z => h (by rw [z]; exact List.mem_cons_self))]
theorem putP_at : ∀ (as : List Addr) (kvs : List Ent) (H : Hp), as.length = kvs.length → as.Nodup → PrAt (putP H as kvs) as kvs
  | [], [], _, _, _ => .nil
  | [], _ :: _, _, h, _ => by cases h
  | _ :: _, [], _, h, _ => by cases h
  | a :: as, p :: kvs, H, h, hn => by
    have hn' := List.nodup_cons.mp hn
    have ih := putP_at as kvs (upd H a (.tup [.ref p.2.1, .ref p.2.2.1])) (Nat.succ.inj h) hn'.2
    refine .cons ?_ ih
    show putP (upd H a (.tup [.ref p.2.1, .ref p.2.2.1])) as kvs a = some (.tup [.ref p.2.1, .ref p.2.2.1])
    rw [putP_off as kvs _ hn'.1, upd_same]
def tNItems (P : Program) (w : PySem.World) (te : TE) : TE := fun σ H Q => te σ H fun x H1 => ∃ d xs, x = .ref d ∧ TabAt P w H1 d xs ∧
  ∀ (H' : Hp) (p : Addr) (ts : List Addr), (∀ b o, H1 b = some o → H' b = some o) → H1 p = none → H' p = some (.lst (ts.map V.ref)) → PrAt H' ts xs → Q (.ref p) H'
section
variable {X : Cx} {e : Expr} {te : TE} {p apos cpos pos : Pos}
theorem nitems_laid {pins : List (Addr × Obj)} {σ : L2.St} {H : Hp} {s : Shared} {h' : Heap} {tk : Nat} {xs : List Ent} {es : Array DictEntry} {acc : Array Value} {c : Nat} {as : List Addr} (I : Inv X pins σ H s) (hz : xs.length ≤ 200) (ln : es.size = xs.length) (ent : ∀ i (hi : i < es.size), ∃ x, xs[i]? = some x ∧ es[i] = ⟨(nk x.1).hash X.w, .ref x.2.1, .ref x.2.2.1⟩)
    (hk : ∀ b o, s.heap.get? b = some o → h'.get? b = some o) (hS : h'.get? s.heap.objs.size = some { cls := .type "list", dict := none, data := .seq acc c, slots := #[] }) (hl : as.length = es.size) (hG : PySem.W.DilG es s.heap.objs.size h' as) (hacc : acc.toList = as.map Value.ref) :
    ∃ H' : Hp, (∀ b o, H b = some o → H' b = some o) ∧ H s.heap.objs.size = none ∧ H' s.heap.objs.size = some (.lst (as.map V.ref)) ∧ PrAt H' as xs ∧ Inv X pins σ H' { s with heap := h', toks := tk } := by
  have hSn : s.heap.objs.size ∉ as := fun z => Nat.lt_irrefl _ (hG.above _ z)
  have nd : as.Nodup := List.Pairwise.imp (fun {a b} (h : a < b) => Nat.ne_of_lt h) hG.rise
  have new : ∀ t ∈ as, H t = none := fun t ht => I.hok.fresh (Nat.le_of_lt (hG.above t ht))
  have newS : H s.heap.objs.size = none := I.hok.fresh (Nat.le_refl _)
  have atP := putP_at as xs (upd H s.heap.objs.size (.lst (as.map V.ref))) (by omega) nd
  have off : ∀ b, b ∉ as → b ≠ s.heap.objs.size → putP (upd H s.heap.objs.size (.lst (as.map V.ref))) as xs b = H b := fun b h1 h2 => by rw [putP_off as xs _ h1, upd_ne h2]
  have low : ∀ b o, s.heap.get? b = some o → b ∉ as ∧ b ≠ s.heap.objs.size := fun b o e => ⟨fun z => absurd (Heap.lt_size e) (Nat.not_lt.mpr (Nat.le_of_lt (hG.above b z))), Nat.ne_of_lt (Heap.lt_size e)⟩
  have kp : ∀ b u, H b = some u → (putP (upd H s.heap.objs.size (.lst (as.map V.ref))) as xs) b = some u := fun b u e => by
    rw [off b (fun z => by rw [new b z] at e; cases e) (fun z => by rw [z, newS] at e; cases e)]
    exact e
  have eS : putP (upd H s.heap.objs.size (.lst (as.map V.ref))) as xs s.heap.objs.size = some (.lst (as.map V.ref)) := by rw [putP_off as xs _ hSn, upd_same]
  have big : (200 : Nat) ≤ sizeLine := by decide
  refine ⟨putP (upd H s.heap.objs.size (.lst (as.map V.ref))) as xs, kp, newS, eS, atP, ?_⟩
  refine I.call' (ch := []) rfl ⟨fun b o q _ _ _ => hk b o q, fun b o q _ _ _ => ⟨o.slots, hk b o q⟩, fun b o q n _ => ?_, fun b o q _ => ⟨o, hk b o q⟩, fun b xs q => kp b _ q, fun b o u q => kp b _ q, fun b ps q => ⟨#[], by rw [kp b _ q]; simp⟩⟩ (fun b u q => ?_) I.bare fun b z => by simp at z
  · obtain ⟨z1, z2⟩ := low b o q
    rw [off b z1 z2]
    exact n
  · by_cases hb : b ∈ as
    · obtain ⟨j, pk, e1, e2, e3⟩ := LiI.paired_ix atP hb
      rw [e3] at q
      cases q
      obtain ⟨hj, f3⟩ := hG.pairs j b e1
      obtain ⟨x, g1, g2⟩ := ent j hj
      rw [e2] at g1
      cases g1
      rw [g2] at f3
      exact ⟨by show 2 ≤ sizeLine; decide, [_, _], .cons rfl (.cons rfl .nil), ⟨_, f3, rfl, _, rfl⟩⟩
    · by_cases hb2 : b = s.heap.objs.size
      · rw [hb2] at q ⊢
        rw [eS] at q
        cases q
        refine ⟨by rw [List.length_map]; omega, acc.toList, c, by rw [hacc]; exact LiI.vals_refs as, ?_⟩
        rw [Array.toArray_toList]
        exact hS
      · rw [off b hb hb2] at q
        exact (I.hok b u q).stay (fun d v _ y => hk d v y) (fun d y => kp d _ y) fun d xs y => kp d _ y
/-- list(e.items()) -/
theorem pe_nitems (hc : X.calm = true) (he : PE X e te) (hg : Gl X "list") (hm : X.mg "list" = none) (hv : bootBuiltins "list" = some (.type "list")) (hbase : attributeBase e "items" X.env (eval e X.env) = eval e X.env := by rfl) (hline : (apos.endLine == cpos.line) = true := by rfl)
    (hs : starEach [.Call (.Attribute e "items" apos) [] [] cpos] X.env = (false, eval (.Call (.Attribute e "items" apos) [] [] cpos) X.env) :: starEach [] X.env := by rfl) :
    PE X (.Call (.Name "list" p) [.Call (.Attribute e "items" apos) [] [] cpos] [] pos) (tNItems X.prog X.w te) := by
  refine ⟨fun pins s σ H Q I hq => ?_⟩
  refine wpAny_Call_Name_kw (ld_blt I hg hm hv ?_)
  refine PyProof.Rows.callWith_type1 ?_ hs rfl
  rw [hs]
  show wpAny _ _ (spliced ((false, eval (.Call (.Attribute e "items" apos) [] [] cpos) X.env) :: backTo pos (starEach [] X.env))) _ _ s
  refine Calls.spliced_cons ?_
  refine wpAny_Call_method (T := "dict") (id := "dict.items") hbase rfl hline F.plainAttrs_dict F.slot_dict_items F.type_dict_items (thn (he.run pins s σ H _ I hq) fun u s1 ⟨x, H1, I1, rx, d, xs, ex, t, q⟩ => ?_)
  subst ex
  obtain rfl : u = Value.ref d := rx
  have z := t.sys
  obtain ⟨es, ep, hm', ln, ent⟩ := tab_dr I1.hok t.tab
  have few := t.few
  have I2 : Inv X pins σ H1 { s1 with heap := s1.heap.push { cls := .type "dict_items", data := .fields #[.ref d] } } := I1.kept (t' := s1.toks) fun b ob q => Heap.get?_push_of_some _ q
  refine ⟨hm'.typeIs, fun b y => ?_, ?_⟩
  · cases y
    obtain ⟨o, h1, h2, _⟩ := hm'
    exact ⟨o, h1, h2.2.1⟩
  show wpAny _ _ (callWith cpos (.builtin "dict.items") [.ref d] [] []) _ X.xe s1
  refine method_meetsIn F.slot_dict_items F.entry_dict_items rfl (PySem.evalArgs_none ⟨rfl, hm'.typeIs, F.args_dict_items_1 _, _, meets_dict_items_raw d z, ⟨es, ep, hm'⟩, ?_⟩)
  refine Calls.spliced_nil ?_
  refine PySem.W.dil_call (es := es) (ep := ep) (I1.ok.hd hc) ⟨_, Heap.get?_push_size _ rfl, rfl, rfl⟩ (hm'.at fun o y => Heap.get?_push_of_some _ y) (Nat.le_trans (by omega : es.size ≤ 200) (by decide)) fun h' tk acc c as hk hS hl hG hacc => ?_
  obtain ⟨H', k1, k2, k3, k4, J⟩ := nitems_laid (tk := tk) I2 few ln ent hk hS hl hG hacc
  exact ⟨.ref _, H', J, rfl, q H' _ as k1 k2 k3 k4⟩
end
/-! ### dict(pairs) -/
def allPut (xs ps : List Ent) : List Ent := ps.foldl (fun acc x => putN acc x.1 x.2.1 x.2.2.1 x.2.2.2) xs
theorem raws_all : ∀ (ps xs : List Ent), raws (allPut xs ps) = storedAllH (raws xs) (raws ps)
  | [], xs => rfl
  | p :: ps, xs => by
    show raws (allPut (putN xs p.1 p.2.1 p.2.2.1 p.2.2.2) ps) = storedAllH (storedH (raws xs) (nk p.1) p.2.1 (Value.ref p.2.2.1)) (raws ps)
    rw [raws_all ps, raws_put]
theorem allPut_new : ∀ (ps xs : List Ent), ((xs ++ ps).map (·.1)).Nodup → allPut xs ps = xs ++ ps
  | [], xs, _ => (List.append_nil _).symm
  | p :: ps, xs, nd => by
    have e : xs ++ p :: ps = (xs ++ [p]) ++ ps := by rw [List.append_assoc] <;> rfl
    have n : p.1 ∉ xs.map (·.1) := fun z => by
      rw [List.map_append, List.map_cons] at nd
      exact (List.nodup_append.mp nd).2.2 _ z _ List.mem_cons_self rfl
    show allPut (putN xs p.1 p.2.1 p.2.2.1 p.2.2.2) ps = _
    have f : putN xs p.1 p.2.1 p.2.2.1 p.2.2.2 = xs ++ [p] := by
      unfold putN
      rw [if_neg (by rw [findN_none.mpr n]; decide)]
    rw [f, e]
    exact allPut_new ps _ (by rw [← e]; exact nd)
section
variable {X : Cx}
theorem call_ndict (hc : X.calm = true) (hu : X.A.units + 64 < cLine) : CallR X (.type "dict") (fun vs H Q => ∃ l ts xs, vs = [.ref l] ∧ H l = some (.lst (ts.map V.ref)) ∧ PrAt H ts xs ∧ (∀ x ∈ xs, KeyAt H x.2.1 x.1) ∧ (xs.map (·.1)).Nodup ∧ xs.length ≤ 200 ∧
    ∀ d, H d = none → (d == sysModules) = false → Q (.ref d) (upd H d (TabO X.prog X.w d xs))) := by
  intro pins s σ H vs us Q I r h
  obtain ⟨l, ts, xs, rfl, hl, hp, hk, nd, few, q⟩ := h
  obtain ⟨u, rfl, rx⟩ := vals1 r
  cases rx
  obtain ⟨zz, its, n, rv, hL⟩ := (show ObjOk X.prog X.w H s.heap l (.lst (ts.map V.ref)) from I.hok l _ hl)
  have eits : its = ts.map Value.ref := by
    clear hp q hl hL zz
    induction ts generalizing its with
    | nil => cases rv; rfl
    | cons t ts ih =>
      rw [List.map_cons] at rv
      cases rv with
      | cons a b =>
        cases a
        rw [List.map_cons, ih _ b]
  subst eits
  have ltx : ts.length = xs.length := Paired.length hp
  have pitems : PairItems s.heap (ts.map Value.ref).toArray (fun j => ts.getD j 0) (xs.map fun x => (Value.ref x.2.1, Value.ref x.2.2.1)) := by
    refine ⟨by simp [ltx], fun j k v hj => ?_⟩
    rw [List.getElem?_map] at hj
    obtain ⟨x, hx, e⟩ := Option.map_eq_some_iff.mp hj
    injection e with e1 e2
    have hlt : j < xs.length := (List.getElem?_eq_some_iff.mp hx).1
    have htl : j < ts.length := by omega
    obtain ⟨t, ht, et⟩ : ∃ t, ts[j]? = some t ∧ H t = some (.tup [.ref x.2.1, .ref x.2.2.1]) := by
      obtain ⟨y, hy, ey⟩ := LiI.paired_get hp (List.getElem?_eq_getElem htl)
      rw [hx] at hy
      cases hy
      exact ⟨_, List.getElem?_eq_getElem htl, ey⟩
    refine ⟨?_, ?_⟩
    · show (ts.map Value.ref).toArray[j]? = some (.ref (ts.getD j 0))
      rw [List.getElem?_toArray, List.getElem?_map, ht, List.getD_eq_getElem?_getD, ht] <;> rfl
    · show PairAt s.heap (ts.getD j 0) k v
      rw [List.getD_eq_getElem?_getD, ht]
      obtain ⟨_, i1, r1, o1, g1, c1, n1, d1⟩ := (show ObjOk X.prog X.w H s.heap t (.tup [.ref x.2.1, .ref x.2.2.1]) from I.hok t _ et)
      obtain ⟨u1, u2, rfl, hu1, hu2⟩ := vals2 r1
      cases hu1
      cases hu2
      subst e1 e2
      exact .inl ⟨o1, g1, c1, n1, d1⟩
  refine call_dict_pairsH (knd := nestedKind X.prog X.w) (ps := raws xs) (PairArg.list l (ts.map Value.ref).toArray (fun j => ts.getD j 0) (xs.map fun x => (Value.ref x.2.1, Value.ref x.2.2.1))) (I.ok.hd hc) (by show X.A.in1.in1.units + 8 < cLine; rw [Around.in1_units, Around.in1_units]; omega)
    ⟨⟨_, n, hL, rfl, rfl, rfl⟩, pitems⟩ ⟨by rw [raws_len, List.length_map], fun i key v rel => ?_⟩ (fun h' hk' x hx => ?_) (by rw [List.length_map]; exact Nat.le_trans few (by decide)) fun h' tk dd kp => ?_
  · have rel : (xs.map fun x => (Value.ref x.2.1, Value.ref x.2.2.1))[i]? = some (key, v) := rel
    rw [List.getElem?_map] at rel
    obtain ⟨x, hx, e⟩ := Option.map_eq_some_iff.mp rel
    injection e with e1 e2
    refine ⟨nk x.1, x.2.1, ?_, e1.symm⟩
    unfold raws
    rw [List.getElem?_map, hx, ← e2] <;> rfl
  · obtain ⟨y, hy, rfl⟩ := List.mem_map.mp hx
    have kk := key_at I.hok (hk y hy)
    exact nestedKind_stays.stays (fun b o vs n e _ => hk' b o (Nat.ne_of_lt (Heap.lt_size e)) (fun z => nomatch z) e) kk
  · have e0 : storedAllH [] (raws xs) = raws xs := by
      have z := raws_all xs []
      rw [allPut_new xs [] (by simpa using nd)] at z
      exact z.symm
    rw [e0] at dd
    obtain ⟨ob, es, ep, hq, h2, h3, h4, _, h5⟩ := dd
    refine ⟨.ref s.heap.objs.size, _, I.laid (t' := tk) (o := TabO X.prog X.w s.heap.objs.size xs) (fun b o e => kp b o (fun z => nomatch z) e) (Nat.le_refl _) ?_, rfl, q _ (I.hok.fresh (Nat.le_refl _)) (beq_eq_false_iff_ne.mpr (Ne.symm (Nat.ne_of_lt I.big)))⟩
    exact tab_ok ⟨ob, es, ep, hq, h2, h3, h4⟩
end
/-! ### == and != of two tables with the same content -/
section
variable {prog : Program} {w : PySem.World} {A : Around} {E : Value → Shared → Prop} {s : Shared}
theorem same_tabs {nm : String} {a b : Addr} {oa : Obj} {es : Array DictEntry} {ep : Nat} {xs ys : List Ent} {Q : Bool → Shared → Prop} (hu : A.units + 8 < cLine) (ya : (a == sysModules) = false) (yb : (b == sysModules) = false) (ga : s.heap.get? a = some oa) (fa : oa.data = .dict es ep)
    (ent : ∀ i (hi : i < es.size), ∃ x, xs[i]? = some x ∧ es[i] = ⟨(nk x.1).hash w, .ref x.2.1, .ref x.2.2.1⟩) (ln : es.size = xs.length) (db : s.heap.DictOfH (nestedKind prog w) b (raws ys)) (lxy : xs.length = ys.length)
    (key : ∀ x ∈ xs, (nestedKind prog w).is s.heap (nk x.1) x.2.1) (same : ∀ x ∈ xs, ∃ y, findN ys x.1 = some y ∧ ∃ c, (nestedKind prog w).is s.heap c x.2.2.1 ∧ (nestedKind prog w).is s.heap c y.2.2.1) (h : Q true s) : wpAny (model prog w) A (Builtin.Dict.samePairs nm a b) Q E s := by
  obtain ⟨ob, fs, fp, gb, _, fb, lb, isb, ndb⟩ := db
  have lf : fs.size = ys.length := by rw [← Array.length_toList, lb, List.length_map, raws_len]
  have no_a : ¬ (a == sysModules) = true := by rw [ya]; decide
  have no_b : ¬ (b == sysModules) = true := by rw [yb]; decide
  unfold Builtin.Dict.samePairs Builtin.Dict.showsAll
  rw [if_neg no_a, if_neg no_b]
  refine wpAny_bind (wpAny_pure (wpAny_bind (wpAny_pure (wpAny_bind (wpAny_dictEntries ga fa ?_)))))
  dsimp only
  refine wpAny_bind (wpAny_dictEntries gb fb ?_)
  rw [if_neg (by rw [ln, lf, lxy]; simp)]
  refine wpAny_bind (wpAny_dictEpoch ga fa (wpAny_bind ?_))
  rw [Std.Legacy.Range.forIn_eq_forIn_range']
  simp only [Std.Legacy.Range.size, Nat.sub_zero, Nat.add_sub_cancel, Nat.div_one]
  refine wpAny_forIn_list _ (fun rest q s1 => q = (none, ()) ∧ s1 = s ∧ ∃ i, rest = List.range' i (es.size - i) ∧ i ≤ es.size) _ ?_ ?_ _ _ ⟨rfl, rfl, 0, by simp, Nat.zero_le _⟩
  · rintro x rest q s1 ⟨rfl, rfl, i, er, le⟩
    have lt : i < es.size := by
      refine Nat.lt_of_not_le fun z => ?_
      rw [Nat.sub_eq_zero_of_le z] at er; simp at er
    have er2 : x = i ∧ rest = List.range' (i + 1) (es.size - (i + 1)) := by
      rw [show es.size - i = (es.size - (i + 1)) + 1 by omega, List.range'_succ] at er
      injection er with z1 z2; exact ⟨z1, z2⟩
    obtain ⟨rfl, er3⟩ := er2
    refine wpAny_bind (wpAny_dictEntries ga fa ?_)
    rw [Array.getElem?_eq_getElem lt]
    obtain ⟨e, he, ee⟩ := ent x lt
    have mem := List.mem_of_getElem? he
    obtain ⟨y, hy, c, c1, c2⟩ := same e mem
    show wpAny _ _ (holding [es[x].key, es[x].val] _ >>= _) _ _ _
    rw [ee]
    refine wpAny_bind (wpAny_holding (wpAny_bind (wpAny_dictFind_heap (knd := nestedKind prog w) (k := nk e.1) hu (key e mem) gb fb lb isb ndb (fun no => ?_) fun j p hj => ?_)))
    · have : atKey (raws ys) (nk e.1) = none := atKey_none_of_get no
      rw [atKey_raws, hy] at this
      cases this
    · have hk : atKey (raws ys) (nk e.1) = some p := atKey_of_get ndb hj
      rw [atKey_raws, hy] at hk
      have ep : p = (y.2.1, Value.ref y.2.2.1) := (Option.some.inj hk).symm
      refine wpAny_bind (wpAny_dictEntries gb fb ?_)
      rw [entry_at lb j, hj]
      show wpAny _ _ (holding [p.2] (eqBool (.ref e.2.2.1) p.2)) _ _ _
      rw [ep]
      refine wpAny_holding ((nestedKind prog w).eqBool hu c1 c2 ?_)
      rw [decide_eq_true rfl, if_neg (by decide)]
      refine wpAny_bind (wpAny_dictEpoch ga fa ?_)
      rw [if_neg (by simp)]
      exact wpAny_pure ⟨rfl, rfl, x + 1, er3, lt⟩
  · rintro q s1 ⟨rfl, rfl, i, er, le⟩
    exact wpAny_pure h
end
/-- != of two tables that hold the same -/
def rNeN (P : Program) (w : PySem.World) : R2 := fun x y H Q => ∃ a b xs ys, x = .ref a ∧ y = .ref b ∧ TabAt P w H a xs ∧ TabAt P w H b ys ∧ xs.length = ys.length ∧ (∀ x ∈ xs, ∃ y, findN ys x.1 = some y ∧ y.2.2.2 = x.2.2.2) ∧ Q (.bl false) H
theorem val_key {P : Program} {w : PySem.World} {H : Hp} {h : Heap} {a : Addr} {zs : List Int} (ok : HOk P w H h) (e : H a = some (.tup (zs.map V.int))) : (nestedKind P w).is h (.tup (zs.map NestedKey.num)) a := by
  obtain ⟨_, i2, r2, o2, g2, c2, n2, d2⟩ := (show ObjOk P w H h a (.tup (zs.map V.int)) from ok a _ e)
  refine ⟨.tup g2 c2 d2 (by simpa using all_nums r2), ?_⟩
  simp only [NestedKey.depth, depth_nums]
  decide
theorem op_neN {X : Cx} (hu : X.A.units + 64 < cLine) : OpR X (compareOp .NotEq) (rNeN X.prog X.w) := by
  intro pins s σ H x y v u Q I rx ry h
  obtain ⟨a, b, xs, ys, rfl, rfl, ta, tb, ln, same, q⟩ := h
  cases rx
  cases ry
  have za := ta.sys
  obtain ⟨es, ep, hm, lna, ent⟩ := tab_dr I.hok ta.tab
  obtain ⟨zb, db⟩ := tab_of I.hok tb
  have tya := hm.typeIs
  have tyb := db.typeIs
  obtain ⟨oa, ga, xa, fa⟩ := hm
  refine wpAny_richCompare_same_room (op := .NotEq) tya tyb PySem.F.slot_dict_ne (wpAny_call_entry PySem.F.slot_dict_ne tya PySem.F.entry_dict_ne ?_ (PySem.F.args_dict_ne_2 _ _)) (by omega)
  show wpAny _ _ (Builtin.Dict.dictSlotArgs "__ne__" ⟨[.ref a, .ref b], []⟩ >>= _) _ _ s
  refine wpAny_bind ?_
  unfold Builtin.Dict.dictSlotArgs
  refine wpAny_bind (wpAny_notOrdered_dict tya ?_)
  show wpAny _ _ (pure (Value.ref a, Value.ref b)) _ _ s
  refine wpAny_pure ?_
  refine wpAny_bind (wpAny_isInstance (T := "dict") tyb PySem.F.sub_dict_dict ?_)
  simp only [Bool.not_true, Bool.false_eq_true, if_false]
  refine wpAny_bind (wpAny_pure (wpAny_bind (wpAny_pure ?_)))
  refine wpAny_bind (same_tabs (xs := xs) (ys := ys) (by rw [Around.in1_units]; omega) za zb ga fa ent lna db ln (fun x hx => key_at I.hok (ta.keys x hx)) (fun x hx => ?_) ?_)
  · obtain ⟨y, hy, e⟩ := same x hx
    refine ⟨y, hy, .tup (x.2.2.2.map NestedKey.num), val_key I.hok (ta.vals x hx), ?_⟩
    rw [← e]
    exact val_key I.hok (tb.vals y (List.mem_of_find?_eq_some hy))
  · refine wpAny_pure ⟨_, rfl, ?_, ?_⟩
    · exact fun x => nomatch x
    · exact ⟨.bl false, H, I, rfl, q⟩
end OP
namespace OP
open PySem PySem.Spec PyProof.Rows L2
/-- the i-th key and value of a table -/
def GN (xs : List Ent) (i : Nat) (H : Hp) (x y : V) : Prop := ∃ e, xs[i]? = some e ∧ x = .ref e.2.1 ∧ y = .ref e.2.2.1
theorem raw_tab {P : Program} {w : PySem.World} {d : Addr} {xs : List Ent} (z : (d == sysModules) = false) : RawR P w d (TabO P w d xs) xs.length (GN xs) := by
  intro X pins σ H s o hP hw I h
  obtain ⟨hd, ⟨o', es, ep, h1, h2, h3, h4⟩, _, _⟩ := (show ObjOk X.prog X.w H s.heap d (.frz o (TabO P w d xs)) from I.hok d _ h)
  rw [hd] at h1
  cases h1
  have ln : es.size = xs.length := by rw [← Array.length_toList, h4, List.length_map, raws_len]
  refine ⟨z, hd, es, ep, h2, h3, ln, fun i hi => ?_⟩
  have hx : i < xs.length := by omega
  have q : es.toList[i]? = some (entryOfKey (nestedKind P w) (nk xs[i].1, xs[i].2.1, Value.ref xs[i].2.2.1)) := by
    rw [h4, List.getElem?_map]
    unfold raws
    rw [List.getElem?_map, List.getElem?_eq_getElem hx] <;> rfl
  rw [Array.getElem?_toList, Array.getElem?_eq_getElem hi] at q
  rw [Option.some.inj q]
  exact ⟨_, _, ⟨xs[i], List.getElem?_eq_getElem hx, rfl, rfl⟩, rfl, rfl⟩
section
variable {X : Cx} {o i : Expr} {pos : Pos} {td ty : TE}
theorem pe_ngetK (P : Program) (w : PySem.World) (hu : X.A.units + 64 < cLine) (ho : PE X o td) (hi : PE X i ty) (hs : NoSl i) (hP : X.prog = P := by rfl) (hw : X.w = w := by rfl) : PE X (.Subscript o i pos) (tNGet P w td ty) := by
  subst hP hw
  exact pe_nget hu ho hi hs
/-- isinstance(table, dict) -/
theorem call_nisi : CallR X (.builtin "isinstance") (fun vs H Q => ∃ d xs, vs = [.ref d, .ty "dict"] ∧ TabAt X.prog X.w H d xs ∧ Q (.bl true) H) := by
  intro pins s σ H vs us Q I r h
  obtain ⟨d, xs, rfl, t, q⟩ := h
  obtain ⟨u1, u2, rfl, r1, r2⟩ := vals2 r
  cases (show u1 = Value.ref d from r1)
  cases (show u2 = Value.type "dict" from r2)
  obtain ⟨es, ep, ⟨o, h1, h2, _⟩, _, _⟩ := tab_dr I.hok t.tab
  exact PySem.W.kia_one (K := X.K) (b := true) PySem.W.kitx_dict I.kIn ⟨o, h1, h2.1⟩ (by unfold PySem.W.kitOne; rw [if_pos (by simp)]) (fun z => nomatch z) fun tk => ⟨.bl true, H, I.tok tk, rfl, q⟩
end
/-- any of some readings, by its name -/
def tAny {ι : Type} (t : ι → TE) : TE := fun σ H Q => ∃ i, t i σ H Q
theorem pe_anyN {X : Cx} {e : Expr} {ι : Type} {t : ι → TE} (h : ∀ i, PE X e (t i)) : PE X e (tAny t) := ⟨fun pins s σ H Q I q => by
  obtain ⟨i, q⟩ := q
  exact (h i).run pins s σ H Q I q⟩
/-- a table is no code object -/
theorem tab_ne_code {P : Program} {w : PySem.World} {d : Addr} {xs : List Ent} {q : Str} : TabO P w d xs ≠ LamX.CodeO d q := fun z => by
  unfold TabO LamX.CodeO at z
  injection z with z
  let o : Obj := { cls := .type "dict", data := .dict ((raws xs).map (entryOfKey (nestedKind P w))).toArray }
  let h : Heap := { objs := Array.replicate (d + 1) o }
  have e : h.get? d = some o := by
    have q : h.objs[d]? = some o := by
      show (Array.replicate (d + 1) o)[d]? = some o
      rw [Array.getElem?_replicate, if_pos (Nat.lt_succ_self d)]
    unfold Heap.get?
    rw [q]
  have t := congrFun z h
  have tt : ∃ o es ep, h.get? d = some o ∧ o.ExactDict ∧ o.data = .dict es ep ∧ es.toList = (raws xs).map (entryOfKey (nestedKind P w)) := ⟨o, _, _, e, ⟨rfl, rfl, rfl⟩, rfl, by simp⟩
  rw [t] at tt
  obtain ⟨oc, vs, t, h1, h2, _⟩ := tt
  rw [e] at h1
  cases h1
  cases h2
end OP
namespace OP
open PySem PySem.Spec PyProof.Rows L2
def pKinds : List Kind := [.put, .add, .add, .rais, .lower, .move, .addslot]
def kV' (k : Kind) : V := .str (word (some k))
theorem pk_low : ∀ i : Nat, i < 5 → ∀ h : i < pKinds.length, (pKinds[i]'h).src = false := by decide
theorem cut7 (n : Nat) (h : 1 ≤ n) : decide ((1 : Int) < (n : Int)) = decide (n ≠ 1) := decide_eq_decide.mpr (by omega)
section
variable {P : Program} {w : World} {K : PySem.W.Frag} {mg : Str → Option Value} {base : Heap}
def spPlain : Sp := fun vs H Q _ => ∃ (D : Addr) (n : Nat), vs = [.ref D, .int n] ∧ 1 ≤ n ∧ n ≤ 3 ∧ StD D H ∧ ∀ H' a o, Kd D H H' → RowAt H' a (.one o) → o.Ok → Fits n (.one o) → Q (.ref a) H'
theorem sc_plain : FnScope ["_law_draws", "_law_width", "_law_word", "_law_slot"] ["_law_draws", "_law_width"] (defScope s__law_plain) := ⟨rfl, rfl, rfl, by decide +kernel, rfl, by decide +kernel, by decide +kernel⟩
theorem ok_plain (T : Txt K mg) : Ok P w K mg base (a__law_plain K) ["_law_draws", "_law_width"] 2 spPlain := by
  have GT : Ok P w K mg base (a__law_take K) _ 1 spTake := ok_take T
  refine ok_of T.f__law_plain sc_plain (fun _ _ _ _ _ _ us hl => match us, hl with | [_, _], _ => rfl) (fun vs H Q E h => ?_) (fun cdv A outer s H vs Q E hr h => ?_)
  · obtain ⟨D, n, rfl, _⟩ := h
    rfl
  · obtain ⟨D, n, rfl, n1, n3, hD, kk⟩ := h
    refine ⟨_, (pss_cons (ps_set (i := 2) sc_plain.nd rfl (Or.inl rfl) (pe_ix ix_tup (pe_tup (pa_cons pe_str (pa_cons pe_str (pa_cons pe_str (pa_cons pe_str (pa_cons pe_str (pa_cons pe_str (pa_cons pe_str pa_nil)))))))) (pe_c GT hr T.g__law_take (pa_cons (pv 0) (pa_cons (pe_ifExp (pt_cmpR op_gt (pv 1) pe_int (nomark _)) pe_int pe_int) pa_nil))) (fun _ _ => rfl)))
      (pss_cons (ps_set (i := 3) sc_plain.nd rfl (Or.inl rfl) (pe_c GT hr T.g__law_take (pa_cons (pv 0) (pa_cons (pv 1) pa_nil))))
      (pss_cons (ps_if (pt_cmpR op_eq (pv 2) pe_str (nomark _)) (pss_one (ps_ret (pe_tup (pa_cons (pv 2) (pa_cons (pv 3) (pa_cons (pe_op op_mod (pe_op op_add (pe_op op_add (pv 3) pe_int) (pe_c GT hr T.g__law_take (pa_cons (pv 0) (pa_cons (pe_op op_sub (pv 1) pe_int) pa_nil)))) (pv 1)) pa_nil)))))) pss_nil)
      (pss_cons (ps_if (pt_cmpR op_eq (pv 2) pe_str (nomark _)) (pss_one (ps_ret (pe_tup (pa_cons (pv 2) (pa_cons (pv 3) (pa_cons (pe_c GT hr T.g__law_take (pa_cons (pv 0) (pa_cons (pv 1) pa_nil))) pa_nil)))))) pss_nil)
      (pss_one (ps_ret (pe_tup (pa_cons (pv 2) (pa_cons (pv 3) (pa_cons (pe_ix ix_tup (pe_tup (pa_cons pe_int (pa_cons pe_int (pa_cons pe_int (pa_cons pe_int (pa_cons pe_int (pa_cons pe_int pa_nil))))))) (pe_c GT hr T.g__law_take (pa_cons (pv 0) (pa_cons pe_int pa_nil))) (fun _ _ => rfl)) pa_nil)))))))))), ?_⟩
    refine ⟨(by show 7 ≤ sizeLine; decide), fun t ht => ⟨_, rfl, _, rfl, _, _, rfl, rfl, _, rfl, ?_⟩⟩
    have s1 : Same H _ := same_upd (o := .tup (pKinds.map kV')) ht
    have ht1 : upd H t (.tup (pKinds.map kV')) t = some (.tup (pKinds.map kV')) := upd_same
    have hm : (pKinds.map kV').length = 7 := rfl
    rw [cut7 n n1]
    have pick : ∀ v : Int, 0 ≤ v → v < 7 → (n = 1 → v < 5) → ∃ q : Kind, atI (pKinds.map kV') v = some (.str (word (some q))) ∧ (q.src = true → 2 ≤ n) := fun v a0 a1 a5 => by
      obtain ⟨hl, e⟩ := at_in (xs := pKinds.map kV') a0 (by rw [hm]; omega)
      rw [List.getElem_map] at e
      refine ⟨_, e, fun z => ?_⟩
      by_cases h : n = 1
      · have z2 := pk_low v.toNat (by have := a5 h; omega) (by rw [List.length_map] at hl; exact hl)
        rw [z2] at z
        cases z
      · omega
    have body : ∀ (H2 : Hp) (v : Int), Kd D (upd H t (.tup (pKinds.map kV'))) H2 → 0 ≤ v → v < 7 → (n = 1 → v < 5) → Kd D H H2 ∧ H2 t = some (.tup (pKinds.map kV')) ∧ ∃ q : Kind, atI (pKinds.map kV') v = some (.str (word (some q))) ∧ (q.src = true → 2 ≤ n) := fun H2 v k2 a0 a1 a5 => ⟨(Kd.of hD s1).trans k2, k2.tup ht1, pick v a0 a1 a5⟩
    by_cases c : n = 1
    · rw [decide_eq_false (fun z => z c)]
      refine iteF ⟨D, 5, rfl, by decide, hD.ext s1, fun H2 k2 v a0 a1 => ?_⟩
      obtain ⟨k12, ht2, q, e, hq⟩ := body H2 v k2 a0 (by omega) (fun _ => a1)
      refine ⟨t, _, v, _, rfl, rfl, SqT.of ht2, e, ?_⟩
      exact (by
        refine ⟨_, rfl, _, rfl, D, n, rfl, by omega, k2.b, fun H3 k3 v3 a3 b3 => ?_⟩
        obtain ⟨ms, rfl⟩ := nat_of a3
        have k13 := k12.trans k3
        refine ⟨_, rfl, rfl, _, rfl, ?_⟩
        rw [w_move]
        by_cases c1 : q = .move
        · rw [decide_eq_true (by rw [c1])]
          have n2 := hq (by rw [c1]; rfl)
          refine iteT ⟨_, rfl, _, rfl, _, rfl, _, _, rfl, rfl, _, rfl, _, rfl, _, _, rfl, rfl, D, (n : Int) - 1, rfl, by omega, k3.b, fun H4 k4 v4 a4 b4 => ?_⟩
          have hn0 : (0 : Int) < (n : Int) := by omega
          refine ⟨_, _, rfl, rfl, _, rfl, _, _, rfl, rfl, hn0, ?_⟩
          have hlt := Int.emod_lt_of_pos ((ms : Int) + 1 + v4) hn0
          obtain ⟨m5, hm5⟩ := nat_of (v := ((ms : Int) + 1 + v4) % (n : Int)) (Int.emod_nonneg _ (by omega))
          have hne : m5 ≠ ms := fun z => by
            rw [z] at hm5
            have hz := Int.emod_emod_of_dvd
            by_cases hb : (ms : Int) + 1 + v4 < n
            · rw [Int.emod_eq_of_lt (by omega) hb] at hm5
              omega
            · have e2 : ((ms : Int) + 1 + v4) % (n : Int) = (ms : Int) + 1 + v4 - n := by
                rw [← Int.sub_emod_right, Int.emod_eq_of_lt (by omega) (by omega)]
              omega
          refine ⟨(by show 3 ≤ sizeLine; decide), fun p hp => ?_⟩
          have s8 : Same H4 _ := same_upd (o := .tup [.str (word (some q)), .int ms, .int (((ms : Int) + 1 + v4) % (n : Int))]) hp
          refine kk _ p ⟨.move, ms, m5⟩ ((k13.trans k4).same s8) (by show _ = some (HO.tup [.str "move", .int ms, .int (m5 : Int)]); rw [← hm5, upd_same, c1] <;> rfl) ⟨by show ms ≤ 2; omega, by show m5 ≤ 7; omega, fun _ => by show m5 ≤ 2; omega, fun _ => hne⟩ (fits_one (by show ms < n; omega) fun _ => by show m5 < n; omega)
        · rw [decide_eq_false (by simpa using c1)]
          refine iteF ⟨_, rfl, rfl, _, rfl, ?_⟩
          rw [w_addslot]
          by_cases c2 : q = .addslot
          · rw [decide_eq_true (by rw [c2])]
            refine iteT ⟨_, rfl, _, rfl, _, rfl, _, rfl, D, n, rfl, by omega, k3.b, fun H4 k4 v4 a4 b4 => ?_⟩
            obtain ⟨m5, rfl⟩ := nat_of a4
            refine ⟨(by show 3 ≤ sizeLine; decide), fun p hp => ?_⟩
            have s8 : Same H4 _ := same_upd (o := .tup [.str (word (some q)), .int ms, .int m5]) hp
            refine kk _ p ⟨.addslot, ms, m5⟩ ((k13.trans k4).same s8) (by show _ = some (HO.tup [.str "addslot", .int ms, .int (m5 : Int)]); rw [upd_same, c2] <;> rfl) ⟨by show ms ≤ 2; omega, by show m5 ≤ 7; omega, fun _ => by show m5 ≤ 2; omega, fun z => by cases z⟩ (fits_one (by show ms < n; omega) fun _ => by show m5 < n; omega)
          · rw [decide_eq_false (by simpa using c2)]
            have ns : q.src = false := by
              cases q with
              | move => exact absurd rfl c1
              | addslot => exact absurd rfl c2
              | put => rfl
              | add => rfl
              | rais => rfl
              | lower => rfl
            refine iteF ⟨_, rfl, _, rfl, (by show 6 ≤ sizeLine; decide), fun t5 ht5 => ?_⟩
            have s5 : Same H3 _ := same_upd (o := .tup (([0, 1, 2, 4, 7, 3] : List Int).map V.int)) ht5
            have ht6 : upd H3 t5 (.tup (([0, 1, 2, 4, 7, 3] : List Int).map V.int)) t5 = _ := upd_same
            refine ⟨_, rfl, D, 6, rfl, by decide, k3.b.ext s5, fun H4 k4 v4 a4 b4 => ?_⟩
            obtain ⟨hl, e6⟩ := at_in (xs := ([0, 1, 2, 4, 7, 3] : List Int).map V.int) a4 b4
            rw [List.getElem_map] at e6
            have all6 : ∀ z ∈ ([0, 1, 2, 4, 7, 3] : List Int), 0 ≤ z ∧ z ≤ 7 := by decide
            have z6 := all6 _ (List.getElem_mem (by rw [List.length_map] at hl; exact hl))
            refine ⟨t5, _, v4, _, rfl, rfl, SqT.of (k4.tup ht6), e6, ?_⟩
            generalize ([0, 1, 2, 4, 7, 3] : List Int)[v4.toNat]'(by rw [List.length_map] at hl; exact hl) = z at z6 ⊢
            obtain ⟨m6, rfl⟩ := nat_of z6.1
            refine ⟨(by show 3 ≤ sizeLine; decide), fun p hp => ?_⟩
            have s8 : Same H4 _ := same_upd (o := .tup [.str (word (some q)), .int ms, .int m6]) hp
            refine kk _ p ⟨q, ms, m6⟩ (((k13.same s5).trans k4).same s8) upd_same ⟨by show ms ≤ 2; omega, by show m6 ≤ 7; omega, fun z => ?_, fun z => absurd z c1⟩ (fits_one (by show ms < n; omega) fun z => ?_)
            · have z : q.src = true := z
              rw [ns] at z; cases z
            · have z : q.src = true := z
              rw [ns] at z; cases z)
    · rw [decide_eq_true c]
      refine iteT ⟨D, 7, rfl, by decide, hD.ext s1, fun H2 k2 v a0 a1 => ?_⟩
      obtain ⟨k12, ht2, q, e, hq⟩ := body H2 v k2 a0 a1 (fun z => (c z).elim)
      refine ⟨t, _, v, _, rfl, rfl, SqT.of ht2, e, ?_⟩
      exact (by
        refine ⟨_, rfl, _, rfl, D, n, rfl, by omega, k2.b, fun H3 k3 v3 a3 b3 => ?_⟩
        obtain ⟨ms, rfl⟩ := nat_of a3
        have k13 := k12.trans k3
        refine ⟨_, rfl, rfl, _, rfl, ?_⟩
        rw [w_move]
        by_cases c1 : q = .move
        · rw [decide_eq_true (by rw [c1])]
          have n2 := hq (by rw [c1]; rfl)
          refine iteT ⟨_, rfl, _, rfl, _, rfl, _, _, rfl, rfl, _, rfl, _, rfl, _, _, rfl, rfl, D, (n : Int) - 1, rfl, by omega, k3.b, fun H4 k4 v4 a4 b4 => ?_⟩
          have hn0 : (0 : Int) < (n : Int) := by omega
          refine ⟨_, _, rfl, rfl, _, rfl, _, _, rfl, rfl, hn0, ?_⟩
          have hlt := Int.emod_lt_of_pos ((ms : Int) + 1 + v4) hn0
          obtain ⟨m5, hm5⟩ := nat_of (v := ((ms : Int) + 1 + v4) % (n : Int)) (Int.emod_nonneg _ (by omega))
          have hne : m5 ≠ ms := fun z => by
            rw [z] at hm5
            have hz := Int.emod_emod_of_dvd
            by_cases hb : (ms : Int) + 1 + v4 < n
            · rw [Int.emod_eq_of_lt (by omega) hb] at hm5
              omega
            · have e2 : ((ms : Int) + 1 + v4) % (n : Int) = (ms : Int) + 1 + v4 - n := by
                rw [← Int.sub_emod_right, Int.emod_eq_of_lt (by omega) (by omega)]
              omega
          refine ⟨(by show 3 ≤ sizeLine; decide), fun p hp => ?_⟩
          have s8 : Same H4 _ := same_upd (o := .tup [.str (word (some q)), .int ms, .int (((ms : Int) + 1 + v4) % (n : Int))]) hp
          refine kk _ p ⟨.move, ms, m5⟩ ((k13.trans k4).same s8) (by show _ = some (HO.tup [.str "move", .int ms, .int (m5 : Int)]); rw [← hm5, upd_same, c1] <;> rfl) ⟨by show ms ≤ 2; omega, by show m5 ≤ 7; omega, fun _ => by show m5 ≤ 2; omega, fun _ => hne⟩ (fits_one (by show ms < n; omega) fun _ => by show m5 < n; omega)
        · rw [decide_eq_false (by simpa using c1)]
          refine iteF ⟨_, rfl, rfl, _, rfl, ?_⟩
          rw [w_addslot]
          by_cases c2 : q = .addslot
          · rw [decide_eq_true (by rw [c2])]
            refine iteT ⟨_, rfl, _, rfl, _, rfl, _, rfl, D, n, rfl, by omega, k3.b, fun H4 k4 v4 a4 b4 => ?_⟩
            obtain ⟨m5, rfl⟩ := nat_of a4
            refine ⟨(by show 3 ≤ sizeLine; decide), fun p hp => ?_⟩
            have s8 : Same H4 _ := same_upd (o := .tup [.str (word (some q)), .int ms, .int m5]) hp
            refine kk _ p ⟨.addslot, ms, m5⟩ ((k13.trans k4).same s8) (by show _ = some (HO.tup [.str "addslot", .int ms, .int (m5 : Int)]); rw [upd_same, c2] <;> rfl) ⟨by show ms ≤ 2; omega, by show m5 ≤ 7; omega, fun _ => by show m5 ≤ 2; omega, fun z => by cases z⟩ (fits_one (by show ms < n; omega) fun _ => by show m5 < n; omega)
          · rw [decide_eq_false (by simpa using c2)]
            have ns : q.src = false := by
              cases q with
              | move => exact absurd rfl c1
              | addslot => exact absurd rfl c2
              | put => rfl
              | add => rfl
              | rais => rfl
              | lower => rfl
            refine iteF ⟨_, rfl, _, rfl, (by show 6 ≤ sizeLine; decide), fun t5 ht5 => ?_⟩
            have s5 : Same H3 _ := same_upd (o := .tup (([0, 1, 2, 4, 7, 3] : List Int).map V.int)) ht5
            have ht6 : upd H3 t5 (.tup (([0, 1, 2, 4, 7, 3] : List Int).map V.int)) t5 = _ := upd_same
            refine ⟨_, rfl, D, 6, rfl, by decide, k3.b.ext s5, fun H4 k4 v4 a4 b4 => ?_⟩
            obtain ⟨hl, e6⟩ := at_in (xs := ([0, 1, 2, 4, 7, 3] : List Int).map V.int) a4 b4
            rw [List.getElem_map] at e6
            have all6 : ∀ z ∈ ([0, 1, 2, 4, 7, 3] : List Int), 0 ≤ z ∧ z ≤ 7 := by decide
            have z6 := all6 _ (List.getElem_mem (by rw [List.length_map] at hl; exact hl))
            refine ⟨t5, _, v4, _, rfl, rfl, SqT.of (k4.tup ht6), e6, ?_⟩
            generalize ([0, 1, 2, 4, 7, 3] : List Int)[v4.toNat]'(by rw [List.length_map] at hl; exact hl) = z at z6 ⊢
            obtain ⟨m6, rfl⟩ := nat_of z6.1
            refine ⟨(by show 3 ≤ sizeLine; decide), fun p hp => ?_⟩
            have s8 : Same H4 _ := same_upd (o := .tup [.str (word (some q)), .int ms, .int m6]) hp
            refine kk _ p ⟨q, ms, m6⟩ (((k13.same s5).trans k4).same s8) upd_same ⟨by show ms ≤ 2; omega, by show m6 ≤ 7; omega, fun z => ?_, fun z => absurd z c1⟩ (fits_one (by show ms < n; omega) fun z => ?_)
            · have z : q.src = true := z
              rw [ns] at z; cases z
            · have z : q.src = true := z
              rw [ns] at z; cases z)
end
end OP
namespace OP
open PySem PySem.Spec PyProof.Rows L2
/-- a list of drawn numbers -/
theorem lcR_kd {n : Nat} {D Dn : Addr} {te : TE} {j : Nat} {σ : L2.St} {H1 : Hp} {Qd : Hp → Prop} (hD : H1 D = none) (hst : StD Dn H1) (hsz : n ≤ 1000)
    (hs : ∀ (i : Nat) H (Qe : VK), Kd Dn H1 H → (∀ (v : Int) H', Kd Dn H H' → 0 ≤ v → v ≤ 7 → Qe (.int v) H') → te ((wipe σ [j]).set j (some (.int (0 + (i : Int))))) H Qe)
    (hd : ∀ H (xs : List Int), Kd Dn H1 H → H D = some (.lst (xs.map V.int)) → xs.length = n → (∀ x ∈ xs, 0 ≤ x ∧ x ≤ 7) → Qd H)
    (hw : ∀ x, wipe ((wipe σ [j]).set j (some x)) [j] = wipe σ [j] := by intro _; rfl) : LcOk (Itr 0 n) (gName j) tYes te [j] σ H1 D Qd := by
  have ne := hst.new hD
  refine lc_it walk_range (fun i H => ∃ xs : List Int, Kd Dn H1 H ∧ H D = some (.lst (xs.map V.int)) ∧ xs.length = i ∧ ∀ x ∈ xs, 0 ≤ x ∧ x ≤ 7) ⟨[], Kd.of hst (same_upd hD), upd_same, rfl, fun x hx => by cases hx⟩ (fun _ _ _ _ => trivial) (fun i x H H' hi q y => ?_) (fun H q => ?_)
  · obtain ⟨rfl, rfl⟩ := y
    obtain ⟨xs, k1, e1, l1, b1⟩ := q
    refine ⟨hw _, tyes (iteT ?_)⟩
    refine hs i H' _ k1 fun v H4 k4 h0 h7 => ?_
    refine ⟨_, k4.k _ _ ne e1, small1000 (by rw [List.length_map]; omega), xs ++ [v], ?_, ?_, by rw [List.length_append, l1] <;> rfl, fun z hz => ?_⟩
    · exact (k1.trans k4).upd hD ne
    · rw [upd_same, List.map_append] <;> rfl
    · rcases List.mem_append.mp hz with z1 | z1
      · exact b1 z z1
      · obtain rfl := List.mem_singleton.mp z1
        exact ⟨h0, h7⟩
  · obtain ⟨xs, k1, e1, l1, b1⟩ := q
    exact hd H xs k1 e1 l1 b1
def gNames : List Str := ["reset", "count", "put", "x"]
theorem any_eqv (S : List (List Int)) (xs : List Int) : ((S.map dT).any fun z => PyData.eqv z (dT xs)) = decide (xs ∈ S) := by
  induction S with
  | nil => rfl
  | cons y S ih =>
    rw [List.map_cons, List.any_cons, ih, eqv_T]
    by_cases h : y = xs
    · rw [decide_eq_true h, Bool.true_or, decide_eq_true (by rw [h]; exact List.mem_cons_self)]
    · rw [decide_eq_false h, Bool.false_or]
      refine decide_eq_decide.mpr ⟨fun z => List.mem_cons_of_mem _ z, fun z => ?_⟩
      rcases List.mem_cons.mp z with z | z
      · exact absurd z.symm h
      · exact z
theorem gn_ok : ∀ x ∈ gNames, 1 ≤ x.length ∧ x.length ≤ 8 ∧ ∀ c ∈ x.cps.toList, c ∈ ("abcdefghijklmnopqrstuvwxyz" : Str).cps.toList := by decide +kernel
theorem gn_nd : gNames.Nodup := by decide +kernel
/-! ### a plan: rows of a name and a change's row -/
abbrev Prw := List (Addr × Str × Addr × Chg)
def RsAt (H : Hp) (Z : Prw) : Prop := ∀ q ∈ Z, H q.1 = some (.tup [.str q.2.1, .ref q.2.2.1]) ∧ RowAt H q.2.2.1 q.2.2.2
def prefs (Z : Prw) : List V := Z.map fun q => V.ref q.1
def ncs (Z : Prw) : Ncs := Z.map (·.2)
theorem RsAt.ext {H H' : Hp} {Z : Prw} (s : Same H H') (h : RsAt H Z) : RsAt H' Z := fun q hq => ⟨s _ _ (h q hq).1, (h q hq).2.ext s⟩
theorem RsAt.kd {D : Addr} {H H' : Hp} {Z : Prw} (k : Kd D H H') (h : RsAt H Z) : RsAt H' Z := fun q hq => ⟨k.tup (h q hq).1, (h q hq).2.kd k⟩
theorem StsAt.kd {D : Addr} {H H' : Hp} {S : Sts} (k : Kd D H H') (h : StsAt H S) : StsAt H' S := fun p hp => k.tup (h p hp)
structure PlanAt (H : Hp) (t : Addr) (n : Nat) (S : Sts) (Z : Prw) : Prop where
  ob : ∃ l r, H t = some (.tup [.int n, .ref l, .ref r]) ∧ H l = some (.lst (refs S)) ∧ H r = some (.lst (prefs Z))
  sts : StsAt H S
  rows : RsAt H Z
theorem PlanAt.ext {H H' : Hp} {t : Addr} {n : Nat} {S : Sts} {Z : Prw} (s : Same H H') (h : PlanAt H t n S Z) : PlanAt H' t n S Z := by
  obtain ⟨⟨l, r, h1, h2, h3⟩, h4, h5⟩ := h
  exact ⟨⟨l, r, s _ _ h1, s _ _ h2, s _ _ h3⟩, h4.ext s, h5.ext s⟩
theorem RowAt.off {H : Hp} {a D : Addr} {c : Chg} {ys : List V} {u : HO} (hd : H D = some (.lst ys)) (h : RowAt H a c) : RowAt (upd H D u) a c := by
  cases c with
  | one o =>
    have h : H a = some (.tup (oneRow o)) := h
    show upd H D u a = _
    rw [upd_ne (tup_ne h hd)]
    exact h
  | iff s v o =>
    obtain ⟨b, h1, h2⟩ := h
    exact ⟨b, by rw [upd_ne (tup_ne h1 hd)]; exact h1, by rw [upd_ne (tup_ne h2 hd)]; exact h2⟩
theorem RsAt.off {H : Hp} {Z : Prw} {D : Addr} {ys : List V} {u : HO} (hd : H D = some (.lst ys)) (h : RsAt H Z) : RsAt (upd H D u) Z := fun q hq => by
  refine ⟨?_, (h q hq).2.off hd⟩
  rw [upd_ne (tup_ne (h q hq).1 hd)]
  exact (h q hq).1
theorem RsAt.snoc {H : Hp} {Z : Prw} {q : Addr × Str × Addr × Chg} (h : RsAt H Z) (h1 : H q.1 = some (.tup [.str q.2.1, .ref q.2.2.1])) (h2 : RowAt H q.2.2.1 q.2.2.2) : RsAt H (Z ++ [q]) := fun x hx => by
  rcases List.mem_append.mp hx with z | z
  · exact h x z
  · obtain rfl := List.mem_singleton.mp z
    exact ⟨h1, h2⟩
theorem refs_len (S : Sts) : (refs S).length = S.length := List.length_map ..
theorem prefs_len (Z : Prw) : (prefs Z).length = Z.length := List.length_map ..
theorem fits_iff' {n s v : Nat} {o : One} (h : s < n) (h2 : Fits n (.one o)) : Fits n (.iff s v o) := fits_iff h h2
theorem gcut : ∀ m : Nat, m ≤ 4 → cutV (gNames.map V.str) none (some (m : Int)) = (gNames.take m).map V.str := by decide +kernel
theorem gwhole : ∀ m : Nat, m ≤ 4 → (HT.sIx (gNames.map V.str).length 0 none = 0 ∧ HT.sIx (gNames.map V.str).length (gNames.map V.str).length (some (m : Int)) = (gNames.map V.str).length) → gNames.take m = gNames := by decide +kernel
section
variable {P : Program} {w : World} {K : PySem.W.Frag} {mg : Str → Option Value} {base : Heap}
def spDW : Sp := fun vs H Q _ => ∃ (D : Addr) (most : Int), vs = [.ref D, .int most] ∧ 3 ≤ most ∧ most ≤ 4 ∧ StD D H ∧
  ∀ H' t n S Z (m : Nat), Kd D H H' → PlanAt H' t n S Z → WOk n S (ncs Z) → S.length ≤ 3 → 2 ≤ m → (m : Int) ≤ most → names (ncs Z) = gNames.take m → Q (.ref t) H'
abbrev nDW : List Str := ["_law_draws", "_law_most", "_law_width", "_law_stores", "_law_rows", "_law_turn", "_law_store", "_law_name", "_law_change_here", "_law_slot"]
theorem sc_dw : FnScope nDW ["_law_draws", "_law_most"] (defScope s__law_drawn_world) := ⟨rfl, rfl, rfl, by decide +kernel, rfl, by decide +kernel, by decide +kernel⟩
theorem ok_dw (T : Txt K mg) : Ok P w K mg base (a__law_drawn_world K) ["_law_draws", "_law_most"] 3 spDW := by
  have GT : Ok P w K mg base (a__law_take K) _ 1 spTake := ok_take T
  have GP : Ok P w K mg base (a__law_plain K) _ 2 spPlain := ok_plain T
  refine ok_of T.f__law_drawn_world sc_dw (fun _ _ _ _ _ _ us hl => match us, hl with | [_, _], _ => rfl) (fun vs H Q E h => ?_) (fun cdv A outer s0 H vs Q E hr h => ?_)
  · obtain ⟨D, most, rfl, _⟩ := h
    rfl
  · obtain ⟨D, most, rfl, mo3, mo4, hD, kk⟩ := h
    have hr1 : Room 1 _ := hr.mono (by decide)
    have hu : _ + 65 < cLine := room65 hr
    refine ⟨_, (pss_cons (ps_par3 rfl sc_dw.nd (i := 2) (j := 3) (l := 4) rfl rfl rfl (by decide) (by decide) (by decide) rfl rfl rfl (pa_cons (pe_op op_add pe_int (pe_c GT hr1 T.g__law_take (pa_cons (pv 0) (pa_cons pe_int pa_nil)))) (pa_cons (pe_lst pa_nil) (pa_cons (pe_lst pa_nil) pa_nil))) (by rfl))
      (pss_cons (ps_for PassesOwn.never rfl (pi_range1 (by rfl) T.z_range (pa_cons (pe_op op_add pe_int (pe_c GT hr1 T.g__law_take (pa_cons (pv 0) (pa_cons pe_int pa_nil)))) pa_nil)) (pg_name (i := 5) sc_dw.nd rfl (Or.inl rfl)) (pss_cons (ps_set (i := 6) sc_dw.nd rfl (Or.inl rfl) (pe_tupleOf (by rfl) T.z_tuple (pe_lc (own := [("_law_slot", 9)]) (g := gName 9) (tt := tYes) rfl sc_dw.nd (pi_range1 (by rfl) T.z_range (pa_cons (pv 2) pa_nil)) (blkOk_by (own := [("_law_slot", 9)]) (N := ["_law_draws", "_law_most", "_law_width", "_law_stores", "_law_rows", "_law_turn", "_law_store", "_law_name", "_law_change_here", "_law_slot"]) (sc := defScope s__law_drawn_world) (by decide +kernel)) (fun _ _ _ _ _ => (pg_name (i := 9) sc_dw.nd rfl (Or.inl rfl))) (fun _ _ _ _ _ => pts_nil) (fun _ _ _ _ _ => (pe_ix (ix_tupK K) (pe_tup (pa_cons pe_int (pa_cons pe_int (pa_cons pe_int (pa_cons pe_int pa_nil))))) (pe_c GT hr1 T.g__law_take (pa_cons (pv 0) (pa_cons pe_int pa_nil))) (fun _ _ => rfl))))))
      (pss_one (ps_set (i := 3) sc_dw.nd rfl (Or.inl rfl) (pe_op op_cat (pv 3) (pe_ifExp (pt_cmpR (op_inD hu) (pv 6) (pv 3) (by rfl)) (pe_lst pa_nil) (pe_lst (pa_cons (pv 6) pa_nil))))))))
      (pss_cons (ps_for PassesOwn.never rfl (pi_tup (pe_slice sl_tupA (pe_tup (pa_cons pe_str (pa_cons pe_str (pa_cons pe_str (pa_cons pe_str pa_nil))))) po_none (po_some (pe_op op_add pe_int (pe_c GT hr1 T.g__law_take (pa_cons (pv 0) (pa_cons (pe_op op_sub (pv 1) pe_int) pa_nil))))))) (pg_name (i := 7) sc_dw.nd rfl (Or.inl rfl)) (pss_cons (ps_set (i := 8) sc_dw.nd rfl (Or.inl rfl) (pe_c GP hr T.g__law_plain (pa_cons (pv 0) (pa_cons (pv 2) pa_nil))))
      (pss_cons (ps_if (pt_cmpR op_eq (pe_c GT hr1 T.g__law_take (pa_cons (pv 0) (pa_cons pe_int pa_nil))) pe_int (nomark _)) (pss_one (ps_set (i := 8) sc_dw.nd rfl (Or.inl rfl) (pe_tup (pa_cons pe_str (pa_cons (pe_c GT hr1 T.g__law_take (pa_cons (pv 0) (pa_cons (pv 2) pa_nil))) (pa_cons (pe_ix ix_tup (pe_tup (pa_cons pe_int (pa_cons pe_int (pa_cons pe_int (pa_cons pe_int pa_nil))))) (pe_c GT hr1 T.g__law_take (pa_cons (pv 0) (pa_cons pe_int pa_nil))) (fun _ _ => rfl)) (pa_cons (pv 8) pa_nil))))))) pss_nil)
      (pss_one (ps_expr (pe_bm PySem.F.plainAttrs_list PySem.F.slot_list_append PySem.F.type_list_append mt_append (pv 4) (pa_cons (pe_tup (pa_cons (pv 7) (pa_cons (pv 8) pa_nil))) pa_nil)))))))
      (pss_one (ps_ret (pe_tup (pa_cons (pv 2) (pa_cons (pv 3) (pa_cons (pv 4) pa_nil))))))))), ?_⟩
    refine ⟨_, rfl, D, 3, rfl, by decide, hD, fun H1 k1 v1 a1 b1 => ⟨_, _, rfl, rfl, (by show 0 ≤ sizeLine; exact Nat.zero_le _), fun l hl => ⟨(by show 0 ≤ sizeLine; exact Nat.zero_le _), fun r hr' => ⟨_, _, _, rfl, ?_⟩⟩⟩⟩
    obtain ⟨n, en⟩ := nat_of (v := 1 + v1) (by omega)
    have hn1 : 1 ≤ n := by omega
    have hn3 : n ≤ 3 := by omega
    dsimp only
    rw [en]
    have lD := k1.b.new hl
    have s1 : Same H1 _ := same_upd (o := .lst []) hl
    have rl : r ≠ l := fun z => by rw [z, upd_same] at hr'; cases hr'
    have rD : r ≠ D := (k1.b.ext s1).new hr'
    have s2 : Same H1 (upd (upd H1 l (.lst [])) r (.lst [])) := s1.push hr'
    have hl2 : upd (upd H1 l (.lst [])) r (.lst []) l = some (.lst []) := by rw [upd_ne (Ne.symm rl), upd_same]
    have hr2 : upd (upd H1 l (.lst [])) r (.lst []) r = some (.lst []) := upd_same
    have k2 : Kd D H (upd (upd H1 l (.lst [])) r (.lst [])) := k1.same s2
    have newr : ∀ x u, x ≠ D → H x = some u → x ≠ r := fun x u nx e => by
      rw [upd_ne rl] at hr'
      exact ne_of_none (k1.k _ _ nx e) hr'
    generalize upd (upd H1 l (.lst [])) r (.lst []) = H2 at hl2 hr2 k2
    refine ⟨_, rfl, D, 3, rfl, by decide, k2.b, fun H3 k3 v3 a3 b3 => ⟨_, _, rfl, rfl, 1 + v3, rfl, by omega, by omega, ?_⟩⟩
    refine for_range (fun i σ H' => i ≤ (1 + v3).toNat ∧ ∃ (l : Addr) (S : Sts) (v5 v6 : Option V), σ = [some (.ref D), some (.int most), some (.int n), some (.ref l), some (.ref r), v5, v6, none, none, none] ∧ Kd D H H' ∧ l ≠ D ∧ l ≠ r ∧ H' l = some (.lst (refs S)) ∧ H' r = some (.lst []) ∧ StsAt H' S ∧ (∀ p ∈ S, StoreOk p.2 ∧ p.2.length = n) ∧ (S.map (·.2)).Nodup ∧ S.length ≤ i ∧ (1 ≤ i → 1 ≤ S.length))
      ⟨Nat.zero_le _, l, [], none, none, rfl, k2.trans k3, lD, Ne.symm rl, k3.k _ _ lD hl2, k3.k _ _ rD hr2, (fun p hp => absurd hp List.not_mem_nil), (fun p hp => absurd hp List.not_mem_nil), List.nodup_nil, Nat.le_refl _, fun z => by omega⟩ (fun i σ H4 hi q => ?_) fun σ H4 q => ?_
    · obtain ⟨_, l, S, v5, v6, rfl, k4, lD, lr, hl4, hr4, hS4, each, nd, len, pos⟩ := q
      refine ⟨_, rfl, n, rfl, by omega, by omega, fun C hC => ?_⟩
      refine lcR_kd (Dn := D) hC k4.b (by omega) (fun j H5 Qe k5 kq => ?_) fun H5 xs k5 e5 len5 bd5 => ?_
      · refine ⟨(by show 4 ≤ sizeLine; decide), fun t6 ht6 => ⟨_, rfl, D, 4, rfl, by decide, k5.b.ext (same_upd ht6), fun H6 k6 v6 a6 b6 => ?_⟩⟩
        have ht : upd H5 t6 (.tup (([0, 1, 3, 7] : List Int).map V.int)) t6 = _ := upd_same
        obtain ⟨hl, e6⟩ := at_in (xs := ([0, 1, 3, 7] : List Int).map V.int) a6 b6
        rw [List.getElem_map] at e6
        have all4 : ∀ z ∈ ([0, 1, 3, 7] : List Int), 0 ≤ z ∧ z ≤ 7 := by decide
        have z6 := all4 _ (List.getElem_mem (by rw [List.length_map] at hl; exact hl))
        exact ⟨t6, _, v6, _, rfl, rfl, SqT.of (k6.tup ht), e6, kq _ H6 ((Kd.of k5.b (same_upd ht6)).trans k6) z6.1 z6.2⟩
      · refine .inl ⟨C, _, rfl, SqL.of e5, fun q hq => ?_⟩
        have s6 : Same H5 _ := same_upd (o := .tup (xs.map V.int)) hq
        have q6 : upd H5 q (.tup (xs.map V.int)) q = _ := upd_same
        have k6 := (k4.trans k5).same s6
        have l6 := s6 _ _ (k5.k _ _ lD hl4)
        have r6 := s6 _ _ (k5.k _ _ (fun z => rD z) hr4)
        have S6 := (hS4.kd k5).ext s6
        generalize upd H5 q (.tup (xs.map V.int)) = H6 at q6 k6 l6 r6 S6
        refine ⟨_, rfl, _, rfl, _, rfl, dT xs, _, dp_T q6, dp_Ts l6 S6, shp_T _, shp_Ts _, _, rfl, ?_⟩
        rw [any_eqv]
        have sok : StoreOk xs ∧ xs.length = n := ⟨⟨by omega, by omega, bd5⟩, len5⟩
        by_cases hin : xs ∈ S.map (·.2)
        · rw [decide_eq_true hin]
          refine iteT ⟨(by show 0 ≤ sizeLine; exact Nat.zero_le _), fun e he => ?_⟩
          have s7 : Same H6 _ := same_upd (o := .lst []) he
          refine ⟨l, e, _, _, rfl, rfl, s7 _ _ l6, upd_same, ?_, fun p hp => ?_⟩
          · rw [refs_len]
            exact Nat.le_trans (show S.length + 0 ≤ 1000 by omega) (by decide)
          have s8 : Same H6 _ := s7.push (o := .lst (refs S ++ [])) hp
          have k8 := k6.same s8
          refine ⟨by omega, p, S, _, _, rfl, k8, (k6.b.ext s7).new hp, (fun z => by rw [z, s7 _ _ r6] at hp; cases hp), by rw [upd_same, List.append_nil], s8 _ _ r6, S6.ext s8, each, nd, by omega, fun _ => ?_⟩
          obtain ⟨p, hp, _⟩ := List.mem_map.mp hin
          exact List.length_pos_of_mem hp
        · rw [decide_eq_false hin]
          refine iteF ⟨_, rfl, (by show 1 ≤ sizeLine; decide), fun e he => ?_⟩
          have s7 : Same H6 _ := same_upd (o := .lst [.ref q]) he
          refine ⟨l, e, _, _, rfl, rfl, s7 _ _ l6, upd_same, ?_, fun p hp => ?_⟩
          · rw [refs_len]
            exact Nat.le_trans (show S.length + 1 ≤ 1000 by omega) (by decide)
          have s8 : Same H6 _ := s7.push (o := .lst (refs S ++ [V.ref q])) hp
          have k8 := k6.same s8
          refine ⟨by omega, p, S ++ [(q, xs)], _, _, rfl, k8, (k6.b.ext s7).new hp, (fun z => by rw [z, s7 _ _ r6] at hp; cases hp), ?_, s8 _ _ r6, (S6.snoc q6).ext s8, fun p hp => ?_, ?_, ?_, fun _ => ?_⟩
          · rw [upd_same]
            unfold refs
            rw [List.map_append] <;> rfl
          · rcases List.mem_append.mp hp with z | z
            · exact each p z
            · obtain rfl := List.mem_singleton.mp z
              exact sok
          · rw [List.map_append]
            exact List.nodup_append.mpr ⟨nd, List.nodup_cons.mpr ⟨List.not_mem_nil, List.nodup_nil⟩, fun a ha b hb => by
              obtain rfl := List.mem_singleton.mp hb
              exact fun z => hin (by rw [← z]; exact ha)⟩
          · rw [List.length_append, List.length_singleton]; omega
          · rw [List.length_append, List.length_singleton]; omega
    · obtain ⟨_, l, S, v5, v6, rfl, k4, lD, lr, hl4, hr4, hS4, each, nd, len, pos⟩ := q
      have S1 : 1 ≤ S.length := pos (by omega)
      have S3 : S.length ≤ 3 := by omega
      refine ⟨(by show 4 ≤ sizeLine; decide), fun a ha => ⟨_, rfl, _, rfl, _, _, rfl, rfl, D, most - 1, rfl, by omega, k4.b.ext (same_upd ha), fun H5 k5 v7 a7 b7 => ⟨_, _, rfl, rfl, ?_⟩⟩⟩
      obtain ⟨m, em⟩ := nat_of (v := 2 + v7) (by omega)
      have m2 : 2 ≤ m := by omega
      have m4 : m ≤ 4 := by omega
      have ha5 : H5 a = some (.tup (gNames.map V.str)) := k5.tup upd_same
      have k45 : Kd D H4 H5 := (Kd.of k4.b (same_upd ha)).trans k5
      refine ⟨2 + v7, rfl, a, gNames.map V.str, rfl, SqT.of ha5, fun wh => ?_, fun _ p hp => ?_⟩
      · rw [em] at wh
        have tk := gwhole m m4 wh
        have p6 : H5 a = some (.tup ((gNames.take m).map V.str)) := by rw [tk]; exact ha5
        have k46 := k45
        generalize a = p at p6
        exact (by
        have hm : ((gNames.take m).map V.str).length = m := by
          rw [List.length_map, List.length_take]
          show min m 4 = m
          omega
        have k6 := k4.trans k46
        have l6 := k46.k _ _ lD hl4
        have r6 := k46.k _ _ rD hr4
        have S6 := hS4.kd k46
        refine ⟨p, rfl, ⟨_, SqT.of p6⟩, for_tup (K := K) (a := p) (xs := (gNames.take m).map V.str) (fun i σ H' => ∃ (Z : Prw) (v7 v8 : Option V), σ = [some (.ref D), some (.int most), some (.int n), some (.ref l), some (.ref r), v5, v6, v7, v8, none] ∧ Kd D H H' ∧ H' p = some (.tup ((gNames.take m).map V.str)) ∧ H' l = some (.lst (refs S)) ∧ H' r = some (.lst (prefs Z)) ∧ StsAt H' S ∧ RsAt H' Z ∧ names (ncs Z) = (gNames.take m).take i ∧ ∀ q ∈ Z, q.2.2.2.Ok ∧ Fits n q.2.2.2)
          ⟨[], none, none, rfl, k6, p6, l6, r6, S6, (fun q hq => absurd hq List.not_mem_nil), rfl, (fun q hq => absurd hq List.not_mem_nil)⟩ (fun i σ H' _ q => ?_) (fun i x σ H' hx q => ?_) fun σ H' q => ?_⟩
        · obtain ⟨_, _, _, _, _, p7, _⟩ := q
          exact SqT.of p7
        · obtain ⟨Z, v7, v8, rfl, k7, p7, l7, r7, S7, R7, nm, okZ⟩ := q
          obtain ⟨y, hy, rfl⟩ := strs_at' hx
          have lenZ : Z.length ≤ 4 := by
            have h1 : Z.length = (names (ncs Z)).length := by unfold names ncs; rw [List.length_map, List.length_map]
            rw [h1, nm, List.length_take, List.length_take]
            omega
          have fin : ∀ (Hx : Hp) (ax : Addr) (c : Chg), Kd D H' Hx → RowAt Hx ax c → c.Ok → Fits n c → ∀ pt, Hx pt = none → upd Hx pt (.tup [.str y, .ref ax]) r = some (.lst (prefs Z)) ∧ (prefs Z).length < sizeLine ∧
              ∃ (Z2 : Prw) (w7 w8 : Option V), [some (.ref D), some (.int most), some (.int n), some (.ref l), some (.ref r), v5, v6, some (.str y), some (.ref ax), none] = [some (.ref D), some (.int most), some (.int n), some (.ref l), some (.ref r), v5, v6, w7, w8, none] ∧ Kd D H (upd (upd Hx pt (.tup [.str y, .ref ax])) r (.lst (prefs Z ++ [V.ref pt]))) ∧ upd (upd Hx pt (.tup [.str y, .ref ax])) r (.lst (prefs Z ++ [V.ref pt])) p = some (.tup ((gNames.take m).map V.str)) ∧ upd (upd Hx pt (.tup [.str y, .ref ax])) r (.lst (prefs Z ++ [V.ref pt])) l = some (.lst (refs S)) ∧ upd (upd Hx pt (.tup [.str y, .ref ax])) r (.lst (prefs Z ++ [V.ref pt])) r = some (.lst (prefs Z2)) ∧ StsAt (upd (upd Hx pt (.tup [.str y, .ref ax])) r (.lst (prefs Z ++ [V.ref pt]))) S ∧ RsAt (upd (upd Hx pt (.tup [.str y, .ref ax])) r (.lst (prefs Z ++ [V.ref pt]))) Z2 ∧ names (ncs Z2) = (gNames.take m).take (i + 1) ∧ ∀ q ∈ Z2, q.2.2.2.Ok ∧ Fits n q.2.2.2 := fun Hx ax c kx row okc fit pt hpt => by
            have s8 : Same Hx _ := same_upd (o := .tup [.str y, .ref ax]) hpt
            have pt8 : upd Hx pt (.tup [.str y, .ref ax]) pt = some (.tup [.str y, .ref ax]) := upd_same
            have k8 : Kd D H' (upd Hx pt (.tup [.str y, .ref ax])) := kx.same s8
            have row8 := row.ext s8
            generalize upd Hx pt (.tup [.str y, .ref ax]) = H8 at pt8 k8 row8
            have r8 := k8.k _ _ rD r7
            have S8 := S7.kd k8
            have R8 := R7.kd k8
            refine ⟨r8, small1000 (by rw [prefs_len]; omega), Z ++ [(pt, y, ax, c)], _, _, rfl, ⟨k7.a, k8.b.upd rD, fun x u nx e => ?_⟩, ?_, ?_, ?_, S8.off r8, (R8.snoc pt8 row8).off r8, ?_, fun q hq => ?_⟩
            · rw [upd_ne (newr x u nx e)]
              exact k8.k _ _ nx (k7.k _ _ nx e)
            · rw [upd_ne (tup_ne (k8.tup p7) r8)]
              exact k8.tup p7
            · rw [upd_ne lr]
              exact k8.k _ _ lD l7
            · rw [upd_same]
              unfold prefs
              rw [List.map_append] <;> rfl
            · unfold names ncs at nm ⊢
              rw [List.map_append, List.map_append, nm, List.take_add_one, hy] <;> rfl
            · rcases List.mem_append.mp hq with z | z
              · exact okZ q z
              · obtain rfl := List.mem_singleton.mp z
                exact ⟨okc, fit⟩
          refine ⟨_, rfl, _, rfl, D, n, rfl, hn1, hn3, k7.b, fun H8 a8 o k8 row8 ok8 fit8 => ?_⟩
          refine ⟨_, rfl, D, 3, rfl, by decide, k8.b, fun H9 k9 v9 a9 b9 => ⟨rfl, _, rfl, ?_⟩⟩
          have row9 := row8.kd k9
          have k89 := k8.trans k9
          by_cases c0 : v9 = 0
          · rw [decide_eq_true (congrArg V.int c0)]
            refine iteT ⟨_, rfl, _, rfl, D, n, rfl, by omega, k9.b, fun H10 k10 v10 a10 b10 => ⟨(by show 4 ≤ sizeLine; decide), fun t ht => ⟨_, rfl, D, 4, rfl, by decide, k10.b.ext (same_upd ht), fun H11 k11 v11 a11 b11 => ?_⟩⟩⟩
            have ht1 : upd H10 t (.tup (([0, 1, 3, 7] : List Int).map V.int)) t = _ := upd_same
            obtain ⟨hl, e6⟩ := at_in (xs := ([0, 1, 3, 7] : List Int).map V.int) a11 b11
            rw [List.getElem_map] at e6
            have all4 : ∀ z ∈ ([0, 1, 3, 7] : List Int), 0 ≤ z ∧ z ≤ 7 := by decide
            have z6 := all4 _ (List.getElem_mem (by rw [List.length_map] at hl; exact hl))
            refine ⟨t, _, v11, _, rfl, rfl, SqT.of (k11.tup ht1), e6, ?_⟩
            generalize ([0, 1, 3, 7] : List Int)[v11.toNat]'(by rw [List.length_map] at hl; exact hl) = z at z6 ⊢
            obtain ⟨m10, rfl⟩ := nat_of a10
            obtain ⟨m11, rfl⟩ := nat_of z6.1
            refine ⟨_, rfl, (by show 4 ≤ sizeLine; decide), fun q hq => ?_⟩
            have s12 : Same H11 _ := same_upd (o := .tup [.str "if", .int m10, .int m11, .ref a8]) hq
            have q12 : upd H11 q (.tup [.str "if", .int m10, .int m11, .ref a8]) q = some (.tup [.str "if", .int m10, .int m11, .ref a8]) := upd_same
            have kt : Kd D H10 H11 := (Kd.of k10.b (same_upd ht)).trans k11
            have k12 : Kd D H' (upd H11 q (.tup [.str "if", .int m10, .int m11, .ref a8])) := ((k89.trans k10).trans kt).same s12
            have row12 : RowAt (upd H11 q (.tup [.str "if", .int m10, .int m11, .ref a8])) q (.iff m10 m11 o) := ⟨a8, q12, ((row9.kd k10).kd kt).ext s12⟩
            generalize upd H11 q (.tup [.str "if", .int m10, .int m11, .ref a8]) = H12 at k12 row12
            refine ⟨_, rfl, .inl ⟨rfl, _, SqL.of (k12.k _ _ rD r7)⟩, _, rfl, _, rfl, (by show 2 ≤ sizeLine; decide), fun pt hpt => ?_⟩
            obtain ⟨f1, f2, f3⟩ := fin H12 q (.iff m10 m11 o) k12 row12 ⟨by omega, by omega, ok8⟩ (fits_iff (by omega) fit8) pt hpt
            exact ⟨r, _, _, rfl, rfl, f1, f2, f3⟩
          · rw [decide_eq_false (fun z => c0 (V.int.inj z))]
            refine iteF ⟨_, rfl, .inl ⟨rfl, _, SqL.of (k89.k _ _ rD r7)⟩, _, rfl, _, rfl, (by show 2 ≤ sizeLine; decide), fun pt hpt => ?_⟩
            obtain ⟨f1, f2, f3⟩ := fin H9 a8 (.one o) k89 row9 ok8 fit8 pt hpt
            exact ⟨r, _, _, rfl, rfl, f1, f2, f3⟩
        · obtain ⟨Z, v7, v8, rfl, k7, p7, l7, r7, S7, R7, nm, okZ⟩ := q
          rw [hm, List.take_of_length_le (by rw [List.length_take]; omega)] at nm
          have lenN : (ncs Z).length = m := by
            have h1 : (ncs Z).length = (names (ncs Z)).length := (List.length_map ..).symm
            rw [h1, nm, List.length_take]
            show min m 4 = m
            omega
          refine ⟨_, rfl, _, rfl, _, rfl, (by show 3 ≤ sizeLine; decide), fun t ht => ?_⟩
          have s8 : Same H' _ := same_upd (o := .tup [.int n, .ref l, .ref r]) ht
          refine kk _ t n S Z m (k7.same s8) ⟨⟨l, r, upd_same, s8 _ _ l7, s8 _ _ r7⟩, S7.ext s8, R7.ext s8⟩ ⟨hn1, by omega, ⟨S1, by omega, each, nd⟩, ⟨by rw [lenN]; exact m2, by rw [lenN]; exact m4, fun q hq => ?_, fun q hq => ?_, ?_⟩⟩ S3 m2 (by omega) nm
          · have mem : q.1 ∈ names (ncs Z) := List.mem_map.mpr ⟨q, hq, rfl⟩
            rw [nm] at mem
            obtain ⟨h1, h2, h3⟩ := gn_ok _ (List.mem_of_mem_take mem)
            exact ⟨h1, h2, h3⟩
          · obtain ⟨q2, hq2, rfl⟩ := List.mem_map.mp hq
            exact okZ q2 hq2
          · rw [nm]
            exact gn_nd.sublist (List.take_sublist _ _))
      · rw [em, gcut m m4]
        have s6 : Same H5 _ := same_upd (o := .tup ((gNames.take m).map V.str)) hp
        have p6 : upd H5 p (.tup ((gNames.take m).map V.str)) p = _ := upd_same
        have k46 := k45.same s6
        generalize upd H5 p (.tup ((gNames.take m).map V.str)) = H6 at p6 k46
        exact (by
        have hm : ((gNames.take m).map V.str).length = m := by
          rw [List.length_map, List.length_take]
          show min m 4 = m
          omega
        have k6 := k4.trans k46
        have l6 := k46.k _ _ lD hl4
        have r6 := k46.k _ _ rD hr4
        have S6 := hS4.kd k46
        refine ⟨p, rfl, ⟨_, SqT.of p6⟩, for_tup (K := K) (a := p) (xs := (gNames.take m).map V.str) (fun i σ H' => ∃ (Z : Prw) (v7 v8 : Option V), σ = [some (.ref D), some (.int most), some (.int n), some (.ref l), some (.ref r), v5, v6, v7, v8, none] ∧ Kd D H H' ∧ H' p = some (.tup ((gNames.take m).map V.str)) ∧ H' l = some (.lst (refs S)) ∧ H' r = some (.lst (prefs Z)) ∧ StsAt H' S ∧ RsAt H' Z ∧ names (ncs Z) = (gNames.take m).take i ∧ ∀ q ∈ Z, q.2.2.2.Ok ∧ Fits n q.2.2.2)
          ⟨[], none, none, rfl, k6, p6, l6, r6, S6, (fun q hq => absurd hq List.not_mem_nil), rfl, (fun q hq => absurd hq List.not_mem_nil)⟩ (fun i σ H' _ q => ?_) (fun i x σ H' hx q => ?_) fun σ H' q => ?_⟩
        · obtain ⟨_, _, _, _, _, p7, _⟩ := q
          exact SqT.of p7
        · obtain ⟨Z, v7, v8, rfl, k7, p7, l7, r7, S7, R7, nm, okZ⟩ := q
          obtain ⟨y, hy, rfl⟩ := strs_at' hx
          have lenZ : Z.length ≤ 4 := by
            have h1 : Z.length = (names (ncs Z)).length := by unfold names ncs; rw [List.length_map, List.length_map]
            rw [h1, nm, List.length_take, List.length_take]
            omega
          have fin : ∀ (Hx : Hp) (ax : Addr) (c : Chg), Kd D H' Hx → RowAt Hx ax c → c.Ok → Fits n c → ∀ pt, Hx pt = none → upd Hx pt (.tup [.str y, .ref ax]) r = some (.lst (prefs Z)) ∧ (prefs Z).length < sizeLine ∧
              ∃ (Z2 : Prw) (w7 w8 : Option V), [some (.ref D), some (.int most), some (.int n), some (.ref l), some (.ref r), v5, v6, some (.str y), some (.ref ax), none] = [some (.ref D), some (.int most), some (.int n), some (.ref l), some (.ref r), v5, v6, w7, w8, none] ∧ Kd D H (upd (upd Hx pt (.tup [.str y, .ref ax])) r (.lst (prefs Z ++ [V.ref pt]))) ∧ upd (upd Hx pt (.tup [.str y, .ref ax])) r (.lst (prefs Z ++ [V.ref pt])) p = some (.tup ((gNames.take m).map V.str)) ∧ upd (upd Hx pt (.tup [.str y, .ref ax])) r (.lst (prefs Z ++ [V.ref pt])) l = some (.lst (refs S)) ∧ upd (upd Hx pt (.tup [.str y, .ref ax])) r (.lst (prefs Z ++ [V.ref pt])) r = some (.lst (prefs Z2)) ∧ StsAt (upd (upd Hx pt (.tup [.str y, .ref ax])) r (.lst (prefs Z ++ [V.ref pt]))) S ∧ RsAt (upd (upd Hx pt (.tup [.str y, .ref ax])) r (.lst (prefs Z ++ [V.ref pt]))) Z2 ∧ names (ncs Z2) = (gNames.take m).take (i + 1) ∧ ∀ q ∈ Z2, q.2.2.2.Ok ∧ Fits n q.2.2.2 := fun Hx ax c kx row okc fit pt hpt => by
            have s8 : Same Hx _ := same_upd (o := .tup [.str y, .ref ax]) hpt
            have pt8 : upd Hx pt (.tup [.str y, .ref ax]) pt = some (.tup [.str y, .ref ax]) := upd_same
            have k8 : Kd D H' (upd Hx pt (.tup [.str y, .ref ax])) := kx.same s8
            have row8 := row.ext s8
            generalize upd Hx pt (.tup [.str y, .ref ax]) = H8 at pt8 k8 row8
            have r8 := k8.k _ _ rD r7
            have S8 := S7.kd k8
            have R8 := R7.kd k8
            refine ⟨r8, small1000 (by rw [prefs_len]; omega), Z ++ [(pt, y, ax, c)], _, _, rfl, ⟨k7.a, k8.b.upd rD, fun x u nx e => ?_⟩, ?_, ?_, ?_, S8.off r8, (R8.snoc pt8 row8).off r8, ?_, fun q hq => ?_⟩
            · rw [upd_ne (newr x u nx e)]
              exact k8.k _ _ nx (k7.k _ _ nx e)
            · rw [upd_ne (tup_ne (k8.tup p7) r8)]
              exact k8.tup p7
            · rw [upd_ne lr]
              exact k8.k _ _ lD l7
            · rw [upd_same]
              unfold prefs
              rw [List.map_append] <;> rfl
            · unfold names ncs at nm ⊢
              rw [List.map_append, List.map_append, nm, List.take_add_one, hy] <;> rfl
            · rcases List.mem_append.mp hq with z | z
              · exact okZ q z
              · obtain rfl := List.mem_singleton.mp z
                exact ⟨okc, fit⟩
          refine ⟨_, rfl, _, rfl, D, n, rfl, hn1, hn3, k7.b, fun H8 a8 o k8 row8 ok8 fit8 => ?_⟩
          refine ⟨_, rfl, D, 3, rfl, by decide, k8.b, fun H9 k9 v9 a9 b9 => ⟨rfl, _, rfl, ?_⟩⟩
          have row9 := row8.kd k9
          have k89 := k8.trans k9
          by_cases c0 : v9 = 0
          · rw [decide_eq_true (congrArg V.int c0)]
            refine iteT ⟨_, rfl, _, rfl, D, n, rfl, by omega, k9.b, fun H10 k10 v10 a10 b10 => ⟨(by show 4 ≤ sizeLine; decide), fun t ht => ⟨_, rfl, D, 4, rfl, by decide, k10.b.ext (same_upd ht), fun H11 k11 v11 a11 b11 => ?_⟩⟩⟩
            have ht1 : upd H10 t (.tup (([0, 1, 3, 7] : List Int).map V.int)) t = _ := upd_same
            obtain ⟨hl, e6⟩ := at_in (xs := ([0, 1, 3, 7] : List Int).map V.int) a11 b11
            rw [List.getElem_map] at e6
            have all4 : ∀ z ∈ ([0, 1, 3, 7] : List Int), 0 ≤ z ∧ z ≤ 7 := by decide
            have z6 := all4 _ (List.getElem_mem (by rw [List.length_map] at hl; exact hl))
            refine ⟨t, _, v11, _, rfl, rfl, SqT.of (k11.tup ht1), e6, ?_⟩
            generalize ([0, 1, 3, 7] : List Int)[v11.toNat]'(by rw [List.length_map] at hl; exact hl) = z at z6 ⊢
            obtain ⟨m10, rfl⟩ := nat_of a10
            obtain ⟨m11, rfl⟩ := nat_of z6.1
            refine ⟨_, rfl, (by show 4 ≤ sizeLine; decide), fun q hq => ?_⟩
            have s12 : Same H11 _ := same_upd (o := .tup [.str "if", .int m10, .int m11, .ref a8]) hq
            have q12 : upd H11 q (.tup [.str "if", .int m10, .int m11, .ref a8]) q = some (.tup [.str "if", .int m10, .int m11, .ref a8]) := upd_same
            have kt : Kd D H10 H11 := (Kd.of k10.b (same_upd ht)).trans k11
            have k12 : Kd D H' (upd H11 q (.tup [.str "if", .int m10, .int m11, .ref a8])) := ((k89.trans k10).trans kt).same s12
            have row12 : RowAt (upd H11 q (.tup [.str "if", .int m10, .int m11, .ref a8])) q (.iff m10 m11 o) := ⟨a8, q12, ((row9.kd k10).kd kt).ext s12⟩
            generalize upd H11 q (.tup [.str "if", .int m10, .int m11, .ref a8]) = H12 at k12 row12
            refine ⟨_, rfl, .inl ⟨rfl, _, SqL.of (k12.k _ _ rD r7)⟩, _, rfl, _, rfl, (by show 2 ≤ sizeLine; decide), fun pt hpt => ?_⟩
            obtain ⟨f1, f2, f3⟩ := fin H12 q (.iff m10 m11 o) k12 row12 ⟨by omega, by omega, ok8⟩ (fits_iff (by omega) fit8) pt hpt
            exact ⟨r, _, _, rfl, rfl, f1, f2, f3⟩
          · rw [decide_eq_false (fun z => c0 (V.int.inj z))]
            refine iteF ⟨_, rfl, .inl ⟨rfl, _, SqL.of (k89.k _ _ rD r7)⟩, _, rfl, _, rfl, (by show 2 ≤ sizeLine; decide), fun pt hpt => ?_⟩
            obtain ⟨f1, f2, f3⟩ := fin H9 a8 (.one o) k89 row9 ok8 fit8 pt hpt
            exact ⟨r, _, _, rfl, rfl, f1, f2, f3⟩
        · obtain ⟨Z, v7, v8, rfl, k7, p7, l7, r7, S7, R7, nm, okZ⟩ := q
          rw [hm, List.take_of_length_le (by rw [List.length_take]; omega)] at nm
          have lenN : (ncs Z).length = m := by
            have h1 : (ncs Z).length = (names (ncs Z)).length := (List.length_map ..).symm
            rw [h1, nm, List.length_take]
            show min m 4 = m
            omega
          refine ⟨_, rfl, _, rfl, _, rfl, (by show 3 ≤ sizeLine; decide), fun t ht => ?_⟩
          have s8 : Same H' _ := same_upd (o := .tup [.int n, .ref l, .ref r]) ht
          refine kk _ t n S Z m (k7.same s8) ⟨⟨l, r, upd_same, s8 _ _ l7, s8 _ _ r7⟩, S7.ext s8, R7.ext s8⟩ ⟨hn1, by omega, ⟨S1, by omega, each, nd⟩, ⟨by rw [lenN]; exact m2, by rw [lenN]; exact m4, fun q hq => ?_, fun q hq => ?_, ?_⟩⟩ S3 m2 (by omega) nm
          · have mem : q.1 ∈ names (ncs Z) := List.mem_map.mpr ⟨q, hq, rfl⟩
            rw [nm] at mem
            obtain ⟨h1, h2, h3⟩ := gn_ok _ (List.mem_of_mem_take mem)
            exact ⟨h1, h2, h3⟩
          · obtain ⟨q2, hq2, rfl⟩ := List.mem_map.mp hq
            exact okZ q2 hq2
          · rw [nm]
            exact gn_nd.sublist (List.take_sublist _ _))
end
end OP
namespace OP
open PySem PySem.Spec PyProof.Rows L2
section
variable {P : Program} {w : World} {K : PySem.W.Frag} {mg : Str → Option Value} {base : Heap}
theorem made_same {H H' : Hp} {x dx : Addr} {u v : HO} (hx : H x = none) (hdx : H dx = none) (h : ∀ b o, b ≠ x → upd (upd H dx u) x v b = some o → H' b = some o) : Same H H' := fun b o e => by
  have b1 : b ≠ x := ne_of_none e hx
  exact h b o b1 (by rw [upd_ne b1, upd_ne (ne_of_none e hdx)]; exact e)
theorem init_of {K : PySem.W.Frag} {H : Hp} {Q : VK} {E : XK} {o : One} (ok : o.Ok) (k : ∀ H' r, Same H H' → OneAt K H' r o → Q (.ref r) H') : ∀ x dx, H x = none → H dx = none → dx ≠ x → spInit (o.k.cls K) o.k [.ref x, .int o.s, .int o.v] (upd (upd H dx (.own x)) x (.ins (o.k.cls K) dx [])) (fun v H2 => v = .non ∧ Q (.ref x) H2) E := fun x dx hx hdx ne =>
  ⟨x, dx, o.s, o.v, rfl, ok, upd_same, fun H' hk hp => ⟨rfl, k H' x (made_same hx hdx hk) ⟨dx, hp⟩⟩⟩
/-- what is made of a row -/
def spMade (K : PySem.W.Frag) (d : Nat) : Sp := fun vs H Q _ => ∃ (a : Addr) (c : Chg), vs = [.ref a] ∧ RowAt H a c ∧ c.Ok ∧ (d = 0 → ∃ o, c = .one o) ∧ ∀ H' r, Same H H' → ChgAt K H' r c → Q (.ref r) H'
theorem sc_lchange : FnScope ["_law_row", "_law_word"] ["_law_row"] (defScope s__law_change) := ⟨rfl, rfl, rfl, by decide +kernel, rfl, by decide +kernel, by decide +kernel⟩
theorem made_step (T : Txt K mg) (d k : Nat) (h5 : 4 ≤ k) (GO : d ≠ 0 → Ok P w K mg base (a__law_change K) ["_law_row"] k (spMade K 0)) : Ok P w K mg base (a__law_change K) ["_law_row"] (k + 1) (spMade K d) := by
  have GR : Ok P w K mg base (a__law_change K) ["_law_row"] k (fun vs H Q E => d ≠ 0 ∧ spMade K 0 vs H Q E) := by
    by_cases h0 : d = 0
    · exact (ok_no T.f__law_change (fun _ _ _ _ _ _ us hl => match us, hl with | [_], _ => rfl)).imp fun vs H Q E h => (h.1 h0).elim
    · exact (GO h0).imp fun vs H Q E h => h.2
  have G1 : Ok P w K mg base (a_Put_init K) _ 3 (spInit (c_Put K) .put) := ok_Put_init T
  have G2 : Ok P w K mg base (a_Move_init K) _ 3 (spInit (c_Move K) .move) := ok_Move_init T
  have G3 : Ok P w K mg base (a_Add_init K) _ 3 (spInit (c_Add K) .add) := ok_Add_init T
  have G4 : Ok P w K mg base (a_AddSlot_init K) _ 3 (spInit (c_AddSlot K) .addslot) := ok_AddSlot_init T
  have G5 : Ok P w K mg base (a_Raise_init K) _ 3 (spInit (c_Raise K) .rais) := ok_Raise_init T
  have G6 : Ok P w K mg base (a_Lower_init K) _ 3 (spInit (c_Lower K) .lower) := ok_Lower_init T
  have G7 : Ok P w K mg base (a_If_init K) _ 3 (spIfInit K) := ok_If_init T
  refine ok_of T.f__law_change sc_lchange (fun _ _ _ _ _ _ us hl => match us, hl with | [_], _ => rfl) (fun vs H Q E h => ?_) (fun cdv A outer s H vs Q E hr h => ?_)
  · obtain ⟨a, c, rfl, _⟩ := h
    rfl
  · obtain ⟨a, c, rfl, ha, ok, ho, kk⟩ := h
    have hr4 : Room 4 _ := hr.mono (by omega)
    refine ⟨_, (pss_cons (ps_set (i := 1) sc_lchange.nd rfl (Or.inl rfl) (pe_ix ix_tup (pv 0) pe_int (fun _ _ => rfl)))
      (pss_cons (ps_if (pt_cmpR op_eq (pv 1) pe_str (nomark _)) (pss_one (ps_ret (pe_mkc T.mk_If G7 hr4 T.g_If (pa_cons (pe_ix ix_tup (pv 0) pe_int (fun _ _ => rfl)) (pa_cons (pe_ix ix_tup (pv 0) pe_int (fun _ _ => rfl)) (pa_cons (pe_c GR hr T.g__law_change (pa_cons (pe_ix ix_tup (pv 0) pe_int (fun _ _ => rfl)) pa_nil)) pa_nil)))))) pss_nil)
      (pss_cons (ps_if (pt_cmpR op_eq (pv 1) pe_str (nomark _)) (pss_one (ps_ret (pe_mkc T.mk_Put G1 hr4 T.g_Put (pa_cons (pe_ix ix_tup (pv 0) pe_int (fun _ _ => rfl)) (pa_cons (pe_ix ix_tup (pv 0) pe_int (fun _ _ => rfl)) pa_nil))))) pss_nil)
      (pss_cons (ps_if (pt_cmpR op_eq (pv 1) pe_str (nomark _)) (pss_one (ps_ret (pe_mkc T.mk_Move G2 hr4 T.g_Move (pa_cons (pe_ix ix_tup (pv 0) pe_int (fun _ _ => rfl)) (pa_cons (pe_ix ix_tup (pv 0) pe_int (fun _ _ => rfl)) pa_nil))))) pss_nil)
      (pss_cons (ps_if (pt_cmpR op_eq (pv 1) pe_str (nomark _)) (pss_one (ps_ret (pe_mkc T.mk_Add G3 hr4 T.g_Add (pa_cons (pe_ix ix_tup (pv 0) pe_int (fun _ _ => rfl)) (pa_cons (pe_ix ix_tup (pv 0) pe_int (fun _ _ => rfl)) pa_nil))))) pss_nil)
      (pss_cons (ps_if (pt_cmpR op_eq (pv 1) pe_str (nomark _)) (pss_one (ps_ret (pe_mkc T.mk_AddSlot G4 hr4 T.g_AddSlot (pa_cons (pe_ix ix_tup (pv 0) pe_int (fun _ _ => rfl)) (pa_cons (pe_ix ix_tup (pv 0) pe_int (fun _ _ => rfl)) pa_nil))))) pss_nil)
      (pss_one (ps_ret (pe_ifExp (pt_cmpR op_eq (pv 1) pe_str (nomark _)) (pe_mkc T.mk_Raise G5 hr4 T.g_Raise (pa_cons (pe_ix ix_tup (pv 0) pe_int (fun _ _ => rfl)) (pa_cons (pe_ix ix_tup (pv 0) pe_int (fun _ _ => rfl)) pa_nil))) (pe_mkc T.mk_Lower G6 hr4 T.g_Lower (pa_cons (pe_ix ix_tup (pv 0) pe_int (fun _ _ => rfl)) (pa_cons (pe_ix ix_tup (pv 0) pe_int (fun _ _ => rfl)) pa_nil)))))))))))), ?_⟩
    cases c with
    | iff m v o =>
      obtain ⟨b, ha, hb⟩ := ha
      have hd : d ≠ 0 := fun z => by obtain ⟨_, z⟩ := ho z; cases z
      refine ⟨_, rfl, a, _, 0, .str (word none), rfl, rfl, SqT.of ha, rfl, ?_⟩
      refine ⟨_, rfl, rfl, _, rfl, ?_⟩
      rw [w_if, decide_eq_true rfl]
      refine iteT ⟨_, rfl, a, _, 1, _, rfl, rfl, SqT.of ha, rfl, _, rfl, a, _, 2, _, rfl, rfl, SqT.of ha, rfl, _, rfl, a, _, 3, _, rfl, rfl, SqT.of ha, rfl, hd, b, .one o, rfl, hb, ok.2.2, fun _ => ⟨_, rfl⟩, fun H1 r s1 e1 => ?_⟩
      exact fun x dx hx hdx ne => ⟨x, dx, r, m, v, o, rfl, ok.1, ok.2.1, OneAt.ext (same_upd hdx |>.push (by rw [upd_ne (Ne.symm ne)]; exact hx)) e1, upd_same, fun H' hk hp => ⟨rfl, kk H' x (s1.trans (made_same hx hdx hk)) ⟨dx, r, hp, OneAt.ext (made_same hx hdx hk) e1⟩⟩⟩
    | one o =>
      have ha : H a = some (.tup (oneRow o)) := ha
      have fin := init_of (E := E0) (Q := Q) (ok : o.Ok) fun H' r s' h => kk H' r s' h
      refine ⟨_, rfl, a, _, 0, .str (word (some o.k)), rfl, rfl, SqT.of ha, rfl, ?_⟩
      refine ⟨_, rfl, rfl, _, rfl, ?_⟩
      rw [w_if, decide_eq_false (by simp)]
      refine iteF ⟨_, rfl, rfl, _, rfl, ?_⟩
      rw [w_put]
      by_cases c1 : o.k = .put
      · rw [decide_eq_true (by rw [c1])]
        rw [c1] at fin
        exact iteT ⟨_, rfl, a, _, 1, _, rfl, rfl, SqT.of ha, rfl, _, rfl, a, _, 2, _, rfl, rfl, SqT.of ha, rfl, fin⟩
      rw [decide_eq_false (by simpa using c1)]
      refine iteF ⟨_, rfl, rfl, _, rfl, ?_⟩
      rw [w_move]
      by_cases c2 : o.k = .move
      · rw [decide_eq_true (by rw [c2])]
        rw [c2] at fin
        exact iteT ⟨_, rfl, a, _, 1, _, rfl, rfl, SqT.of ha, rfl, _, rfl, a, _, 2, _, rfl, rfl, SqT.of ha, rfl, fin⟩
      rw [decide_eq_false (by simpa using c2)]
      refine iteF ⟨_, rfl, rfl, _, rfl, ?_⟩
      rw [w_add]
      by_cases c3 : o.k = .add
      · rw [decide_eq_true (by rw [c3])]
        rw [c3] at fin
        exact iteT ⟨_, rfl, a, _, 1, _, rfl, rfl, SqT.of ha, rfl, _, rfl, a, _, 2, _, rfl, rfl, SqT.of ha, rfl, fin⟩
      rw [decide_eq_false (by simpa using c3)]
      refine iteF ⟨_, rfl, rfl, _, rfl, ?_⟩
      rw [w_addslot]
      by_cases c4 : o.k = .addslot
      · rw [decide_eq_true (by rw [c4])]
        rw [c4] at fin
        exact iteT ⟨_, rfl, a, _, 1, _, rfl, rfl, SqT.of ha, rfl, _, rfl, a, _, 2, _, rfl, rfl, SqT.of ha, rfl, fin⟩
      rw [decide_eq_false (by simpa using c4)]
      refine iteF ⟨_, rfl, rfl, _, rfl, ?_⟩
      rw [w_raise]
      by_cases c5 : o.k = .rais
      · rw [decide_eq_true (by rw [c5])]
        rw [c5] at fin
        exact iteT ⟨_, rfl, a, _, 1, _, rfl, rfl, SqT.of ha, rfl, _, rfl, a, _, 2, _, rfl, rfl, SqT.of ha, rfl, fin⟩
      rw [decide_eq_false (by simpa using c5)]
      have c6 : o.k = .lower := by
        cases h : o.k with
        | put => exact absurd h c1
        | move => exact absurd h c2
        | add => exact absurd h c3
        | addslot => exact absurd h c4
        | rais => exact absurd h c5
        | lower => rfl
      rw [c6] at fin
      exact iteF ⟨_, rfl, a, _, 1, _, rfl, rfl, SqT.of ha, rfl, _, rfl, a, _, 2, _, rfl, rfl, SqT.of ha, rfl, fin⟩
theorem ok_made (T : Txt K mg) : Ok P w K mg base (a__law_change K) ["_law_row"] 6 (spMade K 1) := made_step T 1 5 (by decide) fun _ => made_step T 0 4 (by decide) fun h => (h rfl).elim
end
end OP
namespace OP
open PySem PySem.Spec PyProof.Rows L2
theorem one_slot_lt {n : Nat} {o : One} (h : Fits n (.one o)) : o.s < n := by
  have : (o.s : Int) ∈ o.slots := by
    unfold One.slots
    split
    · unfold two
      split
      · exact List.mem_singleton.mpr rfl
      · split
        · exact List.mem_cons_self
        · exact List.mem_cons_of_mem _ List.mem_cons_self
    · exact List.mem_singleton.mpr rfl
  have h2 := h _ this
  omega
theorem one_src_lt {n : Nat} {o : One} (hs : o.k.src = true) (h : Fits n (.one o)) : o.v < n := by
  have : (o.v : Int) ∈ o.slots := by
    unfold One.slots
    rw [if_pos hs]
    unfold two
    split
    · rename_i e
      rw [e]
      exact List.mem_singleton.mpr rfl
    · split
      · exact List.mem_cons_of_mem _ List.mem_cons_self
      · exact List.mem_cons_self
  have h2 := h _ this
  omega
theorem mem_three {s : Nat} {ns : List Int} {z : Int} (h0 : 0 ≤ z) (h2 : z ≤ 2) (h : z = s ∨ z ∈ ns) : z ∈ three s ns := by
  unfold three
  refine List.mem_filter.mpr ⟨List.mem_map.mpr ⟨z.toNat, List.mem_range.mpr (by omega), by omega⟩, decide_eq_true h⟩
theorem slots_le {o : One} (ok : o.Ok) {z : Int} (hz : z ∈ o.slots) : 0 ≤ z ∧ z ≤ 2 := by
  have h1 := ok.s2
  unfold One.slots at hz
  split at hz
  · rename_i hs
    have h2 := ok.v2 hs
    unfold two at hz
    split at hz
    · obtain rfl := List.mem_singleton.mp hz; omega
    · split at hz
      · rcases List.mem_cons.mp hz with rfl | hz
        · omega
        · obtain rfl := List.mem_singleton.mp hz; omega
      · rcases List.mem_cons.mp hz with rfl | hz
        · omega
        · obtain rfl := List.mem_singleton.mp hz; omega
  · obtain rfl := List.mem_singleton.mp hz
    omega
theorem fits_in {n s v : Nat} {o : One} (ok : o.Ok) (h : Fits n (.iff s v o)) : Fits n (.one o) := fun z hz => by
  obtain ⟨h0, h2⟩ := slots_le ok hz
  exact h z (mem_three h0 h2 (.inr hz))
/-- store[:slot] + (value,) + store[slot + 1:] -/
theorem repl_read (K : PySem.W.Frag) {σ : L2.St} {H : Hp} {Q : VK} {a : Addr} {xs : List Int} {i : Nat} {n : Int} {p q r : Nat} (hp : σ[p]? = some (some (.ref a))) (hq : σ[q]? = some (some (.int i))) (hr : σ[r]? = some (some (.int n)))
    (ha : H a = some (.tup (xs.map V.int))) (h3 : xs.length ≤ 8) (hi : i < xs.length) (k : ∀ r' H', Same H H' → H' r' = some (.tup ((xs.set i n).map V.int)) → Q (.ref r') H') :
    tOp (rCatA K) (tOp (rCatA K) (tSl (rSlA K) (tVar p) tNoPart (tPart (tVar q))) (tTup (tCons (tVar r) tNil))) (tSl (rSlA K) (tVar p) (tPart (tOp (rI0 fun i j => .int (i + j)) (tVar q) (tC (.int 1)))) tNoPart) σ H Q := by
  refine ⟨_, hp, _, hq, i, rfl, a, _, rfl, SqT.of ha, fun z => ?_, fun _ p1 hp1 => ?_⟩
  · rw [HT.sIx_nat, List.length_map, Nat.min_eq_left (Nat.le_of_lt hi)] at z
    omega
  rw [cut_lo hi]
  have s1 : Same H _ := same_upd (o := .tup ((xs.take i).map V.int)) hp1
  refine ⟨_, hr, (by show 1 ≤ sizeLine; decide), fun t ht => ?_⟩
  have s2 := s1.push (o := .tup [V.int n]) ht
  have hp2 : upd (upd H p1 (.tup ((xs.take i).map V.int))) t (.tup [V.int n]) p1 = some (.tup ((xs.take i).map V.int)) := by rw [upd_ne (ne_of_none upd_same ht)]; exact upd_same
  have e1 : ((xs.take i).map V.int).length + [V.int n].length ≤ sizeLine := by
    rw [List.length_map, List.length_take]
    exact Nat.le_trans (show _ ≤ 9 from by simp; omega) (by decide)
  have fin : ∀ (r2 : Addr) (H3 : Hp), Same H H3 → H3 r2 = some (.tup ((xs.take i ++ [n]).map V.int)) → tSl (rSlA K) (tVar p) (tPart (tOp (rI0 fun i j => .int (i + j)) (tVar q) (tC (.int 1)))) tNoPart σ H3 (fun y H4 => rCatA K (.ref r2) y H4 Q) := by
    intro r2 H3 s3 e3
    refine ⟨_, hp, _, hq, _, _, rfl, rfl, _, rfl, a, _, rfl, SqT.of (s3 _ _ ha), fun z => ?_, fun _ p2 hp2' => ?_⟩
    · have z1 := z.1
      rw [show ((i : Int) + 1) = ((i + 1 : Nat) : Int) from rfl, HT.sIx_nat, List.length_map] at z1
      omega
    rw [show ((i : Int) + 1) = ((i + 1 : Nat) : Int) from rfl, cut_hi (Nat.succ_le_of_lt hi)]
    have e4 : upd H3 p2 (.tup ((xs.drop (i + 1)).map V.int)) r2 = some (.tup ((xs.take i ++ [n]).map V.int)) := by rw [upd_ne (ne_of_none e3 hp2')]; exact e3
    have s4 := s3.push (o := .tup ((xs.drop (i + 1)).map V.int)) hp2'
    refine ⟨r2, p2, _, _, rfl, rfl, SqT.of e4, SqT.of upd_same, ?_, fun z => ?_, fun _ z => ?_, fun _ _ p3 hp3 => ?_⟩
    · rw [List.length_map, List.length_map, List.length_append, List.length_take, List.length_drop]
      exact Nat.le_trans (show _ ≤ 20 from by simp; omega) (by decide)
    · have := congrArg List.length z
      simp at this
    · refine k r2 _ s4 ?_
      have z2 : xs.drop (i + 1) = [] := List.map_eq_nil_iff.mp z
      rw [set_cut hi, show xs.take i ++ n :: xs.drop (i + 1) = xs.take i ++ [n] by rw [z2]]
      exact e4
    · refine k p3 _ (s4.push hp3) ?_
      rw [upd_same, set_cut hi, ← List.map_append, List.append_assoc] <;> rfl
  refine ⟨p1, t, _, _, rfl, rfl, SqT.of hp2, SqT.of upd_same, e1, fun z => ?_, fun _ z => ?_, fun _ _ p3 hp3 => ?_⟩
  · have z2 : xs.take i = [] := List.map_eq_nil_iff.mp z
    exact fin t _ s2 (by rw [z2]; exact upd_same)
  · cases z
  · refine fin p3 _ (s2.push hp3) ?_
    rw [upd_same, List.map_append] <;> rfl
section
variable {P : Program} {w : World} {K : PySem.W.Frag} {mg : Str → Option Value} {base : Heap}
def spDone (K : PySem.W.Frag) (d : Nat) : Sp := fun vs H Q _ => ∃ (a st : Addr) (c : Chg) (xs : List Int), vs = [.ref a, .ref st] ∧ RowAt H a c ∧ c.Ok ∧ (d = 0 → ∃ o, c = .one o) ∧ H st = some (.tup (xs.map V.int)) ∧ Fits xs.length c ∧ xs.length ≤ 8 ∧
  ∀ H' r, Same H H' → H' r = some (.tup ((c.app xs).map V.int)) → Q (.ref r) H'
theorem sc_done : FnScope ["_law_row", "_law_store", "_law_word", "_law_slot", "_law_other", "_law_value"] ["_law_row", "_law_store"] (defScope s__law_done) := ⟨rfl, rfl, rfl, by decide +kernel, rfl, by decide +kernel, by decide +kernel⟩
theorem done_step (T : Txt K mg) (d k : Nat) (GO : d ≠ 0 → Ok P w K mg base (a__law_done K) ["_law_row", "_law_store"] k (spDone K 0)) : Ok P w K mg base (a__law_done K) ["_law_row", "_law_store"] (k + 1) (spDone K d) := by
  have GR : Ok P w K mg base (a__law_done K) ["_law_row", "_law_store"] k (fun vs H Q E => d ≠ 0 ∧ spDone K 0 vs H Q E) := by
    by_cases h0 : d = 0
    · exact (ok_no T.f__law_done (fun _ _ _ _ _ _ us hl => match us, hl with | [_, _], _ => rfl)).imp fun vs H Q E h => (h.1 h0).elim
    · exact (GO h0).imp fun vs H Q E h => h.2
  refine ok_of T.f__law_done sc_done (fun _ _ _ _ _ _ us hl => match us, hl with | [_, _], _ => rfl) (fun vs H Q E h => ?_) (fun cdv A outer s H vs Q E hr h => ?_)
  · obtain ⟨a, st, c, xs, rfl, _⟩ := h
    rfl
  · obtain ⟨a, st, c, xs, rfl, ha, ok, ho, hst, ft, h8, kk⟩ := h
    refine ⟨_, (pss_cons (ps_par3 rfl sc_done.nd (i := 2) (j := 3) (l := 4) rfl rfl rfl (by decide) (by decide) (by decide) rfl rfl rfl (pa_cons (pe_ix ix_tup (pv 0) pe_int (fun _ _ => rfl)) (pa_cons (pe_ix ix_tup (pv 0) pe_int (fun _ _ => rfl)) (pa_cons (pe_ix ix_tup (pv 0) pe_int (fun _ _ => rfl)) pa_nil))) (by rfl))
      (pss_cons (ps_if (pt_cmpR op_eq (pv 2) pe_str (nomark _)) (pss_one (ps_ret (pe_ifExp (pt_cmpR op_eq (pe_ix ix_tup (pv 1) (pv 3) (fun _ _ => rfl)) (pv 4) (nomark _)) (pe_c GR hr T.g__law_done (pa_cons (pe_ix ix_tup (pv 0) pe_int (fun _ _ => rfl)) (pa_cons (pv 1) pa_nil))) (pv 1)))) pss_nil)
      (pss_cons (ps_set (i := 5) sc_done.nd rfl (Or.inl rfl) (pe_ix ix_tup (pv 1) (pv 3) (fun _ _ => rfl)))
      (pss_cons (ps_if (pt_cmpR op_in_seq (pv 2) (pe_tup (pa_cons pe_str (pa_cons pe_str pa_nil))) (by rfl)) (pss_one (ps_set (i := 5) sc_done.nd rfl (Or.inl rfl) (pe_ifExp (pt_cmpR op_eq (pv 2) pe_str (nomark _)) (pv 4) (pe_ix ix_tup (pv 1) (pv 4) (fun _ _ => rfl))))) (pss_one (ps_if (pt_cmpR op_in_seq (pv 2) (pe_tup (pa_cons pe_str (pa_cons pe_str pa_nil))) (by rfl)) (pss_one (ps_set (i := 5) sc_done.nd rfl (Or.inl rfl) (pe_op op_mod (pe_op op_add (pv 5) (pe_ifExp (pt_cmpR op_eq (pv 2) pe_str (nomark _)) (pv 4) (pe_ix ix_tup (pv 1) (pv 4) (fun _ _ => rfl)))) pe_int))) (pss_one (ps_set (i := 5) sc_done.nd rfl (Or.inl rfl) (pe_ifExp (pt_cmpR op_eq (pv 2) pe_str (nomark _)) (pe_callB (call_max2 rfl) (by rfl) T.z_max (by decide +kernel) (pa_cons (pv 5) (pa_cons (pv 4) pa_nil))) (pe_callB (call_min2 rfl) (by rfl) T.z_min (by decide +kernel) (pa_cons (pv 5) (pa_cons (pv 4) pa_nil)))))))))
      (pss_one (ps_ret (pe_op op_catA (pe_op op_catA (pe_slice sl_tupA (pv 1) po_none (po_some (pv 3))) (pe_tup (pa_cons (pv 5) pa_nil))) (pe_slice sl_tupA (pv 1) (po_some (pe_op op_add (pv 3) pe_int)) po_none)))))))), ?_⟩
    cases c with
    | iff m v o =>
      obtain ⟨b, ha, hb⟩ := ha
      have hd : d ≠ 0 := fun z => by obtain ⟨_, z⟩ := ho z; cases z
      have hm : m < xs.length := by
        have m2 : m ≤ 2 := ok.1
        have : (m : Int) ∈ three m o.slots := mem_three (by omega) (by omega) (.inl rfl)
        have := ft _ this
        omega
      refine ⟨_, rfl, a, _, 0, .str (word none), rfl, rfl, SqT.of ha, rfl, _, rfl, a, _, 1, _, rfl, rfl, SqT.of ha, rfl, _, rfl, a, _, 2, _, rfl, rfl, SqT.of ha, rfl, _, _, _, rfl, ?_⟩
      refine ⟨_, rfl, rfl, _, rfl, ?_⟩
      rw [w_if, decide_eq_true rfl]
      refine iteT ⟨_, rfl, _, rfl, st, _, _, _, rfl, rfl, SqT.of hst, at_int hm, _, rfl, rfl, _, rfl, ?_⟩
      by_cases ev : xs.getD m 0 = (v : Int)
      · rw [decide_eq_true (congrArg V.int ev)]
        refine iteT ⟨_, rfl, a, _, 3, _, rfl, rfl, SqT.of ha, rfl, _, rfl, hd, b, st, .one o, xs, rfl, hb, ok.2.2, fun _ => ⟨_, rfl⟩, hst, fits_in ok.2.2 ft, h8, fun H' r s' e => kk H' r s' ?_⟩
        rw [e]
        show _ = some (HO.tup ((if xs.getD m 0 = (v : Int) then o.app xs else xs).map V.int))
        rw [if_pos ev]
        rfl
      · rw [decide_eq_false (fun z => ev (V.int.inj z))]
        refine iteF ⟨_, rfl, kk H st (Same.refl _) ?_⟩
        show _ = some (HO.tup ((if xs.getD m 0 = (v : Int) then o.app xs else xs).map V.int))
        rw [if_neg ev]
        exact hst
    | one o =>
      have ha : H a = some (.tup (oneRow o)) := ha
      have hs := one_slot_lt ft
      refine ⟨_, rfl, a, _, 0, .str (word (some o.k)), rfl, rfl, SqT.of ha, rfl, _, rfl, a, _, 1, _, rfl, rfl, SqT.of ha, rfl, _, rfl, a, _, 2, _, rfl, rfl, SqT.of ha, rfl, _, _, _, rfl, ?_⟩
      refine ⟨_, rfl, rfl, _, rfl, ?_⟩
      rw [w_if, decide_eq_false (by simp)]
      refine iteF ⟨_, rfl, _, rfl, st, _, _, _, rfl, rfl, SqT.of hst, at_int hs, ?_⟩
      obtain ⟨kd, m, v⟩ := o
      cases kd with
      | put =>
        refine ⟨_, rfl, (by show 2 ≤ sizeLine; decide), fun t ht => ⟨t, _, rfl, .inr (SqT.of upd_same), rfl, by decide +kernel, _, rfl, ?_⟩⟩
        have s1 : Same H _ := same_upd (o := .tup [V.str "put", V.str "move"]) ht
        have st1 := s1 _ _ hst
        rw [show inV (V.str (word (some Kind.put))) [V.str "put", V.str "move"] = true by decide +kernel]
        refine iteT ⟨_, rfl, rfl, _, rfl, ?_⟩
        rw [w_put]
        rw [decide_eq_true rfl]
        refine iteT ⟨_, rfl, ?_⟩
        exact repl_read K rfl rfl rfl st1 h8 hs fun r H' s' e => kk H' r (s1.trans s') e
      | move =>
        have hv : v < xs.length := one_src_lt (o := ⟨.move, m, v⟩) rfl ft
        refine ⟨_, rfl, (by show 2 ≤ sizeLine; decide), fun t ht => ⟨t, _, rfl, .inr (SqT.of upd_same), rfl, by decide +kernel, _, rfl, ?_⟩⟩
        have s1 : Same H _ := same_upd (o := .tup [V.str "put", V.str "move"]) ht
        have st1 := s1 _ _ hst
        rw [show inV (V.str (word (some Kind.move))) [V.str "put", V.str "move"] = true by decide +kernel]
        refine iteT ⟨_, rfl, rfl, _, rfl, ?_⟩
        rw [w_put]
        rw [decide_eq_false (by simp)]
        refine iteF ⟨_, rfl, _, rfl, st, _, _, _, rfl, rfl, SqT.of st1, at_int hv, ?_⟩
        exact repl_read K rfl rfl rfl st1 h8 hs fun r H' s' e => kk H' r (s1.trans s') e
      | add =>
        refine ⟨_, rfl, (by show 2 ≤ sizeLine; decide), fun t ht => ⟨t, _, rfl, .inr (SqT.of upd_same), rfl, by decide +kernel, _, rfl, ?_⟩⟩
        have s1 : Same H _ := same_upd (o := .tup [V.str "put", V.str "move"]) ht
        have st1 := s1 _ _ hst
        rw [show inV (V.str (word (some Kind.add))) [V.str "put", V.str "move"] = false by decide +kernel]
        refine iteF ⟨_, rfl, (by show 2 ≤ sizeLine; decide), fun t2 ht2 => ⟨t2, _, rfl, .inr (SqT.of upd_same), rfl, by decide +kernel, _, rfl, ?_⟩⟩
        have s2 : Same H _ := s1.push (o := .tup [V.str "add", V.str "addslot"]) ht2
        have st2 := s2 _ _ hst
        rw [show inV (V.str (word (some Kind.add))) [V.str "add", V.str "addslot"] = true by decide +kernel]
        refine iteT ⟨_, rfl, _, rfl, rfl, _, rfl, ?_⟩
        rw [w_add]
        rw [decide_eq_true rfl]
        refine iteT ⟨_, rfl, _, _, rfl, rfl, _, _, rfl, rfl, (by show (0 : Int) < 8; decide), ?_⟩
        exact repl_read K rfl rfl rfl st2 h8 hs fun r H' s' e => kk H' r (s2.trans s') e
      | addslot =>
        have hv : v < xs.length := one_src_lt (o := ⟨.addslot, m, v⟩) rfl ft
        refine ⟨_, rfl, (by show 2 ≤ sizeLine; decide), fun t ht => ⟨t, _, rfl, .inr (SqT.of upd_same), rfl, by decide +kernel, _, rfl, ?_⟩⟩
        have s1 : Same H _ := same_upd (o := .tup [V.str "put", V.str "move"]) ht
        have st1 := s1 _ _ hst
        rw [show inV (V.str (word (some Kind.addslot))) [V.str "put", V.str "move"] = false by decide +kernel]
        refine iteF ⟨_, rfl, (by show 2 ≤ sizeLine; decide), fun t2 ht2 => ⟨t2, _, rfl, .inr (SqT.of upd_same), rfl, by decide +kernel, _, rfl, ?_⟩⟩
        have s2 : Same H _ := s1.push (o := .tup [V.str "add", V.str "addslot"]) ht2
        have st2 := s2 _ _ hst
        rw [show inV (V.str (word (some Kind.addslot))) [V.str "add", V.str "addslot"] = true by decide +kernel]
        refine iteT ⟨_, rfl, _, rfl, rfl, _, rfl, ?_⟩
        rw [w_add]
        rw [decide_eq_false (by simp)]
        refine iteF ⟨_, rfl, _, rfl, st, _, _, _, rfl, rfl, SqT.of st2, at_int hv, _, _, rfl, rfl, _, _, rfl, rfl, (by show (0 : Int) < 8; decide), ?_⟩
        exact repl_read K rfl rfl rfl st2 h8 hs fun r H' s' e => kk H' r (s2.trans s') e
      | rais =>
        refine ⟨_, rfl, (by show 2 ≤ sizeLine; decide), fun t ht => ⟨t, _, rfl, .inr (SqT.of upd_same), rfl, by decide +kernel, _, rfl, ?_⟩⟩
        have s1 : Same H _ := same_upd (o := .tup [V.str "put", V.str "move"]) ht
        have st1 := s1 _ _ hst
        rw [show inV (V.str (word (some Kind.rais))) [V.str "put", V.str "move"] = false by decide +kernel]
        refine iteF ⟨_, rfl, (by show 2 ≤ sizeLine; decide), fun t2 ht2 => ⟨t2, _, rfl, .inr (SqT.of upd_same), rfl, by decide +kernel, _, rfl, ?_⟩⟩
        have s2 : Same H _ := s1.push (o := .tup [V.str "add", V.str "addslot"]) ht2
        have st2 := s2 _ _ hst
        rw [show inV (V.str (word (some Kind.rais))) [V.str "add", V.str "addslot"] = false by decide +kernel]
        refine iteF ⟨_, rfl, rfl, _, rfl, ?_⟩
        rw [w_raise]
        rw [decide_eq_true rfl]
        refine iteT ⟨_, rfl, _, rfl, _, _, rfl, ?_⟩
        exact repl_read K rfl rfl rfl st2 h8 hs fun r H' s' e => kk H' r (s2.trans s') e
      | lower =>
        refine ⟨_, rfl, (by show 2 ≤ sizeLine; decide), fun t ht => ⟨t, _, rfl, .inr (SqT.of upd_same), rfl, by decide +kernel, _, rfl, ?_⟩⟩
        have s1 : Same H _ := same_upd (o := .tup [V.str "put", V.str "move"]) ht
        have st1 := s1 _ _ hst
        rw [show inV (V.str (word (some Kind.lower))) [V.str "put", V.str "move"] = false by decide +kernel]
        refine iteF ⟨_, rfl, (by show 2 ≤ sizeLine; decide), fun t2 ht2 => ⟨t2, _, rfl, .inr (SqT.of upd_same), rfl, by decide +kernel, _, rfl, ?_⟩⟩
        have s2 : Same H _ := s1.push (o := .tup [V.str "add", V.str "addslot"]) ht2
        have st2 := s2 _ _ hst
        rw [show inV (V.str (word (some Kind.lower))) [V.str "add", V.str "addslot"] = false by decide +kernel]
        refine iteF ⟨_, rfl, rfl, _, rfl, ?_⟩
        rw [w_raise]
        rw [decide_eq_false (by simp)]
        refine iteF ⟨_, rfl, _, rfl, _, _, rfl, ?_⟩
        exact repl_read K rfl rfl rfl st2 h8 hs fun r H' s' e => kk H' r (s2.trans s') e
theorem ok_done (T : Txt K mg) : Ok P w K mg base (a__law_done K) ["_law_row", "_law_store"] 2 (spDone K 1) := done_step T 1 1 fun _ => done_step T 0 0 fun h => (h rfl).elim
end
end OP
namespace OP
open PySem PySem.Spec PyProof.Rows L2
section
variable {P : Program} {w : World} {K : PySem.W.Frag} {mg : Str → Option Value} {base : Heap}
/-- the names of the rows -/
theorem prefs_at {Z : Prw} {i : Nat} {x : V} (h : (prefs Z)[i]? = some x) : ∃ hi : i < Z.length, x = .ref Z[i].1 := by
  have hi : i < Z.length := by rw [← prefs_len]; exact (List.getElem?_eq_some_iff.mp h).1
  unfold prefs at h
  rw [List.getElem?_map, List.getElem?_eq_getElem hi] at h
  exact ⟨hi, (Option.some.inj h).symm⟩
theorem names_at {Z : Prw} {i : Nat} (h : i < Z.length) : names (ncs (Z.take (i + 1))) = names (ncs (Z.take i)) ++ [Z[i].2.1] := by
  have e : Z.take (i + 1) = Z.take i ++ [Z[i]] := by rw [List.take_add_one, List.getElem?_eq_getElem h] <;> rfl
  rw [e]
  unfold names ncs
  rw [List.map_append, List.map_append] <;> rfl
def spLNames (K : PySem.W.Frag) : Sp := fun vs H Q _ => ∃ (t : Addr) (n : Nat) (S : Sts) (Z : Prw), vs = [.ref t] ∧ PlanAt H t n S Z ∧ Z.length ≤ 4 ∧ ∀ H' r, Same H H' → H' r = some (.lst ((names (ncs Z)).map V.str)) → Q (.ref r) H'
theorem sc_lnames : FnScope ["_law_plan", "_law_name", "_law_row"] ["_law_plan"] (defScope s__law_names) := ⟨rfl, rfl, rfl, by decide +kernel, rfl, by decide +kernel, by decide +kernel⟩
theorem ok_lnames (T : Txt K mg) : Ok P w K mg base (a__law_names K) ["_law_plan"] 1 (spLNames K) := by
  refine ok_of T.f__law_names sc_lnames (fun _ _ _ _ _ _ us hl => match us, hl with | [_], _ => rfl) (fun vs H Q E h => ?_) (fun cdv A outer s0 H vs Q E hr h => ?_)
  · obtain ⟨t, n, S, Z, rfl, _⟩ := h
    rfl
  · obtain ⟨t, n, S, Z, rfl, ⟨⟨l, r, ht, hl, hr'⟩, hS, hZ⟩, z4, kk⟩ := h
    refine ⟨_, (pss_one (ps_ret (pe_lc (own := [("_law_name", 1), ("_law_row", 2)]) (g := (gTup K 2 (gCons (gName 1) (gCons (gName 2) gNil)))) (tt := tYes) rfl sc_lnames.nd (pi_list (pe_ix ix_tup (pv 0) pe_int (fun _ _ => rfl))) (blkOk_by (own := [("_law_name", 1), ("_law_row", 2)]) (N := ["_law_plan", "_law_name", "_law_row"]) (sc := defScope s__law_names) (by decide +kernel)) (fun _ _ _ _ _ => (pg_tupK K rfl (pgs_cons (pg_name (i := 1) sc_lnames.nd rfl (Or.inl rfl)) (pgs_cons (pg_name (i := 2) sc_lnames.nd rfl (Or.inl rfl)) pgs_nil)))) (fun _ _ _ _ _ => pts_nil) (fun _ _ _ _ _ => (pv 1))))), ?_⟩
    refine ⟨_, rfl, t, _, 2, _, rfl, rfl, SqT.of ht, rfl, r, rfl, ⟨_, SqL.of hr'⟩, fun D hD => ?_⟩
    refine lc_it (walk_list (K := K) (a := r) (xs := prefs Z)) (fun i H' => Same H H' ∧ H' D = some (.lst ((names (ncs (Z.take i))).map V.str))) ⟨same_upd hD, by rw [upd_same, List.take_zero] <;> rfl⟩ (fun i H' _ q => SqL.of (q.1 _ _ hr')) (fun i x H2 H3 hi q yy => ?_) (fun H2 q => ?_)
    · obtain ⟨s2, d2⟩ := q
      obtain ⟨rfl, hx⟩ := yy
      obtain ⟨hiZ, rfl⟩ := prefs_at hx
      have mem : Z[i] ∈ Z := List.getElem_mem hiZ
      refine ⟨Z[i].1, _, rfl, SqT.of (s2 _ _ (hZ _ mem).1), rfl, _, _, rfl, _, _, rfl, rfl, rfl, tyes (iteT ⟨_, rfl, ?_⟩)⟩
      refine ⟨_, d2, small1000 ?_, fun b u e => ?_, ?_⟩
      · unfold names ncs
        rw [List.length_map, List.length_map, List.length_map, List.length_take]
        omega
      · rw [upd_ne (ne_of_none e hD)]
        exact s2 _ _ e
      · rw [upd_same, names_at hiZ, List.map_append] <;> rfl
    · obtain ⟨s2, d2⟩ := q
      rw [prefs_len, List.take_length] at d2
      exact kk _ D s2 d2
end
end OP
namespace OP
open PySem PySem.Spec PyProof.Rows L2
theorem find_one : ∀ {Z : Prw} {j : Nat} (nd : (names (ncs Z)).Nodup) (h : j < Z.length), Z.filter (fun q => decide (q.2.1 = Z[j].2.1)) = [Z[j]]
  | [], j, _, h => absurd h (Nat.not_lt_zero _)
  | q :: Z, 0, nd, _ => by
    obtain ⟨n1, n2⟩ := List.nodup_cons.mp nd
    show (q :: Z).filter (fun p => decide (p.2.1 = q.2.1)) = [q]
    rw [List.filter_cons_of_pos (by simp)]
    congr 1
    refine List.filter_eq_nil_iff.mpr fun p hp => ?_
    simp only [decide_eq_true_eq]
    intro z
    exact n1 (by show q.2.1 ∈ names (ncs Z); rw [← z]; exact List.mem_map.mpr ⟨p.2, List.mem_map.mpr ⟨p, hp, rfl⟩, rfl⟩)
  | q :: Z, j + 1, nd, h => by
    obtain ⟨n1, n2⟩ := List.nodup_cons.mp nd
    have hj : j < Z.length := Nat.lt_of_succ_lt_succ h
    show (q :: Z).filter (fun p => decide (p.2.1 = Z[j].2.1)) = [Z[j]]
    rw [List.filter_cons_of_neg]
    · exact find_one n2 hj
    · simp only [decide_eq_true_eq]
      intro z
      exact n1 (by show q.2.1 ∈ names (ncs Z); rw [z]; exact List.mem_map.mpr ⟨Z[j].2, List.mem_map.mpr ⟨Z[j], List.getElem_mem hj, rfl⟩, rfl⟩)
theorem ncs_len (Z : Prw) : (ncs Z).length = Z.length := List.length_map ..
theorem ncs_at {Z : Prw} {j : Nat} (h : j < Z.length) : (ncs Z)[j]'(by rw [ncs_len]; exact h) = Z[j].2 := by
  unfold ncs
  rw [List.getElem_map]
theorem mem_nz {Z : Prw} {x : Str} (h : x ∈ names (ncs Z)) : ∃ j, ∃ hj : j < Z.length, Z[j].2.1 = x := by
  obtain ⟨j, hj, e⟩ := mem_names h
  have hj' : j < Z.length := by rw [← ncs_len]; exact hj
  exact ⟨j, hj', by rw [← e, ncs_at hj']⟩
theorem chg_nz {Z : Prw} {j : Nat} (nd : (names (ncs Z)).Nodup) (h : j < Z.length) : chgOf (ncs Z) Z[j].2.1 = Z[j].2.2.2 := by
  have h2 : j < (ncs Z).length := by rw [ncs_len]; exact h
  have e := chgOf_at nd h2
  rw [ncs_at h] at e
  exact e
section
variable {P : Program} {w : World} {K : PySem.W.Frag} {mg : Str → Option Value} {base : Heap}
def spGEnd (K : PySem.W.Frag) : Sp := fun vs H Q _ => ∃ (t st o : Addr) (n : Nat) (S : Sts) (Z : Prw) (xs : List Int) (ys : List Str), vs = [.ref t, .ref st, .ref o] ∧ PlanAt H t n S Z ∧ WOk n S (ncs Z) ∧ H st = some (.tup (xs.map V.int)) ∧ StoreOk xs ∧ xs.length = n ∧ H o = some (.tup (ys.map V.str)) ∧ ys.length ≤ 4 ∧ (∀ y ∈ ys, y ∈ names (ncs Z)) ∧
  ∀ H' r, Same H H' → H' r = some (.tup ((appAll (ncs Z) ys xs).map V.int)) → Q (.ref r) H'
theorem sc_gend : FnScope ["_law_plan", "_law_store", "_law_order", "_law_one", "_law_name", "_law_row"] ["_law_plan", "_law_store", "_law_order"] (defScope s__law_end) := ⟨rfl, rfl, rfl, by decide +kernel, rfl, by decide +kernel, by decide +kernel⟩
theorem ok_gend (T : Txt K mg) : Ok P w K mg base (a__law_end K) ["_law_plan", "_law_store", "_law_order"] 3 (spGEnd K) := by
  have GD : Ok P w K mg base (a__law_done K) _ 2 (spDone K 1) := ok_done T
  refine ok_of T.f__law_end sc_gend (fun _ _ _ _ _ _ us hl => match us, hl with | [_, _, _], _ => rfl) (fun vs H Q E h => ?_) (fun cdv A outer s0 H vs Q E hr h => ?_)
  · obtain ⟨t, st, o, n, S, Z, xs, ys, rfl, _⟩ := h
    rfl
  · obtain ⟨t, st, o, n, S, Z, xs, ys, rfl, ⟨⟨l, r, ht, hl, hr'⟩, hS, hZ⟩, ok, hst, sx, hn, ho, h4, hin, kk⟩ := h
    refine ⟨_, (pss_cons (ps_for PassesOwn.never rfl (pi_tup (pv 2)) (pg_name (i := 3) sc_gend.nd rfl (Or.inr rfl)) (pss_one (ps_set (i := 1) sc_gend.nd rfl (Or.inl rfl) (pe_c GD hr T.g__law_done (pa_cons (pe_ix ix_list (pe_lc (own := [("_law_name", 4), ("_law_row", 5)]) (g := (gTup K 2 (gCons (gName 4) (gCons (gName 5) gNil)))) rfl sc_gend.nd (pi_list (pe_ix ix_tup (pv 0) pe_int (fun _ _ => rfl))) (blkOk_by (own := [("_law_name", 4), ("_law_row", 5)]) (N := ["_law_plan", "_law_store", "_law_order", "_law_one", "_law_name", "_law_row"]) (sc := defScope s__law_end) (by decide +kernel)) (fun _ _ _ _ _ => (pg_tupK K rfl (pgs_cons (pg_name (i := 4) sc_gend.nd rfl (Or.inl rfl)) (pgs_cons (pg_name (i := 5) sc_gend.nd rfl (Or.inl rfl)) pgs_nil)))) (fun _ _ _ _ _ => (pts_one (pt_cmpR op_eq (pv 4) (pv 3) (nomark _)))) (fun _ _ _ _ _ => (pv 5))) pe_int (fun _ _ => rfl)) (pa_cons (pv 1) pa_nil))))))
      (pss_one (ps_ret (pv 1)))), ?_⟩
    have hm : (ys.map V.str).length = ys.length := List.length_map ..
    have nd := ok.chgs.nd
    have z4 : Z.length ≤ 4 := by rw [← ncs_len]; exact ok.chgs.hi
    refine ⟨_, rfl, o, rfl, ⟨_, SqT.of ho⟩, for_tup (K := K) (a := o) (xs := ys.map V.str) (fun i σ H' => ∃ (a : Addr) (v3 : Option V) (zs : List Int), σ = [some (.ref t), some (.ref a), some (.ref o), v3, none, none] ∧ Same H H' ∧ zs = appAll (ncs Z) (ys.take i) xs ∧ StoreOk zs ∧ zs.length = n ∧ H' a = some (.tup (zs.map V.int)))
      ⟨st, none, xs, rfl, Same.refl _, rfl, sx, hn, hst⟩ (fun i σ H' _ q => ?_) (fun i x σ H' hx q => ?_) fun σ H' q => ?_⟩
    · obtain ⟨_, _, _, _, s3, _⟩ := q
      exact SqT.of (s3 _ _ ho)
    · obtain ⟨a, v3, zs, rfl, s3, ez, sz, hz, ha⟩ := q
      obtain ⟨y, hy, rfl⟩ := strs_at' hx
      obtain ⟨j, hj, rfl⟩ := mem_nz (hin y (List.mem_of_getElem? hy))
      have mem : Z[j] ∈ Z := List.getElem_mem hj
      refine ⟨_, rfl, t, _, 2, _, rfl, rfl, SqT.of (s3 _ _ ht), rfl, r, rfl, ⟨_, SqL.of (s3 _ _ hr')⟩, fun D hD => ?_⟩
      refine lc_it (walk_list (K := K) (a := r) (xs := prefs Z)) (fun i' H2 => Same H' H2 ∧ H2 D = some (.lst (((Z.take i').filter (fun q => decide (q.2.1 = Z[j].2.1))).map fun q => V.ref q.2.2.1))) ⟨same_upd hD, by rw [upd_same, List.take_zero] <;> rfl⟩ (fun i' H2 _ q => SqL.of (q.1 _ _ (s3 _ _ hr'))) (fun i' x H2 H3 hi q yy => ?_) (fun H2 q => ?_)
      · obtain ⟨s2, d2⟩ := q
        obtain ⟨rfl, hx'⟩ := yy
        obtain ⟨hiZ, rfl⟩ := prefs_at hx'
        have mem' : Z[i'] ∈ Z := List.getElem_mem hiZ
        have et : Z.take (i' + 1) = Z.take i' ++ [Z[i']] := by rw [List.take_add_one, List.getElem?_eq_getElem hiZ] <;> rfl
        refine ⟨Z[i'].1, _, rfl, SqT.of (s2 _ _ (s3 _ _ (hZ _ mem').1)), rfl, _, _, rfl, _, _, rfl, rfl, rfl, _, rfl, _, rfl, rfl, _, rfl, ?_⟩
        have de : decide (V.str Z[i'].2.1 = V.str Z[j].2.1) = decide (Z[i'].2.1 = Z[j].2.1) := decide_eq_decide.mpr ⟨V.str.inj, congrArg V.str⟩
        rw [de]
        by_cases c : Z[i'].2.1 = Z[j].2.1
        · rw [decide_eq_true c]
          refine iteT ⟨_, rfl, _, d2, small1000 ?_, fun b u e => ?_, ?_⟩
          · rw [List.length_map]
            have f1 := List.length_filter_le (fun q : Addr × Str × Addr × Chg => decide (q.2.1 = Z[j].2.1)) (Z.take i')
            rw [List.length_take] at f1
            omega
          · rw [upd_ne (ne_of_none e hD)]
            exact s2 _ _ e
          · rw [upd_same, et, List.filter_append, List.map_append]
            have e1 : [Z[i']].filter (fun q => decide (q.2.1 = Z[j].2.1)) = [Z[i']] := by rw [List.filter_cons_of_pos (by simpa using c)] <;> rfl
            rw [e1] <;> rfl
        · rw [decide_eq_false c]
          refine iteF ⟨s2, ?_⟩
          rw [et, List.filter_append]
          have e1 : [Z[i']].filter (fun q => decide (q.2.1 = Z[j].2.1)) = [] := by rw [List.filter_cons_of_neg (by simpa using c)] <;> rfl
          rw [e1, List.append_nil]
          exact d2
      · obtain ⟨s2, d2⟩ := q
        rw [prefs_len, List.take_length, find_one nd hj] at d2
        have s32 := s3.trans s2
        have ch := ok.chgs.chg Z[j].2 (List.mem_map.mpr ⟨Z[j], mem, rfl⟩)
        have hlt : ∀ z ∈ Z[j].2.2.2.slots, z < (zs.length : Int) := fun z h => by rw [hz]; exact ch.2 z h
        refine ⟨D, _, 0, _, rfl, rfl, SqL.of d2, rfl, _, rfl, Z[j].2.2.1, a, Z[j].2.2.2, zs, rfl, (hZ _ mem).2.ext s32, ch.1, fun z => (by cases z), s2 _ _ ha, hlt, by rw [hz]; have := ok.n3; omega, fun H4 r2 s4 e4 => ?_⟩
        have ap := Chg.app_ok ch.1 sz hlt
        refine ⟨r2, _, Z[j].2.2.2.app zs, rfl, s32.trans s4, ?_, ap.1, ap.2.trans hz, e4⟩
        rw [ez, List.take_add_one, hy]
        unfold appAll
        rw [List.foldl_append]
        show _ = (chgOf (ncs Z) Z[j].2.1).app _
        rw [chg_nz nd hj]
    · obtain ⟨a, v3, zs, rfl, s3, ez, sz, hz, ha⟩ := q
      refine ⟨_, rfl, kk H' a s3 ?_⟩
      rw [ha, ez, hm, List.take_length]
end
end OP
namespace OP
open PySem PySem.Spec PyProof.Rows L2
def nc (L : Ncs) : List (Str × Chg) := L.map fun p => (p.1, p.2.2)
theorem nc_names (L : Ncs) : names L = (nc L).map (·.1) := by
  unfold nc names
  rw [List.map_map] <;> rfl
theorem nc_len (L : Ncs) : (nc L).length = L.length := List.length_map ..
theorem ChgsOk.twin {n : Nat} {L M : Ncs} (h : ChgsOk n L) (e : nc M = nc L) : ChgsOk n M := by
  have len : M.length = L.length := by rw [← nc_len M, e, nc_len]
  have mem : ∀ p ∈ M, ∃ q ∈ L, q.1 = p.1 ∧ q.2.2 = p.2.2 := fun p hp => by
    have : (p.1, p.2.2) ∈ nc M := List.mem_map.mpr ⟨p, hp, rfl⟩
    rw [e] at this
    obtain ⟨q, hq, eq⟩ := List.mem_map.mp this
    exact ⟨q, hq, (Prod.mk.inj eq).1, (Prod.mk.inj eq).2⟩
  refine ⟨by rw [len]; exact h.lo, by rw [len]; exact h.hi, fun p hp => ?_, fun p hp => ?_, by rw [nc_names, e, ← nc_names]; exact h.nd⟩
  · obtain ⟨q, hq, e1, e2⟩ := mem p hp
    rw [← e1]
    exact h.name q hq
  · obtain ⟨q, hq, e1, e2⟩ := mem p hp
    rw [← e2]
    exact h.chg q hq
theorem OneAt.upd {K : PySem.W.Frag} {H : Hp} {a D : Addr} {o : One} {u0 u : HO} (hd : H D = some u0) (n : ∀ C dx fs, u0 ≠ .ins C dx fs) (h : OneAt K H a o) : OneAt K (upd H D u) a o := by
  obtain ⟨dx, h⟩ := h
  exact ⟨dx, by rw [upd_ne (fun z => by rw [z, hd] at h; exact n _ _ _ (Option.some.inj h))]; exact h⟩
theorem ChgAt.upd {K : PySem.W.Frag} {H : Hp} {a D : Addr} {c : Chg} {u0 u : HO} (hd : H D = some u0) (n : ∀ C dx fs, u0 ≠ .ins C dx fs) (h : ChgAt K H a c) : ChgAt K (upd H D u) a c := by
  cases c with
  | one o => exact OneAt.upd hd n h
  | iff s v o =>
    obtain ⟨dx, b, h1, h2⟩ := h
    exact ⟨dx, b, by rw [upd_ne (fun z => by rw [z, hd] at h1; exact n _ _ _ (Option.some.inj h1))]; exact h1, OneAt.upd hd n h2⟩
end OP
namespace OP
open PySem PySem.Spec PyProof.Rows L2
theorem nc_snoc (A : Ncs) (p : Str × Addr × Chg) : nc (A ++ [p]) = nc A ++ [(p.1, p.2.2)] := by
  unfold nc
  rw [List.map_append] <;> rfl
theorem ncs_take {Z : Prw} {i : Nat} (h : i < Z.length) : ncs (Z.take (i + 1)) = ncs (Z.take i) ++ [Z[i].2] := by
  have e : Z.take (i + 1) = Z.take i ++ [Z[i]] := by rw [List.take_add_one, List.getElem?_eq_getElem h] <;> rfl
  rw [e]
  unfold ncs
  rw [List.map_append] <;> rfl
theorem ncs_fresh {Z : Prw} {i : Nat} (nd : (names (ncs Z)).Nodup) (h : i < Z.length) : Z[i].2.1 ∉ names (ncs (Z.take i)) := fun z => by
  have h2 : i < (ncs Z).length := by rw [ncs_len]; exact h
  have f := name_fresh nd h2
  rw [ncs_at h] at f
  refine f ?_
  have e : ncs (Z.take i) = (ncs Z).take i := by unfold ncs; rw [List.map_take]
  rw [← e]
  exact z
section
variable {P : Program} {w : World} {K : PySem.W.Frag} {mg : Str → Option Value} {base : Heap}
def spBuilt (K : PySem.W.Frag) : Sp := fun vs H Q _ => ∃ (t : Addr) (n : Nat) (S : Sts) (Z : Prw), vs = [.ref t] ∧ PlanAt H t n S Z ∧ WOk n S (ncs Z) ∧ ∀ H' p (M : Ncs), Same H H' → WorldAt K H' p n S M → nc M = nc (ncs Z) → Q (.ref p) H'
theorem sc_built : FnScope ["_law_plan", "_law_changes", "_law_name", "_law_row"] ["_law_plan"] (defScope s__law_built) := ⟨rfl, rfl, rfl, by decide +kernel, rfl, by decide +kernel, by decide +kernel⟩
theorem ok_built (T : Txt K mg) : Ok P w K mg base (a__law_built K) ["_law_plan"] 9 (spBuilt K) := by
  have GC : Ok P w K mg base (a__law_change K) _ 6 (spMade K 1) := ok_made T
  have GW : Ok P w K mg base (a_World_init K) _ 7 (spWInit K) := ok_World_init T
  refine ok_of T.f__law_built sc_built (fun _ _ _ _ _ _ us hl => match us, hl with | [_], _ => rfl) (fun vs H Q E h => ?_) (fun cdv A outer s0 H vs Q E hr h => ?_)
  · obtain ⟨t, n, S, Z, rfl, _⟩ := h
    rfl
  · obtain ⟨t, n, S, Z, rfl, ⟨⟨l, r, ht, hl, hr'⟩, hS, hZ⟩, ok, kk⟩ := h
    have hr6 : Room 6 _ := hr.mono (by decide)
    refine ⟨_, (pss_cons (ps_set (i := 1) sc_built.nd rfl (Or.inl rfl) pe_dnewK)
      (pss_cons (ps_for PassesOwn.never rfl (pi_list (pe_ix ix_tup (pv 0) pe_int (fun _ _ => rfl))) (pg_tup rfl (pgs_cons (pg_name (i := 2) sc_built.nd rfl (Or.inl rfl)) (pgs_cons (pg_name (i := 3) sc_built.nd rfl (Or.inl rfl)) pgs_nil))) (pss_one (ps_dput (hu_of hr) (pv 1) (pv 2) (pe_c GC hr6 T.g__law_change (pa_cons (pv 3) pa_nil)) rfl)))
      (pss_one (ps_ret (pe_mkc T.mk_World GW hr T.g_World (pa_cons (pe_ix ix_tup (pv 0) pe_int (fun _ _ => rfl)) (pa_cons (pe_ix ix_tup (pv 0) pe_int (fun _ _ => rfl)) (pa_cons (pv 1) pa_nil)))))))), ?_⟩
    intro d hd
    have nd := ok.chgs.nd
    have z4 : Z.length ≤ 4 := by rw [← ncs_len]; exact ok.chgs.hi
    have s1 : Same H _ := same_upd (o := .dK []) hd
    refine ⟨_, rfl, t, _, 2, _, rfl, rfl, SqT.of (s1 _ _ ht), rfl, r, rfl, ⟨_, SqL.of (s1 _ _ hr')⟩, for_list (K := K) (a := r) (xs := prefs Z) (fun i σ H' => ∃ (M : Ncs) (v2 v3 : Option V), σ = [some (.ref t), some (.ref d), v2, v3] ∧ Same H H' ∧ H' d = some (.dK (kvs M)) ∧ ChgsAt K H' M ∧ nc M = nc (ncs (Z.take i)))
      ⟨[], none, none, rfl, s1, upd_same, (fun q hq => absurd hq List.not_mem_nil), rfl⟩ (fun i σ H' _ q => ?_) (fun i x σ H' hx q => ?_) fun σ H' q => ?_⟩
    · obtain ⟨_, _, _, _, s3, _⟩ := q
      exact SqL.of (s3 _ _ hr')
    · obtain ⟨M, v2, v3, rfl, s3, hd3, hM, eM⟩ := q
      obtain ⟨hiZ, rfl⟩ := prefs_at hx
      have mem : Z[i] ∈ Z := List.getElem_mem hiZ
      have ch := ok.chgs.chg Z[i].2 (List.mem_map.mpr ⟨Z[i], mem, rfl⟩)
      refine ⟨Z[i].1, _, rfl, SqT.of (s3 _ _ (hZ _ mem).1), rfl, _, _, rfl, _, _, rfl, rfl, ?_⟩
      refine ⟨_, rfl, Z[i].2.2.1, Z[i].2.2.2, rfl, (hZ _ mem).2.ext s3, ch.1, fun z => (by cases z), fun H4 p s4 hp4 => ?_⟩
      have hd4 := s4 _ _ hd3
      have yn : Z[i].2.1 ∉ names M := by
        have e : names M = names (ncs (Z.take i)) := by rw [nc_names, eM, ← nc_names]
        rw [e]
        exact ncs_fresh nd hiZ
      have pu : putK (kvs M) (Sum.inr Z[i].2.1 : Key) (V.ref p) = kvs (M ++ [(Z[i].2.1, p, Z[i].2.2.2)]) := by
        rw [putK_new _ (valV_not yn)]
        unfold kvs
        rw [List.map_append] <;> rfl
      have lenM : M.length ≤ 4 := by
        rw [← nc_len, eM, nc_len, ncs_len, List.length_take]
        omega
      refine ⟨_, rfl, _, rfl, d, _, rfl, DPut.k (k := Sum.inr Z[i].2.1) hd4 (small1000 (by rw [kvs_len]; omega)), ?_⟩
      rw [pu]
      refine ⟨M ++ [(Z[i].2.1, p, Z[i].2.2.2)], _, _, rfl, fun b u e => ?_, upd_same, fun q hq => ?_, ?_⟩
      · rw [upd_ne (ne_of_none e hd)]
        exact s4 _ _ (s3 _ _ e)
      · rcases List.mem_append.mp hq with z | z
        · exact ((hM q z).ext s4).lock hd4
        · obtain rfl := List.mem_singleton.mp z
          exact hp4.lock hd4
      · rw [nc_snoc, eM, ncs_take hiZ, nc_snoc]
    · obtain ⟨M, v2, v3, rfl, s3, hd3, hM, eM⟩ := q
      rw [prefs_len, List.take_length] at eM
      have okM := ok.chgs.twin eM
      refine ⟨_, rfl, t, _, 0, _, rfl, rfl, SqT.of (s3 _ _ ht), rfl, _, rfl, t, _, 1, _, rfl, rfl, SqT.of (s3 _ _ ht), rfl, _, rfl, ?_⟩
      intro x dx hx hdx ne
      have s9 : Same H' (upd (upd H' dx (.own x)) x (.ins (c_World K) dx [])) := (same_upd hdx).push (by rw [upd_ne (Ne.symm ne)]; exact hx)
      exact ⟨x, dx, l, d, n, S, M, rfl, ⟨ok.n1, ok.n3, ok.sts, okM⟩, upd_same, s9 _ _ (s3 _ _ hl), (hS.ext s3).ext s9, s9 _ _ hd3, hM.ext s9, fun H2 hk W => ⟨rfl, kk H2 x _ (s3.trans (made_same hx hdx hk)) W eM⟩⟩
end
end OP
namespace OP
open PySem PySem.Spec PyProof.Rows GenW L2
/-- a set stands in the order of the world -/
theorem sets_sub {ns : List Str} (h2 : 2 ≤ ns.length) (h4 : ns.length ≤ 4) {ys : List Str} (h : ys ∈ setsOf ns) : ys.Sublist ns := by
  match ns, h2, h4 with
  | [a, b], _, _ =>
    have e : setsOf [a, b] = [[], [a], [b], [a, b]] := rfl
    rw [e] at h
    simp only [List.mem_cons, List.not_mem_nil, or_false] at h
    rcases h with rfl | rfl | rfl | rfl <;> repeat (first | exact List.Sublist.slnil | apply List.Sublist.cons_cons | apply List.Sublist.cons)
  | [a, b, c], _, _ =>
    have e : setsOf [a, b, c] = [[], [a], [b], [c], [a, b], [a, c], [b, c], [a, b, c]] := rfl
    rw [e] at h
    simp only [List.mem_cons, List.not_mem_nil, or_false] at h
    rcases h with rfl | rfl | rfl | rfl | rfl | rfl | rfl | rfl <;> repeat (first | exact List.Sublist.slnil | apply List.Sublist.cons_cons | apply List.Sublist.cons)
  | [a, b, c, d], _, _ =>
    have e : setsOf [a, b, c, d] = [[], [a], [b], [c], [d], [a, b], [a, c], [a, d], [b, c], [b, d], [c, d], [a, b, c], [a, b, d], [a, c, d], [b, c, d], [a, b, c, d]] := rfl
    rw [e] at h
    simp only [List.mem_cons, List.not_mem_nil, or_false] at h
    rcases h with rfl | rfl | rfl | rfl | rfl | rfl | rfl | rfl | rfl | rfl | rfl | rfl | rfl | rfl | rfl | rfl <;> repeat (first | exact List.Sublist.slnil | apply List.Sublist.cons_cons | apply List.Sublist.cons)
  | [], h, _ => exact absurd h (by decide)
  | [_], h, _ => simp at h
  | _ :: _ :: _ :: _ :: _ :: _, _, h => simp at h
theorem mem_any_eqv {S : List (List Int)} {xs : List Int} (h : xs ∈ S) : ((S.map dT).any fun z => PyData.eqv z (dT xs)) = true := by rw [any_eqv, decide_eq_true h]
section
variable {P : Program} {w : PySem.World} {K : PySem.W.Frag} {mg : Str → Option Value} {base : Heap}
def spStart (K : PySem.W.Frag) : Sp := fun vs H Q _ => ∃ (p st : Addr) (xs : List Int) (n : Nat) (S : Sts) (L : Ncs), vs = [.ref p, .ref st] ∧ WorldAt K H p n S L ∧ StoreOk xs ∧ xs.length = n ∧ H st = some (.tup (xs.map V.int)) ∧ xs ∈ S.map (·.2) ∧ ∀ H', Same H H' → Q (.bl true) H'
theorem sc_istart : FnScope ["world", "store"] ["world", "store"] (defScope s_is_start) := ⟨rfl, rfl, rfl, by decide +kernel, rfl, by decide +kernel, by decide +kernel⟩
theorem ok_istart (T : Txt K mg) : Ok P w K mg base (a_is_start K) ["world", "store"] 4 (spStart K) := by
  have GS : Ok P w K mg base (a_is_store_of K) _ 3 spIsStoreOf := ok_is_store_of T
  refine ok_of T.f_is_start sc_istart (fun _ _ _ _ _ _ us hl => match us, hl with | [_, _], _ => rfl) (fun vs H Q E h => ?_) (fun cdv A outer s H vs Q E hr h => ?_)
  · obtain ⟨p, st, xs, n, S, L, rfl, _⟩ := h
    rfl
  · obtain ⟨p, st, xs, n, S, L, rfl, W, sx, hn, hst, hin, kk⟩ := h
    obtain ⟨⟨dx, l, d, hp, hl, hd⟩, hS, _⟩ := id W
    refine ⟨_, (pss_one (ps_ret (pe_and (pe_c GS hr T.g_is_store_of (pa_cons (pv 1) (pa_cons (pe_fld (pv 0) rfl) pa_nil))) (pe_one (pe_cmpR (op_inD (room65 hr)) (pv 1) (pe_fld (pv 0) rfl) (by rfl)))))), ?_⟩
    refine ⟨_, rfl, _, rfl, p, c_World K, dx, _, _, rfl, hp, T.o_World.cl, T.n_World_width, lookA, st, xs, n, rfl, hst, sx, by rw [hn], fun H1 s1 => ⟨true, rfl, iteT ?_⟩⟩
    refine ⟨_, rfl, _, rfl, p, c_World K, dx, _, _, rfl, s1 _ _ hp, T.o_World.cl, T.n_World_starts, lookB w_s, dT xs, _, dp_T (s1 _ _ hst), dp_Ts (s1 _ _ hl) (hS.ext s1), shp_T _, shp_Ts _, ?_⟩
    rw [mem_any_eqv hin]
    exact kk _ s1
def lastN (E : Ents) (ys : List Str) : List Str := ys.filter fun y => !(ys.any fun o => bef E y o)
def spLast (K : PySem.W.Frag) : Sp := fun vs H Q _ => ∃ (d a : Addr) (E : Ents) (ys : List Str), vs = [.ref d, .ref a] ∧ PolAt H d E ∧ SqT K H a (ys.map V.str) ∧ ys.length ≤ 4 ∧ ∀ H' r, Same H H' → H' r = some (.lst ((lastN E ys).map V.str)) → Q (.ref r) H'
theorem sc_last : FnScope ["policy", "names", "name", "other"] ["policy", "names"] (defScope s_last_names) := ⟨rfl, rfl, rfl, by decide +kernel, rfl, by decide +kernel, by decide +kernel⟩
theorem ok_last (T : Txt K mg) : Ok P w K mg base (a_last_names K) ["policy", "names"] 1 (spLast K) := by
  refine ok_of T.f_last_names sc_last (fun _ _ _ _ _ _ us hl => match us, hl with | [_, _], _ => rfl) (fun vs H Q E h => ?_) (fun cdv A outer s H vs Q E hr h => ?_)
  · obtain ⟨d, a, E', ys, rfl, _⟩ := h
    rfl
  · obtain ⟨d, a, E', ys, rfl, hd, ha, h4, kk⟩ := h
    refine ⟨_, (pss_one (ps_ret (pe_lc (own := [("name", 2)]) (g := (gName 2)) rfl sc_last.nd (pi_tup (pv 1)) (blkOk_by (own := [("name", 2)]) (N := ["policy", "names", "name", "other"]) (sc := defScope s_last_names) (by decide +kernel)) (fun _ _ _ _ _ => (pg_name (i := 2) sc_last.nd rfl (Or.inr rfl))) (fun _ _ _ _ _ => (pts_one (pt_not (pt_val (pe_callB (cr_anyK K rfl) (by rfl) T.z_any (by decide +kernel) (pa_cons (pe_lc (own := [("other", 3)]) (g := (gName 3)) (tt := tYes) rfl sc_last.nd (pi_tupK K (pv 1)) (blkOk_by (own := [("other", 3)]) (N := ["policy", "names", "name", "other"]) (sc := ({ kind := PySem.ScopeKind.function, names := [ (PySem.Str.ofString ".0", PySem.NameKind.local), (PySem.Str.ofString "name", PySem.NameKind.cell), (PySem.Str.ofString "any", PySem.NameKind.globalImplicit), (PySem.Str.ofString "names", PySem.NameKind.cell), (PySem.Str.ofString "policy", PySem.NameKind.cell)], isGenerator := false, isCoroutine := false, more := [] : PySem.Scope })) (by decide +kernel)) (fun _ _ _ _ _ => (pg_name (i := 3) sc_last.nd rfl (Or.inl rfl))) (fun _ _ _ _ _ => pts_nil) (fun _ _ _ _ _ => (pe_cmp (pc_din (hu_of hr) (pe_tup (pa_cons (pv 2) (pa_cons (pv 3) pa_nil))) (pv 0)) rfl))) pa_nil)))))) (fun _ _ _ _ _ => (pv 2))))), ?_⟩
    have hm : (ys.map V.str).length = ys.length := List.length_map ..
    refine ⟨_, rfl, a, rfl, ⟨_, ha⟩, fun D hD => ?_⟩
    refine lc_it (walk_tup (K := K) (a := a) (xs := ys.map V.str)) (fun i H' => Same H H' ∧ H' D = some (.lst (((ys.take i).filter fun y => !(ys.any fun o => bef E' y o)).map V.str))) ⟨same_upd hD, by rw [upd_same, List.take_zero] <;> rfl⟩ (fun i H' _ q => Same.tp q.1 ha) (fun i x H2 H3 hi q yy => ?_) (fun H2 q => ?_)
    · obtain ⟨s2, d2⟩ := q
      obtain ⟨rfl, hx⟩ := yy
      obtain ⟨y, hy, rfl⟩ := strs_at' hx
      refine ⟨rfl, ⟨_, rfl, a, rfl, ⟨_, Same.tp s2 ha⟩, fun D2 hD2 => ?_⟩⟩
      refine lcT_map (K := K) (a := a) (xs := ys.map V.str) (ys.map fun o => V.bl (bef E' y o)) hD2 (Same.tp s2 ha) (by rw [hm]; omega) (by rw [hm, List.length_map]) (fun j x2 v H4 Qe hx2 hv s4 kq => ?_) fun H4 s4 e4 => ?_
      · obtain ⟨o, ho, rfl⟩ := strs_at' hx2
        rw [List.getElem?_map, ho] at hv
        obtain rfl := Option.some.inj hv
        refine ⟨_, rfl, _, rfl, (by show 2 ≤ sizeLine; decide), fun q hq => ?_⟩
        have s5 : Same H4 _ := same_upd (o := .tup [V.str y, V.str o]) hq
        refine ⟨_, rfl, d, _, rfl, (((hd.ext s2).ext s4).ext s5).get upd_same, ?_⟩
        rw [pol_some]
        exact kq _ s5
      · refine ⟨D2, ys.map fun o => bef E' y o, rfl, ?_, _, rfl, ?_⟩
        · rw [List.map_map]
          exact SqL.of e4
        have ea : (ys.map fun o => bef E' y o).any id = ys.any fun o => bef E' y o := by rw [List.any_map] <;> rfl
        rw [ea]
        have et : (ys.take (i + 1)).filter (fun y => !(ys.any fun o => bef E' y o)) = (ys.take i).filter (fun y => !(ys.any fun o => bef E' y o)) ++ if (ys.any fun o => bef E' y o) = true then [] else [y] := by
          rw [List.take_add_one, hy, Option.toList_some, List.filter_append]
          congr 1
          cases hb : ys.any fun o => bef E' y o with
          | true => rw [if_pos rfl, List.filter_cons, hb] <;> rfl
          | false => rw [if_neg (by decide), List.filter_cons, hb] <;> rfl
        have d4 := s4 _ _ d2
        cases hb : ys.any fun o => bef E' y o with
        | true =>
          refine iteF ⟨s2.trans s4, ?_⟩
          rw [et, hb, if_pos rfl, List.append_nil]
          exact d4
        | false =>
          refine iteT ⟨_, rfl, _, d4, small1000 ?_, fun b u e => ?_, ?_⟩
          · rw [List.length_map]
            have f1 := List.length_filter_le (fun y => !(ys.any fun o => bef E' y o)) (ys.take i)
            rw [List.length_take] at f1
            omega
          · rw [upd_ne (ne_of_none e hD)]
            exact s4 _ _ (s2 _ _ e)
          · rw [upd_same, et, hb, if_neg (by decide), List.map_append] <;> rfl
    · obtain ⟨s2, d2⟩ := q
      rw [hm, List.take_length] at d2
      exact kk _ D s2 d2
def spTKey (K : PySem.W.Frag) : Sp := fun vs H Q _ => ∃ (p k : Addr) (q : TK) (n : Nat) (S : Sts) (L : Ncs), vs = [.ref p, .ref k] ∧ WorldAt K H p n S L ∧ WOk n S L ∧ KeyAt H k q ∧ q.1 ∈ S.map (·.2) ∧ q.2 ∈ setsOf (names L) ∧ ∀ H', Same H H' → Q (.bl true) H'
theorem sc_itk : FnScope ["world", "key"] ["world", "key"] (defScope s_is_table_key) := ⟨rfl, rfl, rfl, by decide +kernel, rfl, by decide +kernel, by decide +kernel⟩
theorem so_names {n : Nat} {L : Ncs} (ok : ChgsOk n L) : ∀ y ∈ names L, PyData.strOk y = true := fun y hy => by
  obtain ⟨j, hj, rfl⟩ := mem_names hy
  exact strOk_name (ok.name _ (List.getElem_mem hj))
theorem ok_tkey (T : Txt K mg) : Ok P w K mg base (a_is_table_key K) ["world", "key"] 5 (spTKey K) := by
  have GS : Ok P w K mg base (a_is_start K) _ 4 (spStart K) := ok_istart T
  have GI : Ok P w K mg base (a_is_set K) _ 3 (spIsSet K) := ok_iset T
  refine ok_of T.f_is_table_key sc_itk (fun _ _ _ _ _ _ us hl => match us, hl with | [_, _], _ => rfl) (fun vs H Q E h => ?_) (fun cdv A outer s H vs Q E hr h => ?_)
  · obtain ⟨p, k, q, n, S, L, rfl, _⟩ := h
    rfl
  · obtain ⟨p, k, q, n, S, L, rfl, W, ok, ⟨x, t, h1, h2, h3⟩, m1, m2, kk⟩ := h
    have hr3 : Room 3 _ := hr.mono (by omega)
    refine ⟨_, (pss_cons (ps_if (PW.pt (pw_or (pt_not (pt_val (pe_callB call_isi (by rfl) T.z_isinstance (by decide +kernel) (pa_cons (pv 1) (pa_cons (pe_bltn (v := .ty "tuple") (by rfl) T.z_tuple (by decide +kernel) rfl) pa_nil))))) (pw_or1 (pt_cmpR op_ne (pe_callB call_len_seq (by rfl) T.z_len PySem.boot_len (pa_cons (pv 1) pa_nil)) pe_int (nomark _))))) (pss_one (ps_ret pe_bl)) pss_nil)
      (pss_one (ps_ret (pe_and (pe_c GS hr T.g_is_start (pa_cons (pv 0) (pa_cons (pe_ix ix_tup (pv 1) pe_int (fun _ _ => rfl)) pa_nil))) (pe_one (pe_c GI hr3 T.g_is_set (pa_cons (pv 0) (pa_cons (pe_ix ix_tup (pv 1) pe_int (fun _ _ => rfl)) pa_nil)))))))), ?_⟩
    have l1 : 2 ≤ (names L).length := by unfold names; rw [List.length_map]; exact ok.chgs.lo
    have l2 : (names L).length ≤ 4 := by unfold names; rw [List.length_map]; exact ok.chgs.hi
    obtain ⟨so, hso, eso⟩ := List.mem_map.mp m1
    obtain ⟨sok, sln⟩ := ok.sts.each so hso
    rw [eso] at sok sln
    refine ⟨_, rfl, _, _, _, _, true, rfl, .ty "tuple", .base (.tup h1), kit_tup, true, rfl, iteF ?_⟩
    refine ⟨_, rfl, k, _, rfl, .inr (SqT.of h1), rfl, _, rfl, iteF ?_⟩
    refine ⟨_, rfl, _, rfl, k, _, 0, _, rfl, rfl, SqT.of h1, rfl, p, x, q.1, n, S, L, rfl, W, sok, sln, h2, m1, fun H1 s1 => ⟨true, rfl, iteT ?_⟩⟩
    exact ⟨_, rfl, _, rfl, k, _, 1, _, rfl, rfl, SqT.of (s1 _ _ h1), rfl, p, t, q.2, n, S, L, rfl, W.ext s1, ok.chgs.nd, ok.chgs.hi, so_names ok.chgs, s1 _ _ h3, sets_sub l1 l2 m2, fun H2 s2 => kk _ (s1.trans s2)⟩
end
end OP
namespace OP
open PySem PySem.Spec PyProof.Rows GenW L2
section
variable {K : PySem.W.Frag} {H H' : Hp} {d : Addr} {φ : Heap → Prop}
theorem OneAt.offE {a : Addr} {o : One} (hd : H d = some (.ext φ)) (e : ∀ b u, b ≠ d → H b = some u → H' b = some u) (h : OneAt K H a o) : OneAt K H' a o := by
  obtain ⟨dx, h⟩ := h
  exact ⟨dx, e _ _ (fun z => by rw [z, hd] at h; cases h) h⟩
theorem ChgAt.offE {a : Addr} {c : Chg} (hd : H d = some (.ext φ)) (e : ∀ b u, b ≠ d → H b = some u → H' b = some u) (h : ChgAt K H a c) : ChgAt K H' a c := by
  cases c with
  | one o => exact OneAt.offE hd e h
  | iff s v o =>
    obtain ⟨dx, b, h1, h2⟩ := h
    exact ⟨dx, b, e _ _ (fun z => by rw [z, hd] at h1; cases h1) h1, OneAt.offE hd e h2⟩
theorem WorldAt.offE {p : Addr} {n : Nat} {S : Sts} {L : Ncs} (hd : H d = some (.ext φ)) (e : ∀ b u, b ≠ d → H b = some u → H' b = some u) (h : WorldAt K H p n S L) : WorldAt K H' p n S L := by
  obtain ⟨⟨dx, l, m, h1, h2, h3⟩, h4, h5⟩ := h
  refine ⟨⟨dx, l, m, e _ _ (fun z => by rw [z, hd] at h1; cases h1) h1, e _ _ (fun z => by rw [z, hd] at h2; cases h2) h2, e _ _ (fun z => by rw [z, hd] at h3; cases h3) h3⟩, fun q hq => ?_, fun q hq => (h5 q hq).offE hd e⟩
  have h := h4 q hq
  exact e _ _ (fun z => by rw [z, hd] at h; cases h) h
end
theorem TabAt.ext {P : Program} {w : PySem.World} {H H' : Hp} {d : Addr} {xs : List Ent} (s : Same H H') (h : TabAt P w H d xs) : TabAt P w H' d xs :=
  ⟨s _ _ h.tab, h.sys, fun x hx => (h.keys x hx).keep fun b ys e => s _ _ e, fun x hx => s _ _ (h.vals x hx), h.nd, h.few⟩
theorem KeyAt.ext {H H' : Hp} {a : Addr} {q : TK} (s : Same H H') (h : KeyAt H a q) : KeyAt H' a q := h.keep fun b ys e => s _ _ e
/-- entries from initial stores and sets to stores -/
structure EntsOk (n : Nat) (S : Sts) (L : Ncs) (xs : List Ent) : Prop where
  key : ∀ x ∈ xs, x.1 ∈ pairsOf (S.map (·.2)) (names L)
  val : ∀ x ∈ xs, StoreOk x.2.2.2 ∧ x.2.2.2.length = n
  all : ∀ q ∈ pairsOf (S.map (·.2)) (names L), ∃ e, findN xs q = some e
  len : xs.length = (pairsOf (S.map (·.2)) (names L)).length
theorem mem_pairs {A : List (List Int)} {ns : List Str} {q : List Int × List Str} : q ∈ pairsOf A ns ↔ q.1 ∈ A ∧ q.2 ∈ setsOf ns := by
  unfold pairsOf
  rw [List.mem_flatMap]
  constructor
  · rintro ⟨st, h1, h2⟩
    obtain ⟨y, h3, rfl⟩ := List.mem_map.mp h2
    exact ⟨h1, h3⟩
  · rintro ⟨h1, h2⟩
    exact ⟨q.1, h1, List.mem_map.mpr ⟨q.2, h2, rfl⟩⟩
theorem sub_sets {ns : List Str} (h2 : 2 ≤ ns.length) (h4 : ns.length ≤ 4) {ys : List Str} (h : ys.Sublist ns) : ys ∈ setsOf ns := by
  match ns, h2, h4 with
  | [a, b], _, _ =>
    have e : setsOf [a, b] = [[], [a], [b], [a, b]] := rfl
    rw [e]
    cases h with
    | cons _ h => cases h with
      | cons _ h => cases h; simp
      | cons_cons _ h => cases h; simp
    | cons_cons _ h => cases h with
      | cons _ h => cases h; simp
      | cons_cons _ h => cases h; simp
  | [a, b, c], _, _ =>
    have e : setsOf [a, b, c] = [[], [a], [b], [c], [a, b], [a, c], [b, c], [a, b, c]] := rfl
    rw [e]
    cases h with
    | cons _ h => cases h with
      | cons _ h => cases h with
        | cons _ h => cases h; simp
        | cons_cons _ h => cases h; simp
      | cons_cons _ h => cases h with
        | cons _ h => cases h; simp
        | cons_cons _ h => cases h; simp
    | cons_cons _ h => cases h with
      | cons _ h => cases h with
        | cons _ h => cases h; simp
        | cons_cons _ h => cases h; simp
      | cons_cons _ h => cases h with
        | cons _ h => cases h; simp
        | cons_cons _ h => cases h; simp
  | [a, b, c, d], _, _ =>
    have e : setsOf [a, b, c, d] = [[], [a], [b], [c], [d], [a, b], [a, c], [a, d], [b, c], [b, d], [c, d], [a, b, c], [a, b, d], [a, c, d], [b, c, d], [a, b, c, d]] := rfl
    rw [e]
    cases h with
    | cons _ h => cases h with
      | cons _ h => cases h with
        | cons _ h => cases h with
          | cons _ h => cases h; simp
          | cons_cons _ h => cases h; simp
        | cons_cons _ h => cases h with
          | cons _ h => cases h; simp
          | cons_cons _ h => cases h; simp
      | cons_cons _ h => cases h with
        | cons _ h => cases h with
          | cons _ h => cases h; simp
          | cons_cons _ h => cases h; simp
        | cons_cons _ h => cases h with
          | cons _ h => cases h; simp
          | cons_cons _ h => cases h; simp
    | cons_cons _ h => cases h with
      | cons _ h => cases h with
        | cons _ h => cases h with
          | cons _ h => cases h; simp
          | cons_cons _ h => cases h; simp
        | cons_cons _ h => cases h with
          | cons _ h => cases h; simp
          | cons_cons _ h => cases h; simp
      | cons_cons _ h => cases h with
        | cons _ h => cases h with
          | cons _ h => cases h; simp
          | cons_cons _ h => cases h; simp
        | cons_cons _ h => cases h with
          | cons _ h => cases h; simp
          | cons_cons _ h => cases h; simp
  | [], h, _ => exact absurd h (by decide)
  | [_], h, _ => simp at h
  | _ :: _ :: _ :: _ :: _ :: _, _, h => simp at h
theorem without_sets {ns : List Str} (h2 : 2 ≤ ns.length) (h4 : ns.length ≤ 4) {ys : List Str} (h : ys ∈ setsOf ns) (y : Str) : withoutN ys y ∈ setsOf ns :=
  sub_sets h2 h4 ((List.filter_sublist ..).trans (sets_sub h2 h4 h))
/-- the value at a key -/
def valN (xs : List Ent) (q : TK) : List Int := ((findN xs q).map (·.2.2.2)).getD []
def rightB (L : Ncs) (E : Ents) (xs : List Ent) (q : TK) : Bool := if q.2 = [] then decide (valN xs q = q.1) else (lastN E q.2).all fun y => decide ((chgOf L y).app (valN xs (q.1, withoutN q.2 y)) = valN xs q)
section
variable {P : Program} {w : PySem.World} {K : PySem.W.Frag} {mg : Str → Option Value} {base : Heap}
def spCTab (P : Program) (w : PySem.World) (K : PySem.W.Frag) : Sp := fun vs H Q _ => ∃ (p d : Addr) (n : Nat) (S : Sts) (L : Ncs) (xs : List Ent), vs = [.ref p, .ref d] ∧ WorldAt K H p n S L ∧ WOk n S L ∧ TabAt P w H d xs ∧ EntsOk n S L xs ∧ ∀ H', Same H H' → Q .non H'
theorem sc_ctab : FnScope ["world", "table", "key", "end"] ["world", "table"] (defScope s_check_table) := ⟨rfl, rfl, rfl, by decide +kernel, rfl, by decide +kernel, by decide +kernel⟩
theorem ok_ctab (T : Txt K mg) : Ok P w K mg base (a_check_table K) ["world", "table"] 6 (spCTab P w K) := by
  have GK : Ok P w K mg base (a_is_table_key K) _ 5 (spTKey K) := ok_tkey T
  have GS : Ok P w K mg base (a_is_store_of K) _ 3 spIsStoreOf := ok_is_store_of T
  have GP : Ok P w K mg base (a_stores_and_sets K) _ 5 (spStSets K) := ok_stsets T
  have GL : Ok P w K mg base (a_World_slots K) _ 1 (spWidth K) := ok_World_slots T
  refine ok_of T.f_check_table sc_ctab (fun _ _ _ _ _ _ us hl => match us, hl with | [_, _], _ => rfl) (fun vs H Q E h => ?_) (fun cdv A outer s H vs Q E hr h => ?_)
  · obtain ⟨p, d, n, S, L, xs, rfl, _⟩ := h
    rfl
  · obtain ⟨p, d, n, S, L, xs, rfl, W, ok, t, eo, kk⟩ := h
    have hr3 : Room 3 _ := hr.mono (by omega)
    have hr2 : Room 2 _ := hr.mono (by omega)
    have hr5 : Room 5 _ := hr.mono (by omega)
    refine ⟨_, (pss_cons (ps_if (PW.pt (pw_or (pt_not (pt_val (pe_callB call_nisi (by rfl) T.z_isinstance (by decide +kernel) (pa_cons (pv 1) (pa_cons (pe_bltn (v := .ty "dict") (by rfl) T.z_dict (by decide +kernel) rfl) pa_nil))))) (pw_or1 (pt_cmpR op_ne (pe_callB call_nlen (by rfl) T.z_len PySem.boot_len (pa_cons (pv 1) pa_nil)) (pe_callB call_len_seq (by rfl) T.z_len PySem.boot_len (pa_cons (pe_c GP hr5 T.g_stores_and_sets (pa_cons (pv 0) pa_nil)) pa_nil)) (nomark _))))) (pss_one ps_never) pss_nil)
      (pss_one (ps_lock (ps_for PassesOwn.never rfl (pi_itemsR (pv 1)) (pg_tup rfl (pgs_cons (pg_name (i := 2) sc_ctab.nd rfl (Or.inl rfl)) (pgs_cons (pg_name (i := 3) sc_ctab.nd rfl (Or.inl rfl)) pgs_nil))) (pss_one (ps_if (PW.pt (pw_or (pt_not (pt_val (pe_c GK hr5 T.g_is_table_key (pa_cons (pv 0) (pa_cons (pv 2) pa_nil))))) (pw_or1 (pt_not (pt_val (pe_c GS hr3 T.g_is_store_of (pa_cons (pv 3) (pa_cons (pe_pr (pv 0) T.o_World T.p_World_slots GL hr2) pa_nil)))))))) (pss_one ps_never) pss_nil)))))), ?_⟩
    refine ⟨_, rfl, d, xs, rfl, t, true, rfl, iteF ?_⟩
    refine ⟨_, rfl, d, xs, rfl, t, _, rfl, p, n, S, L, rfl, W, ok, fun Z l H1 s1 _ e1 a1 c1 => ⟨l, _, rfl, .inl (SqL.of e1), rfl, _, rfl, ?_⟩⟩
    have lz : (qrefs Z).length = (pcont Z).length := by unfold qrefs pcont; rw [List.length_map, List.length_map]
    have ee : decide (V.int (xs.length : Int) = V.int ((qrefs Z).length : Int)) = true := decide_eq_true (by rw [lz, c1, eo.len])
    rw [ee]
    refine iteF ?_
    have t1 := t.ext s1
    refine ⟨d, _, t1.tab, trivial, fun od => ?_⟩
    have hd1 : (upd H1 d (.frz od (TabO P w d xs))) d = some (.frz od (TabO P w d xs)) := upd_same
    have W1 : WorldAt K (upd H1 d (.frz od (TabO P w d xs))) p n S L := (W.ext s1).offE t1.tab fun b u z h => by rw [upd_ne z]; exact h
    have tu : ∀ b ys, H1 b = some (.tup ys) → (upd H1 d (.frz od (TabO P w d xs))) b = some (.tup ys) := fun b ys e => tup_off t1.tab e
    refine ⟨_, rfl, d, od, _, _, _, rfl, hd1, raw_tab t1.sys, ?_⟩
    refine for_it walk_itemsR (fun i σ H' => ∃ f g, σ = [some (.ref p), some (.ref d), f, g] ∧ Same (upd H1 d (.frz od (TabO P w d xs))) H') ⟨_, _, rfl, Same.refl _⟩ (fun i σ H' _ ⟨f, g, _, s1⟩ => s1 _ _ hd1) (fun i x σ H2 H3 hi inv yy => ?_) (fun σ H2 inv => ?_)
    · obtain ⟨f, g, rfl, s2⟩ := inv
      obtain ⟨tt, x, y, rfl, ht, rfl, e, he, rfl, rfl⟩ := yy
      have mem := List.mem_of_getElem? he
      have s3 : Same H2 _ := same_upd (o := .tup [.ref e.2.1, .ref e.2.2.1]) ht
      have s23 := s2.trans s3
      have kx : KeyAt _ e.2.1 e.1 := ((t1.keys e mem).keep tu).ext s23
      obtain ⟨m1, m2⟩ := mem_pairs.mp (eo.key e mem)
      obtain ⟨v1, v2⟩ := eo.val e mem
      refine ⟨tt, _, rfl, SqT.of upd_same, rfl, _, _, rfl, _, _, rfl, rfl, ?_⟩
      refine ⟨_, rfl, _, rfl, p, e.2.1, e.1, n, S, L, rfl, W1.ext s23, ok, kx, m1, m2, fun H4 s4 => ⟨true, rfl, iteF ?_⟩⟩
      have W4 := (W1.ext s23).ext s4
      obtain ⟨⟨dx, l', m, hp, _, _⟩, _, _⟩ := id W4
      refine ⟨_, rfl, _, rfl, p, dx, _, rfl, hp, p, n, S, L, rfl, W4, e.2.2.1, e.2.2.2, n, rfl, s4 _ _ (s23 _ _ (tu _ _ (t1.vals e mem))), v1, by rw [v2], fun H5 s5 => ⟨true, rfl, iteF ?_⟩⟩
      exact ⟨_, _, rfl, (s23.trans s4).trans s5⟩
    · obtain ⟨f, g, rfl, s2⟩ := inv
      refine ⟨s2 _ _ hd1, ?_⟩
      exact kk _ (s1.trans (same_lock t1.tab s2))
end
end OP
namespace OP
open PySem PySem.Spec PyProof.Rows GenW L2
theorem val_of {xs : List Ent} {q : TK} {e : Ent} (h : findN xs q = some e) : valN xs q = e.2.2.2 := by
  unfold valN
  rw [h] <;> rfl
theorem find_key {xs : List Ent} {q : TK} {e : Ent} (h : findN xs q = some e) : e ∈ xs ∧ e.1 = q := by
  refine ⟨List.mem_of_find?_eq_some h, ?_⟩
  have := List.find?_some h
  simpa using this
theorem last_mem {E : Ents} {ys : List Str} {y : Str} (h : y ∈ lastN E ys) : y ∈ ys := (List.mem_filter.mp h).1
section
variable {P : Program} {w : PySem.World} {K : PySem.W.Frag} {mg : Str → Option Value} {base : Heap}
def spRight (P : Program) (w : PySem.World) (K : PySem.W.Frag) : Sp := fun vs H Q _ => ∃ (p dp d st a : Addr) (n : Nat) (S : Sts) (L : Ncs) (E : Ents) (xs : List Ent) (q : TK), vs = [.ref p, .ref dp, .ref d, .ref st, .ref a] ∧ WorldAt K H p n S L ∧ WOk n S L ∧ PolAt H dp E ∧ TabAt P w H d xs ∧ EntsOk n S L xs ∧
  H st = some (.tup (q.1.map V.int)) ∧ H a = some (.tup (q.2.map V.str)) ∧ q ∈ pairsOf (S.map (·.2)) (names L) ∧ ∀ H', Same H H' → Q (.bl (rightB L E xs q)) H'
theorem sc_ire : FnScope ["world", "policy", "table", "start", "names", "end", "reached", "name", "other"] ["world", "policy", "table", "start", "names"] (defScope s_is_right_end) := ⟨rfl, rfl, rfl, by decide +kernel, rfl, by decide +kernel, by decide +kernel⟩
theorem ok_right (T : Txt K mg) : Ok P w K mg base (a_is_right_end K) ["world", "policy", "table", "start", "names"] 6 (spRight P w K) := by
  have GW : Ok P w K mg base (a_without K) _ 1 (spWithout K) := ok_without T
  have GN : Ok P w K mg base (a_last_names K) _ 1 (spLast K) := ok_last T
  have GC : Ok P w K mg base (a_World_change K) _ 2 (spChange K) := ok_World_change T
  have GA : ∀ q, Ok P w K mg base (CK.applyA K q) ["self", "store"] 5 (spCA K q) := okC_apply T
  refine ok_of T.f_is_right_end sc_ire (fun _ _ _ _ _ _ us hl => match us, hl with | [_, _, _, _, _], _ => rfl) (fun vs H Q E h => ?_) (fun cdv A outer s H vs Q E hr h => ?_)
  · obtain ⟨p, dp, d, st, a, n, S, L, E', xs, q, rfl, _⟩ := h
    rfl
  · obtain ⟨p, dp, d, st, a, n, S, L, E', xs, q, rfl, W, ok, hdp, t, eo, hst, ha, hq, kk⟩ := h
    have hr1 : Room 1 _ := hr.mono (by omega)
    have hr2 : Room 2 _ := hr.mono (by omega)
    have hr5 : Room 5 _ := hr.mono (by omega)
    refine ⟨_, (pss_cons (ps_set (i := 5) sc_ire.nd rfl (Or.inr rfl) (pe_nget (room64 hr) (pv 2) (pe_tup (pa_cons (pv 3) (pa_cons (pv 4) pa_nil))) (fun _ _ => rfl)))
      (pss_cons (ps_if (pt_not (pt_truth (pv 4) (by intro _; rfl))) (pss_one (ps_ret (pe_cmpR (op_eqD (room64 hr)) (pv 5) (pv 3) (nomark _)))) pss_nil)
      (pss_cons (ps_setLc (i := 6) (own := [("name", 7)]) (g := (gName 7)) (tt := tYes) rfl sc_ire.nd rfl rfl (sw_true rfl rfl rfl (by decide +kernel)) (pi_list (pe_c GN hr1 T.g_last_names (pa_cons (pv 1) (pa_cons (pv 4) pa_nil)))) (blkOk_by (own := [("name", 7)]) (N := ["world", "policy", "table", "start", "names", "end", "reached", "name", "other"]) (sc := defScope s_is_right_end) (by decide +kernel)) (fun _ _ _ _ _ => (pg_name (i := 7) sc_ire.nd rfl (Or.inl rfl))) (fun _ _ _ _ _ => pts_nil) (fun _ _ _ _ _ => (pe_anyN fun q : CK => pe_mt (pe_mt (pv 0) T.o_World T.m_World_change GC hr2 (pa_cons (pv 7) pa_nil)) (T.ownC q) (T.methAC q) (GA q) hr5 (pa_cons (pe_ngetK P w (room64 hr) (pv 2) (pe_tup (pa_cons (pv 3) (pa_cons (pe_c GW hr1 T.g_without (pa_cons (pv 4) (pa_cons (pv 7) pa_nil))) pa_nil))) (fun _ _ => rfl)) pa_nil))))
      (pss_one (ps_ret (pe_callB (cr_all rfl) (by rfl) T.z_all (by decide +kernel) (pa_cons (pe_lc (own := [("other", 8)]) (g := (gName 8)) (tt := tYes) rfl sc_ire.nd (pi_list (pv 6)) (blkOk_by (own := [("other", 8)]) (N := ["world", "policy", "table", "start", "names", "end", "reached", "name", "other"]) (sc := defScope s_is_right_end) (by decide +kernel)) (fun _ _ _ _ _ => (pg_name (i := 8) sc_ire.nd rfl (Or.inl rfl))) (fun _ _ _ _ _ => pts_nil) (fun _ _ _ _ _ => (pe_cmpR (op_eqDK K (room64 hr)) (pv 8) (pv 5) (nomark _)))) pa_nil))))))), ?_⟩
    obtain ⟨m1, m2⟩ := mem_pairs.mp hq
    have l1 : 2 ≤ (names L).length := by unfold names; rw [List.length_map]; exact ok.chgs.lo
    have l2 : (names L).length ≤ 4 := by unfold names; rw [List.length_map]; exact ok.chgs.hi
    have sub := sets_sub l1 l2 m2
    have y4 : q.2.length ≤ 4 := Nat.le_trans sub.length_le l2
    obtain ⟨e, he⟩ := eo.all q hq
    obtain ⟨em, ek⟩ := find_key he
    refine ⟨_, rfl, _, rfl, _, rfl, (by show 2 ≤ sizeLine; decide), fun k hk => ?_⟩
    have s1 : Same H _ := same_upd (o := .tup [.ref st, .ref a]) hk
    have k1 : KeyAt (upd H k (.tup [.ref st, .ref a])) k q := ⟨st, a, upd_same, s1 _ _ hst, s1 _ _ ha⟩
    generalize upd H k (.tup [.ref st, .ref a]) = H1 at s1 k1
    refine ⟨d, xs, k, q, e, rfl, rfl, t.ext s1, k1, he, ?_⟩
    have t1 := t.ext s1
    have ve := t1.vals e em
    refine ⟨_, rfl, _, .inr (.inl ⟨_, SqT.of (s1 _ _ ha), rfl⟩), ?_⟩
    have rB : rightB L E' xs q = if q.2 = [] then decide (valN xs q = q.1) else (lastN E' q.2).all fun y => decide ((chgOf L y).app (valN xs (q.1, withoutN q.2 y)) = valN xs q) := rfl
    by_cases ne : q.2 = []
    · have tf : (!((q.2.map V.str)).isEmpty) = false := by rw [ne]; rfl
      rw [tf]
      refine iteT ⟨_, rfl, _, rfl, dT e.2.2.2, dT q.1, dp_T ve, dp_T (s1 _ _ hst), shp_T _, shp_T _, ?_⟩
      have := kk _ s1
      rw [rB, if_pos ne, val_of he] at this
      rw [eqv_T]
      exact this
    · have tf : (!((q.2.map V.str)).isEmpty) = true := by
        cases h : q.2 with
        | nil => exact absurd h ne
        | cons y ys => rfl
      rw [tf]
      refine iteF ?_
      refine ⟨_, rfl, _, rfl, dp, a, E', q.2, rfl, hdp.ext s1, SqT.of (s1 _ _ ha), y4, fun H2 l s2 hl => ⟨l, rfl, ⟨_, SqL.of hl⟩, fun D hD => ?_⟩⟩
      have s12 := s1.trans s2
      have ll : (lastN E' q.2).length ≤ 4 := Nat.le_trans (List.length_filter_le _ _) y4
      refine lc_it (walk_list (K := K) (a := l) (xs := (lastN E' q.2).map V.str)) (fun i H' => ∃ acc : List V, Same H2 H' ∧ H' D = some (.lst acc) ∧ acc.length = i ∧ ∀ (j : Nat) (v : V), acc[j]? = some v → ∃ r y, v = .ref r ∧ (lastN E' q.2)[j]? = some y ∧ H' r = some (.tup (((chgOf L y).app (valN xs (q.1, withoutN q.2 y))).map V.int))) ⟨[], same_upd hD, upd_same, rfl, fun j v z => by simp at z⟩ (fun i H' _ inv => ?_) (fun j x H4 H4' hi inv yy => ?_) (fun H4 inv => ?_)
      · obtain ⟨_, z, _⟩ := inv
        exact SqL.of (z _ _ hl)
      · obtain ⟨acc, s4, d4, al4, hE⟩ := inv
        obtain ⟨rfl, hx⟩ := yy
        obtain ⟨y, hy, rfl⟩ := strs_at' hx
        refine ⟨rfl, tyes (iteT ?_)⟩
        have yin : y ∈ names L := sub.subset (last_mem (List.mem_of_getElem? hy))
        obtain ⟨j', hj', rfl⟩ := mem_names yin
        have mem : L[j'] ∈ L := List.getElem_mem hj'
        have s14 := s12.trans s4
        have W4 := W.ext s14
        obtain ⟨⟨dx, l', m, hp, hl', hm'⟩, _, hL⟩ := id W4
        have hc := hL _ mem
        obtain ⟨dc, fs, ho, hna⟩ := hc.obj
        have ch := ok.chgs.chg _ mem
        have nch : ∀ {n : Nat} {l d : Addr}, (wFlds n l d).lookup ("change" : Str) = none := no_w' (by decide +kernel) (by decide +kernel) (by decide +kernel)
        refine ⟨L[j'].2.2.ck, _, rfl, p, dx, _, rfl, hp, nch, _, rfl, p, n, S, L, j', hj', rfl, W4, ok.chgs.nd, L[j'].2.1, dc, fs, rfl, ho, hna, ?_⟩
        refine ⟨_, rfl, _, rfl, _, rfl, _, rfl, a, L[j'].1, q.2, rfl, SqT.of (s14 _ _ ha), y4, fun H5 r5 s5 e5 => ⟨(by show 2 ≤ sizeLine; decide), fun k2 hk2 => ?_⟩⟩
        have s6 : Same H5 _ := same_upd (o := .tup [.ref st, .ref r5]) hk2
        have s16 := (s14.trans s5).trans s6
        have k6 : KeyAt (upd H5 k2 (.tup [.ref st, .ref r5])) k2 (q.1, withoutN q.2 L[j'].1) := ⟨st, r5, upd_same, s16 _ _ hst, s6 _ _ e5⟩
        have hq2 : (q.1, withoutN q.2 L[j'].1) ∈ pairsOf (S.map (·.2)) (names L) := mem_pairs.mpr ⟨m1, without_sets l1 l2 m2 _⟩
        obtain ⟨e2, he2⟩ := eo.all _ hq2
        obtain ⟨em2, ek2⟩ := find_key he2
        obtain ⟨v1, v2⟩ := eo.val e2 em2
        have t6 := t.ext s16
        have hc6 := (hc.ext s5).ext s6
        generalize upd H5 k2 (.tup [.ref st, .ref r5]) = H6 at s6 s16 k6 t6 hc6
        refine ⟨d, xs, k2, _, e2, rfl, rfl, t6, k6, he2, L[j'].2.1, e2.2.2.1, L[j'].2.2, e2.2.2.2, rfl, rfl, hc6, ch.1, t6.vals e2 em2, v1, (fun z hz => by rw [v2]; exact ch.2 z hz), fun r7 H7 s7 e7 => ?_⟩
        have s47 := (s5.trans s6).trans s7
        have d7 := s47 _ _ d4
        have tn : ∀ b ys, H7 b = some (.tup ys) → b ≠ D := fun b ys z q => by rw [q, d7] at z; cases z
        refine ⟨acc, d7, small1000 (by rw [List.length_map] at hi; omega), acc ++ [.ref r7], fun b u z => ?_, upd_same, by rw [List.length_append, al4] <;> rfl, fun j2 v hv => ?_⟩
        · rw [upd_ne (ne_of_none z hD)]
          exact s47 _ _ (s4 _ _ z)
        · by_cases h2 : j2 < acc.length
          · rw [List.getElem?_append_left h2] at hv
            obtain ⟨r, y, e1, e2, e3⟩ := hE j2 v hv
            refine ⟨r, y, e1, e2, ?_⟩
            rw [upd_ne (tn _ _ (s47 _ _ e3))]
            exact s47 _ _ e3
          · have h3 : j2 = acc.length := by
              have := (List.getElem?_eq_some_iff.mp hv).1
              rw [List.length_append, List.length_singleton] at this
              omega
            rw [h3, List.getElem?_append_right (Nat.le_refl _), Nat.sub_self] at hv
            obtain rfl := Option.some.inj hv
            refine ⟨r7, L[j'].1, rfl, by rw [h3, al4]; exact hy, ?_⟩
            rw [upd_ne (tn _ _ e7), val_of he2, chgOf_at ok.chgs.nd hj']
            exact e7
      · obtain ⟨acc, s4, e4, hlen, hE⟩ := inv
        have s14 := s12.trans s4
        have la : acc.length = (lastN E' q.2).length := by rw [hlen, List.length_map]
        refine ⟨_, rfl, D, rfl, ⟨_, SqL.of e4⟩, fun D2 hD2 => ?_⟩
        refine lcL_map (K := K) (a := D) (xs := acc) ((lastN E' q.2).map fun y => V.bl (decide ((chgOf L y).app (valN xs (q.1, withoutN q.2 y)) = valN xs q))) hD2 (SqL.of e4) (by omega) (by rw [List.length_map, la]) (fun j x v H5 Qe hx hv s5 kq => ?_) fun H5 s5 e5 => ?_
        · obtain ⟨r, y, rfl, hy, e6⟩ := hE j x hx
          rw [List.getElem?_map, hy] at hv
          obtain rfl := Option.some.inj hv
          refine ⟨_, rfl, _, rfl, dT _, dT e.2.2.2, dp_T (s5 _ _ e6), dp_T (s5 _ _ (s4 _ _ (s2 _ _ ve))), shp_T _, shp_T _, ?_⟩
          rw [eqv_T, ← val_of he]
          exact kq _ (Same.refl _)
        · refine ⟨D2, (lastN E' q.2).map fun y => decide ((chgOf L y).app (valN xs (q.1, withoutN q.2 y)) = valN xs q), rfl, ?_, ?_⟩
          · rw [List.map_map]
            exact SqL.of e5
          have := kk _ (s14.trans s5)
          rw [rB, if_neg ne] at this
          have ea : ((lastN E' q.2).map fun y => decide ((chgOf L y).app (valN xs (q.1, withoutN q.2 y)) = valN xs q)).all id = (lastN E' q.2).all fun y => decide ((chgOf L y).app (valN xs (q.1, withoutN q.2 y)) = valN xs q) := by rw [List.all_map] <;> rfl
          rw [ea]
          exact this
def spTable (P : Program) (w : PySem.World) (K : PySem.W.Frag) : Sp := fun vs H Q _ => ∃ (p dp d : Addr) (n : Nat) (S : Sts) (L : Ncs) (E : Ents) (xs : List Ent), vs = [.ref p, .ref dp, .ref d] ∧ WorldAt K H p n S L ∧ WOk n S L ∧ H dp = some (.dT (pol E)) ∧ PolOk E (names L) ∧ TabAt P w H d xs ∧ EntsOk n S L xs ∧
  ∀ H', Same H H' → Q (.bl ((pairsOf (S.map (·.2)) (names L)).all (rightB L E xs))) H'
theorem sc_itab : FnScope ["world", "policy", "table", "start", "names"] ["world", "policy", "table"] (defScope s_is_table) := ⟨rfl, rfl, rfl, by decide +kernel, rfl, by decide +kernel, by decide +kernel⟩
theorem ok_table (T : Txt K mg) : Ok P w K mg base (a_is_table K) ["world", "policy", "table"] 7 (spTable P w K) := by
  have GW : Ok P w K mg base (a_check_world K) _ 1 (spCWorld K) := ok_cworld T
  have GP : Ok P w K mg base (a_check_policy K) _ 3 (spCPol K) := ok_cpol T
  have GT : Ok P w K mg base (a_check_table K) _ 6 (spCTab P w K) := ok_ctab T
  have GS : Ok P w K mg base (a_stores_and_sets K) _ 5 (spStSets K) := ok_stsets T
  have GR : Ok P w K mg base (a_is_right_end K) _ 6 (spRight P w K) := ok_right T
  refine ok_of T.f_is_table sc_itab (fun _ _ _ _ _ _ us hl => match us, hl with | [_, _, _], _ => rfl) (fun vs H Q E h => ?_) (fun cdv A outer s H vs Q E hr h => ?_)
  · obtain ⟨p, dp, d, n, S, L, E', xs, rfl, _⟩ := h
    rfl
  · obtain ⟨p, dp, d, n, S, L, E', xs, rfl, W, ok, hdp, po, t, eo, kk⟩ := h
    have hr1 : Room 1 _ := hr.mono (by omega)
    have hr3 : Room 3 _ := hr.mono (by omega)
    have hr5 : Room 5 _ := hr.mono (by omega)
    have hr6 : Room 6 _ := hr.mono (by omega)
    refine ⟨_, (pss_cons (ps_expr (pe_c GW hr1 T.g_check_world (pa_cons (pv 0) pa_nil)))
      (pss_cons (ps_expr (pe_c GP hr3 T.g_check_policy (pa_cons (pv 0) (pa_cons (pv 1) pa_nil))))
      (pss_cons (ps_expr (pe_c GT hr6 T.g_check_table (pa_cons (pv 0) (pa_cons (pv 2) pa_nil))))
      (pss_cons (ps_for PassesOwn.never rfl (pi_list (pe_c GS hr5 T.g_stores_and_sets (pa_cons (pv 0) pa_nil))) (pg_tup rfl (pgs_cons (pg_name (i := 3) sc_itab.nd rfl (Or.inl rfl)) (pgs_cons (pg_name (i := 4) sc_itab.nd rfl (Or.inl rfl)) pgs_nil))) (pss_one (ps_if (pt_not (pt_val (pe_c GR hr6 T.g_is_right_end (pa_cons (pv 0) (pa_cons (pv 1) (pa_cons (pv 2) (pa_cons (pv 3) (pa_cons (pv 4) pa_nil)))))))) (pss_one (ps_ret pe_bl)) pss_nil)))
      (pss_one (ps_ret pe_bl)))))), ?_⟩
    refine ⟨_, rfl, p, n, S, L, rfl, W, ?_⟩
    refine ⟨_, rfl, _, rfl, p, dp, n, S, L, E', rfl, W, ok.chgs.nd, ok.chgs.hi, hdp, po, fun H1 s1 => ?_⟩
    refine ⟨_, rfl, _, rfl, p, d, n, S, L, xs, rfl, W.ext s1, ok, t.ext s1, eo, fun H2 s2 => ?_⟩
    have s12 := s1.trans s2
    refine ⟨_, rfl, p, n, S, L, rfl, W.ext s12, ok, fun Z l H3 s3 _ e3 a3 c3 => ⟨l, rfl, ⟨_, SqL.of e3⟩, ?_⟩⟩
    have s13 := s12.trans s3
    have lp : (qrefs Z).length = Z.length := List.length_map ..
    have lc : (pcont Z).length = Z.length := List.length_map ..
    refine for_it (walk_list (K := K) (a := l) (xs := qrefs Z)) (fun i σ H' => ∃ f g, σ = [some (.ref p), some (.ref dp), some (.ref d), f, g] ∧ Same H3 H' ∧ ∀ q ∈ (pcont Z).take i, rightB L E' xs q = true) ⟨_, _, rfl, Same.refl _, fun y hy => (by rw [List.take_zero] at hy; cases hy)⟩ (fun i σ H' _ ⟨_, _, _, s, _⟩ => SqL.of (s _ _ e3)) (fun i x σ H4 H5 hi inv yy => ?_) (fun σ H4 inv => ?_)
    · obtain ⟨f, g, rfl, s4, al⟩ := inv
      obtain ⟨rfl, hx⟩ := yy
      have hiZ : i < Z.length := by rw [← lp]; exact hi
      unfold qrefs at hx
      rw [List.getElem?_map, List.getElem?_eq_getElem hiZ] at hx
      obtain rfl := (Option.some.inj hx).symm
      obtain ⟨b1, b2, b3⟩ := (a3.ext s4) Z[i] (List.getElem_mem hiZ)
      have hqi : (pcont Z)[i]? = some (Z[i].2.1.2, Z[i].2.2.2) := by
        unfold pcont
        rw [List.getElem?_map, List.getElem?_eq_getElem hiZ] <;> rfl
      have hin : (Z[i].2.1.2, Z[i].2.2.2) ∈ pairsOf (S.map (·.2)) (names L) := by
        rw [← c3]
        exact List.mem_of_getElem? hqi
      have s14 := s13.trans s4
      refine ⟨Z[i].1, _, rfl, SqT.of b1, rfl, _, _, rfl, _, _, rfl, rfl, ?_⟩
      refine ⟨_, rfl, _, rfl, _, rfl, _, rfl, _, rfl, p, dp, d, Z[i].2.1.1, Z[i].2.2.1, n, S, L, E', xs, (Z[i].2.1.2, Z[i].2.2.2), rfl, W.ext s14, ok, .inl (s14 _ _ hdp), t.ext s14, eo, b2, b3, hin, fun H5 s5 => ⟨_, rfl, ?_⟩⟩
      cases hb : rightB L E' xs (Z[i].2.1.2, Z[i].2.2.2) with
      | true =>
        refine iteF ⟨_, _, rfl, s4.trans s5, fun q hq => ?_⟩
        rw [List.take_add_one] at hq
        rcases List.mem_append.mp hq with hq | hq2
        · exact al q hq
        · rw [hqi] at hq2
          obtain rfl := List.mem_singleton.mp hq2
          exact hb
      | false =>
        refine iteT ?_
        have := kk _ (s14.trans s5)
        have fa : (pairsOf (S.map (·.2)) (names L)).all (rightB L E' xs) = false := List.all_eq_false.mpr ⟨_, hin, by rw [hb]; decide⟩
        rw [fa] at this
        exact this
    · obtain ⟨f, g, rfl, s4, al⟩ := inv
      rw [lp, ← lc, List.take_length, c3] at al
      have := kk _ (s13.trans s4)
      rw [List.all_eq_true.mpr al] at this
      exact this
end
end OP
namespace OP
open PySem PySem.Spec PyProof.Rows GenW L2
/-- the end of a set from a store, by the first order that is allowed -/
def endM (L : Ncs) (E : Ents) (q : TK) : List Int := appAll L ((allowN E 4 q.2).headD []) q.1
def tc (xs : List Ent) : List (TK × List Int) := xs.map fun x => (x.1, x.2.2.2)
theorem tc_keys (xs : List Ent) : (tc xs).map (·.1) = xs.map (·.1) := by unfold tc; rw [List.map_map]; rfl
theorem putN_new {xs : List Ent} {q : TK} {k a : Addr} {zs : List Int} (h : q ∉ xs.map (·.1)) : putN xs q k a zs = xs ++ [(q, k, a, zs)] := by
  unfold putN
  rw [if_neg (by rw [findN_none.mpr h]; decide)]
theorem take_fresh {α : Type} {l : List α} {i : Nat} {x : α} (nd : l.Nodup) (h : l[i]? = some x) : x ∉ l.take i := fun z => by
  obtain ⟨hi, rfl⟩ := List.getElem?_eq_some_iff.mp h
  obtain ⟨j, hj, e⟩ := List.mem_iff_getElem.mp z
  rw [List.length_take] at hj
  rw [List.getElem_take] at e
  have hne : ∀ {a b : Nat} (ha : a < l.length) (hb : b < l.length), a < b → l[a] ≠ l[b] := fun ha hb lt => (List.pairwise_iff_getElem.mp nd) _ _ ha hb lt
  exact hne (by omega) hi (by omega) e
theorem pairs_len {A : List (List Int)} {ns : List Str} (h2 : 2 ≤ ns.length) (h4 : ns.length ≤ 4) (hA : A.length ≤ 8) : (pairsOf A ns).length ≤ 128 := by
  have ls : (setsOf ns).length ≤ 16 := by
    unfold setsOf
    rw [List.length_map]
    obtain e | e | e : ns.length = 2 ∨ ns.length = 3 ∨ ns.length = 4 := by omega
    · rw [e]; decide +kernel
    · rw [e]; decide +kernel
    · rw [e]; decide +kernel
  have e : (pairsOf A ns).length = A.length * (setsOf ns).length := by
    unfold pairsOf
    induction A with
    | nil => simp
    | cons a A ih =>
      rw [List.flatMap_cons, List.length_append, List.length_map, ih (by rw [List.length_cons] at hA; omega), List.length_cons, Nat.add_mul]
      omega
  rw [e]
  exact Nat.le_trans (Nat.mul_le_mul hA ls) (by decide)
section
variable {P : Program} {w : PySem.World} {K : PySem.W.Frag} {mg : Str → Option Value} {base : Heap}
def spCEno (K : PySem.W.Frag) : Sp := fun vs H Q _ => ∃ (p d : Addr) (n : Nat) (S : Sts) (L : Ncs) (E : Ents), vs = [.ref p, .ref d] ∧ WorldAt K H p n S L ∧ WOk n S L ∧ PolAt H d E ∧ AllowOk L E ∧ splitM L E (pairsOf (S.map (·.2)) (names L)) = none ∧ ∀ H', Same H H' → Q .non H'
theorem sc_cen : FnScope ["world", "policy"] ["world", "policy"] (defScope s_check_enough) := ⟨rfl, rfl, rfl, by decide +kernel, rfl, by decide +kernel, by decide +kernel⟩
theorem ok_cen (T : Txt K mg) : Ok P w K mg base (a_check_enough K) ["world", "policy"] 9 (spCEno K) := by
  have GF : Ok P w K mg base (a_find_split K) _ 8 (spFind K) := ok_find T
  refine ok_of T.f_check_enough sc_cen (fun _ _ _ _ _ _ us hl => match us, hl with | [_, _], _ => rfl) (fun vs H Q E h => ?_) (fun cdv A outer s H vs Q E hr h => ?_)
  · obtain ⟨p, d, n, S, L, E', rfl, _⟩ := h
    rfl
  · obtain ⟨p, d, n, S, L, E', rfl, W, ok, hd, al, no, kk⟩ := h
    refine ⟨_, (pss_one (ps_if (pt_cmpR op_notN (pe_c GF hr T.g_find_split (pa_cons (pv 0) (pa_cons (pv 1) pa_nil))) pe_non (nomark _)) (pss_one ps_never) pss_nil)), ?_⟩
    refine ⟨_, rfl, _, rfl, p, d, n, S, L, E', rfl, W, ok, hd, al, fun H' s2 e => ⟨rfl, _, rfl, iteF (kk _ s2)⟩, fun H' t st z0 z s2 e a b c => ?_⟩
    rw [no] at e
    cases e
def spEnds (P : Program) (w : PySem.World) (K : PySem.W.Frag) : Sp := fun vs H Q _ => ∃ (p d : Addr) (n : Nat) (S : Sts) (L : Ncs) (E : Ents), vs = [.ref p, .ref d] ∧ WorldAt K H p n S L ∧ WOk n S L ∧ H d = some (.dT (pol E)) ∧ PolOk E (names L) ∧ AllowOk L E ∧ splitM L E (pairsOf (S.map (·.2)) (names L)) = none ∧ (pairsOf (S.map (·.2)) (names L)).Nodup ∧
  ∀ H' r xs, Same H H' → H r = none → TabAt P w H' r xs → tc xs = (pairsOf (S.map (·.2)) (names L)).map (fun q => (q, endM L E q)) → Q (.ref r) H'
theorem sc_ends : FnScope ["world", "policy", "found", "start", "names"] ["world", "policy"] (defScope s_ends) := ⟨rfl, rfl, rfl, by decide +kernel, rfl, by decide +kernel, by decide +kernel⟩
theorem ok_ends (T : Txt K mg) : Ok P w K mg base (a_ends K) ["world", "policy"] 10 (spEnds P w K) := by
  have GW : Ok P w K mg base (a_check_world K) _ 1 (spCWorld K) := ok_cworld T
  have GP : Ok P w K mg base (a_check_policy K) _ 3 (spCPol K) := ok_cpol T
  have GC : Ok P w K mg base (a_check_enough K) _ 9 (spCEno K) := ok_cen T
  have GS : Ok P w K mg base (a_stores_and_sets K) _ 5 (spStSets K) := ok_stsets T
  have GA : Ok P w K mg base (a_allowed_orders K) _ 6 (spAllow K 4) := ok_allow T
  have GE : Ok P w K mg base (a_World_end K) _ 6 (spEnd K) := ok_World_end T
  refine ok_of T.f_ends sc_ends (fun _ _ _ _ _ _ us hl => match us, hl with | [_, _], _ => rfl) (fun vs H Q E h => ?_) (fun cdv A outer s H vs Q E hr h => ?_)
  · obtain ⟨p, d, n, S, L, E', rfl, _⟩ := h
    rfl
  · obtain ⟨p, dp, n, S, L, E', rfl, W, ok, hdp, po, al, no, nd, kk⟩ := h
    have hr1 : Room 1 _ := hr.mono (by omega)
    have hr3 : Room 3 _ := hr.mono (by omega)
    have hr5 : Room 5 _ := hr.mono (by omega)
    have hr6 : Room 6 _ := hr.mono (by omega)
    have hr9 : Room 9 _ := hr
    refine ⟨_, (pss_cons (ps_expr (pe_c GW hr1 T.g_check_world (pa_cons (pv 0) pa_nil)))
      (pss_cons (ps_expr (pe_c GP hr3 T.g_check_policy (pa_cons (pv 0) (pa_cons (pv 1) pa_nil))))
      (pss_cons (ps_expr (pe_c GC hr9 T.g_check_enough (pa_cons (pv 0) (pa_cons (pv 1) pa_nil))))
      (pss_cons (ps_set (i := 2) sc_ends.nd rfl (Or.inl rfl) pe_nnew)
      (pss_cons (ps_for PassesOwn.never rfl (pi_list (pe_c GS hr5 T.g_stores_and_sets (pa_cons (pv 0) pa_nil))) (pg_tup rfl (pgs_cons (pg_name (i := 3) sc_ends.nd rfl (Or.inl rfl)) (pgs_cons (pg_name (i := 4) sc_ends.nd rfl (Or.inl rfl)) pgs_nil))) (pss_one (ps_nput (room64 hr) (pv 2) (pe_tup (pa_cons (pv 3) (pa_cons (pv 4) pa_nil))) (pe_mt (pv 0) T.o_World T.m_World_end GE hr6 (pa_cons (pv 3) (pa_cons (pe_ix ix_list (pe_c GA hr6 T.g_allowed_orders (pa_cons (pv 1) (pa_cons (pv 4) pa_nil))) pe_int (fun _ _ => rfl)) pa_nil))) rfl)))
      (pss_one (ps_ret (pv 2)))))))), ?_⟩
    refine ⟨_, rfl, p, n, S, L, rfl, W, ?_⟩
    refine ⟨_, rfl, _, rfl, p, dp, n, S, L, E', rfl, W, ok.chgs.nd, ok.chgs.hi, hdp, po, fun H1 s1 => ?_⟩
    refine ⟨_, rfl, _, rfl, p, dp, n, S, L, E', rfl, W.ext s1, ok, .inl (s1 _ _ hdp), al, no, fun H2 s2 => ?_⟩
    have s12 := s1.trans s2
    intro f hf fsys
    have s3 : Same H2 _ := same_upd (o := TabO P w f []) hf
    have tf : TabAt P w (upd H2 f (TabO P w f [])) f [] := ⟨upd_same, fsys, fun x hx => (by cases hx), fun x hx => (by cases hx), List.nodup_nil, Nat.zero_le _⟩
    have s13 := s12.trans s3
    have fN : H f = none := by
      cases q : H f with
      | none => rfl
      | some u => rw [s12 _ _ q] at hf; cases hf
    refine ⟨_, rfl, p, n, S, L, rfl, W.ext s13, ok, fun Z l H4 s4 _ e4 a4 c4 => ⟨l, rfl, ⟨_, SqL.of e4⟩, ?_⟩⟩
    have s14 := s13.trans s4
    have lp : (qrefs Z).length = Z.length := List.length_map ..
    have lc : (pcont Z).length = Z.length := List.length_map ..
    have l1 : 2 ≤ (names L).length := by unfold names; rw [List.length_map]; exact ok.chgs.lo
    have l2 : (names L).length ≤ 4 := by unfold names; rw [List.length_map]; exact ok.chgs.hi
    have few : Z.length ≤ 128 := by
      rw [← lc, c4]
      exact pairs_len l1 l2 (by rw [List.length_map]; exact ok.sts.hi)
    refine for_it (walk_list (K := K) (a := l) (xs := qrefs Z)) (fun i σ H' => ∃ g1 g2 xs, σ = [some (.ref p), some (.ref dp), some (.ref f), g1, g2] ∧ (∀ b u, b ≠ f → H4 b = some u → H' b = some u) ∧ TabAt P w H' f xs ∧ tc xs = ((pcont Z).take i).map (fun q => (q, endM L E' q))) ⟨_, _, [], rfl, fun b u _ h => h, tf.ext s4, by rw [List.take_zero] <;> rfl⟩ (fun i σ H' _ inv => ?_) (fun i x σ H5 H5' hi inv yy => ?_) (fun σ H5 inv => ?_)
    · obtain ⟨_, _, _, _, sx, _⟩ := inv
      exact SqL.of (sx _ _ (fun z => by rw [z, s4 _ _ tf.tab] at e4; cases e4) e4)
    · obtain ⟨g1, g2, xs, rfl, s5, t5, c5⟩ := inv
      obtain ⟨rfl, hx⟩ := yy
      have tf4 := s4 _ _ tf.tab
      have off : ∀ {b u}, H4 b = some u → (∀ φ, u ≠ .ext φ) → H5' b = some u := fun {b u} h ne => s5 b u (fun z => by rw [z, tf4] at h; exact ne _ (Option.some.inj h).symm) h
      have hiZ : i < Z.length := by rw [← lp]; exact hi
      unfold qrefs at hx
      rw [List.getElem?_map, List.getElem?_eq_getElem hiZ] at hx
      obtain rfl := (Option.some.inj hx).symm
      obtain ⟨b1, b2, b3⟩ := a4 Z[i] (List.getElem_mem hiZ)
      have b1 := off b1 (fun φ z => by cases z)
      have b2 := off b2 (fun φ z => by cases z)
      have b3 := off b3 (fun φ z => by cases z)
      have hqi : (pcont Z)[i]? = some (Z[i].2.1.2, Z[i].2.2.2) := by
        unfold pcont
        rw [List.getElem?_map, List.getElem?_eq_getElem hiZ] <;> rfl
      have hin : (Z[i].2.1.2, Z[i].2.2.2) ∈ pairsOf (S.map (·.2)) (names L) := by
        rw [← c4]
        exact List.mem_of_getElem? hqi
      obtain ⟨m1, m2⟩ := mem_pairs.mp hin
      obtain ⟨so, hso, eso⟩ := List.mem_map.mp m1
      obtain ⟨sok, sln⟩ := ok.sts.each so hso
      rw [eso] at sok sln
      have W5 : WorldAt K H5' p n S L := by
        have W4 := W.ext s14
        refine W4.offE tf4 s5
      have d5 : H5' dp = some (.dT (pol E')) := off (s14 _ _ hdp) (fun φ z => by cases z)
      obtain ⟨⟨dx, ls, ld, hp, _, _⟩, _, _⟩ := id W5
      have nend : ∀ {n : Nat} {l d : Addr}, (wFlds n l d).lookup ("end" : Str) = none := no_w' (by decide +kernel) (by decide +kernel) (by decide +kernel)
      refine ⟨Z[i].1, _, rfl, SqT.of b1, rfl, _, _, rfl, _, _, rfl, rfl, ?_⟩
      refine ⟨_, rfl, p, dx, _, rfl, hp, nend, _, rfl, _, rfl, _, rfl, dp, Z[i].2.2.1, E', Z[i].2.2.2, rfl, .inl d5, SqT.of b3, al.few _ m2, fun H6 r6 O s6 h6 n6 c6 => ?_⟩
      cases O with
      | nil => exact absurd c6.symm (al.some _ m2)
      | cons z0 O =>
        have c7 : allowN E' 4 Z[i].2.2.2 = z0.2 :: O.map (·.2) := c6.symm
        have o0 := al.ord _ m2 z0.2 (by rw [c7]; exact List.mem_cons_self)
        have at0 : atI (nrefs (z0 :: O)) 0 = some (V.ref z0.1) := by
          unfold atI ixN
          rw [if_pos (by decide), if_pos (by unfold nrefs; rw [List.length_map, List.length_cons]; omega)]
          rfl
        refine ⟨r6, _, 0, _, rfl, rfl, SqL.of h6, at0, p, Z[i].2.1.1, z0.1, Z[i].2.1.2, z0.2, n, S, L, rfl, W5.ext s6, ok, s6 _ _ b2, sok, sln, n6 z0 List.mem_cons_self, o0.nd, o0.few, o0.mem, fun r7 H7 s7 e7 => ?_⟩
        have s57 := s6.trans s7
        refine ⟨_, rfl, _, rfl, _, rfl, (by show 2 ≤ sizeLine; decide), fun k hk => ?_⟩
        have s8 : Same H7 _ := same_upd (o := .tup [.ref Z[i].2.1.1, .ref Z[i].2.2.1]) hk
        have s58 := s57.trans s8
        have k8 : KeyAt (upd H7 k (.tup [.ref Z[i].2.1.1, .ref Z[i].2.2.1])) k (Z[i].2.1.2, Z[i].2.2.2) := ⟨_, _, upd_same, s58 _ _ b2, s58 _ _ b3⟩
        have t8 := t5.ext s58
        have e8 := s8 _ _ e7
        have kf : k ≠ f := fun z => by rw [z, s57 _ _ t5.tab] at hk; cases hk
        have lx : xs.length = i := by
          have := congrArg List.length c5
          unfold tc at this
          rw [List.length_map, List.length_map, List.length_take, lc] at this
          omega
        have fresh : (Z[i].2.1.2, Z[i].2.2.2) ∉ xs.map (·.1) := by
          rw [← tc_keys, c5, List.map_map]
          have e : ((fun (x : TK × List Int) => x.1) ∘ fun q => (q, endM L E' q)) = id := rfl
          rw [e, List.map_id]
          exact take_fresh (by rw [c4]; exact nd) hqi
        refine ⟨f, xs, k, (Z[i].2.1.2, Z[i].2.2.2), r7, _, rfl, rfl, rfl, t8, k8, e8, by omega, ?_⟩
        have tp := t8.put k8 e8 (by omega)
        refine ⟨_, _, _, rfl, fun b u hb h => ?_, tp, ?_⟩
        · rw [upd_ne hb]
          exact s58 _ _ (s5 b u hb h)
        · rw [putN_new fresh]
          unfold tc at c5 ⊢
          rw [List.map_append, c5, List.take_add_one, hqi, Option.toList_some, List.map_append]
          have ee : endM L E' (Z[i].2.1.2, Z[i].2.2.2) = appAll L z0.2 Z[i].2.1.2 := by
            unfold endM
            rw [c7] <;> rfl
          show _ = _ ++ [((Z[i].2.1.2, Z[i].2.2.2), endM L E' (Z[i].2.1.2, Z[i].2.2.2))]
          rw [ee] <;> rfl
    · obtain ⟨g1, g2, xs, rfl, s5, t5, c5⟩ := inv
      rw [lp, ← lc, List.take_length, c4] at c5
      refine ⟨_, rfl, kk _ f xs (fun b u h => ?_) fN t5 c5⟩
      exact s5 b u (fun z => by rw [z, fN] at h; cases h) (s14 _ _ h)
end
end OP
namespace OP
open PySem PySem.Spec PyProof.Rows L2
theorem vals_each : ∀ {xs : List V} {us : List Value}, Vals xs us → PySem.W.EachIs (fun (u : Value) (x : V) => RelV x u) us xs
  | _, _, .nil => .nil
  | _, _, .cons r t => .cons r (vals_each t)
theorem each_vals : ∀ {us : List Value} {xs : List V}, PySem.W.EachIs (fun (u : Value) (x : V) => RelV x u) us xs → Vals xs us
  | _, _, .nil => .nil
  | _, _, .cons r t => .cons r (each_vals t)
/-- each key that is out is the key of its item -/
def KeysAt (K : PySem.W.Frag) (keyOf : V → PyData) (H : Hp) (ys : List V) (xs : List V) : Prop := PySem.W.EachIs (fun y x => Dp K H y (keyOf x)) ys xs
mutual
theorem Dp_mono {K : PySem.W.Frag} {H H' : Hp} (e : Same H H') : ∀ (d : PyData) (v : V), Dp K H v d → Dp K H' v d
  | .none, _, h => by cases h; exact .non
  | .bool b, _, h => by cases h; exact .bl b
  | .int i, _, h => by cases h; exact .int i
  | .str x, _, h => by cases h; exact .str x
  | .list ds, _, h => by
    cases h with
    | lst a b => exact .lst (e.seq a) (DpAll_mono e ds _ b)
  | .tuple ds, _, h => by
    cases h with
    | tup a b => exact .tup (SqT.ext a e) (DpAll_mono e ds _ b)
  | .dict _, _, h => by cases h
theorem DpAll_mono {K : PySem.W.Frag} {H H' : Hp} (e : Same H H') : ∀ (ds : List PyData) (vs : List V), DpAll K H vs ds → DpAll K H' vs ds
  | [], _, h => by cases h; exact .nil
  | d :: ds, _, h => by
    cases h with
    | cons a b => exact .cons (Dp_mono e d _ a) (DpAll_mono e ds _ b)
end
section
variable {X : Cx} {pins : List (Addr × Obj)} {σ : L2.St} {H : Hp} {s : Shared}
/-- the heap without the object at k -/
theorem freed_none (h : Heap) (k : Addr) : (h.update k fun o => { o with data := .freed }).get? k = none := by
  unfold Heap.get? Heap.update
  cases e : h.objs[k]? with
  | none =>
    have q : (h.objs.modify k fun o => { o with data := .freed })[k]? = none := by simp [Array.getElem?_modify, e]
    simp only [q]
  | some o =>
    have q : (h.objs.modify k fun o => { o with data := .freed })[k]? = some { o with data := .freed } := by simp [Array.getElem?_modify, e]
    simp only [q]
/-- an object that only the call knows (kS, pinned) is written; what it held is told anew -/
theorem repin {kS : Addr} {o o' : Obj} {h2 : Heap} {t2 : Nat} (I : Inv X ((kS, o) :: pins) σ H s) (hk : ∀ b u, b ≠ kS → s.heap.get? b = some u → h2.get? b = some u) (ho : h2.get? kS = some o') (hd : ∀ v, o'.data ≠ .cell v)
    (hy : X.s_0.heap.objs.size ≤ kS) (hc : ∀ x c, X.env.cells.lookup x = some c → c ≠ kS) (hp : ∀ p ∈ X.pn ++ pins, p.1 ≠ kS) : Inv X ((kS, o') :: pins) σ H { s with heap := h2, toks := t2 } := by
  obtain ⟨_, n0, nl, nf, _⟩ := I.pin (kS, o) (List.mem_append_right _ List.mem_cons_self)
  have J : Inv X pins σ H { s with heap := h2, toks := t2 } := (ClX.unpin I).turned hk n0 nl (.inr hy) hc hp
  refine J.pins_of fun p hp' => ?_
  rcases List.mem_cons.mp hp' with e | e
  · rw [e]
    exact ⟨ho, n0, nl, nf, hd⟩
  · exact J.pin p (List.mem_append_right _ e)
/-- sorted(xs, key=f): f's call gives each item its key, and leaves all that stands -/
theorem sorted_by {l f : Addr} {fo : Obj} {xs : List V} {Q : VK} {E : Value → Shared → Prop} (keyOf : V → PyData) (I : Inv X pins σ H s) (hx : SqL X.K H l xs) (hfo : (f, fo) ∈ pins) (hal : PySem.W.AllAlike (xs.map keyOf)) (hsk : PySem.W.Sortable (xs.map keyOf))
    (hu : ∀ d, d ∈ xs.map keyOf → X.A.in1.in1.units + d.depth < cLine)
    (turn : ∀ (i : Nat) (x : V) (u : Value) (pins' : List (Addr × Obj)) (H' : Hp) (s' : Shared), xs[i]? = some x → Same H H' → Inv X pins' σ H' s' → (f, fo) ∈ pins' → RelV x u →
      wpAny (model X.prog X.w) X.A.in1.in1 (call (.ref f) [u]) (EP X pins' σ fun y H2 => Same H' H2 ∧ Dp X.K H2 y (keyOf x)) (fun _ _ => False) s')
    (h : ∀ a H', H' a = none → Same H H' → Q (.ref a) (upd H' a (.lst (xs.mergeSort (PySem.W.dataLe false keyOf))))) :
    wpAny (model X.prog X.w) X.A (call (.builtin "sorted") [.ref l] [(Str.ofString "key", .ref f)]) (EP X pins σ Q) E s := by
  obtain ⟨its, rv, hl, hz⟩ := I.list hx
  have hzi : its.length ≤ sizeLine := by rw [← rv.length]; exact hz
  refine PySem.W.sorted_of_sort hl.isList hzi (ksk_s1 _ _) (fun a => ksk_l1 _ _) fun E' => ?_
  rw [ksk_t1]
  have old : ∀ b o, s.heap.get? b = some o → (PySem.W.sortingHeap (PySem.W.copyHeap s.heap its) (s.heap.objs.size + 1) its).get? b = some o := fun b o e => PySem.W.sorting_copy_old e
  have hcp := PySem.W.copyHeap_at s.heap its
  unfold ksk_tree
  refine wpAny_bind (listItems_at hcp rfl ?_)
  refine wpAny_bind (listUpdate_at hcp rfl ?_ (by rw [List.size_toArray]; exact hzi) (Nat.zero_le _))
  obtain ⟨e1, ho1⟩ : ∃ e1, ((PySem.W.copyHeap s.heap its).update (s.heap.objs.size + 1) (Obj.mapSeq fun _ => (#[] : Array Value))).get? (s.heap.objs.size + 1) = some (seqObj "list" #[] e1) := ⟨_, get?_update_seq hcp fun _ => #[]⟩
  refine wpAny_bind (seqEpoch_at ho1 rfl ?_)
  refine wpAny_bind (wpAny_newTuple ?_ (by show its.length ≤ _; exact hzi))
  refine wpAny_bind (wpAny_newList ?_ (Nat.zero_le _))
  refine wpAny_holding ?_
  generalize hA : s.heap.objs.size + 1 = a at *
  have hszc : (PySem.W.copyHeap s.heap its).objs.size = s.heap.objs.size + 2 := by
    unfold PySem.W.copyHeap
    rw [size_push', Heap.size_update, size_push']
  generalize hK : (((PySem.W.copyHeap s.heap its).update a (Obj.mapSeq fun _ => (#[] : Array Value))).push (seqObj "tuple" its.toArray 0)).objs.size = kS
  have hKv : kS = s.heap.objs.size + 3 := by rw [← hK, size_push', Heap.size_update, hszc]
  have hka : kS ≠ a := by omega
  show wpAny _ _ _ _ _ { s with heap := PySem.W.sortingHeap (PySem.W.copyHeap s.heap its) a its }
  have na0 : (PySem.W.sortingHeap (PySem.W.copyHeap s.heap its) a its).get? a = some (seqObj "list" #[] e1) := Heap.get?_push_of_some _ (Heap.get?_push_of_some _ ho1)
  have nk0 : (PySem.W.sortingHeap (PySem.W.copyHeap s.heap its) a its).get? kS = some (seqObj "list" #[] 0) := by
    rw [← hK]
    exact Heap.get?_push_size _ rfl
  -- the emptied copy and the keys' list are pinned
  have younger : ∀ q : Addr, s.heap.objs.size ≤ q → X.s_0.heap.objs.size ≤ q ∧ q ≠ X.env.locals ∧ (∀ x c, X.env.cells.lookup x = some c → c ≠ q) ∧ ∀ p ∈ X.pn ++ pins, p.1 ≠ q := fun q hq => by
    refine ⟨Nat.le_trans I.sz hq, Nat.ne_of_gt (Nat.lt_of_lt_of_le I.lt hq), fun x c e z => ?_, fun p hp z => ?_⟩
    · obtain ⟨v, q2⟩ := I.cell x c e
      exact Nat.lt_irrefl _ (Nat.lt_of_lt_of_le q2.lt (z ▸ hq))
    · exact Nat.lt_irrefl _ (Nat.lt_of_lt_of_le (Heap.lt_size (I.pin p hp).1) (z ▸ hq))
  have ya := younger a (by omega)
  have yk := younger kS (by omega)
  have I0 := ClX.pin_new (t' := s.toks) I old (show s.heap.objs.size ≤ a by omega) na0 (fun v q => by cases q)
  have I1 : Inv X ((kS, seqObj "list" #[] 0) :: (a, seqObj "list" #[] e1) :: pins) σ H { s with heap := PySem.W.sortingHeap (PySem.W.copyHeap s.heap its) a its } := by
    refine I0.pins_of fun p hp => ?_
    rcases List.mem_cons.mp hp with e | e
    · rw [e]
      exact ⟨nk0, I.hok.fresh (by omega), yk.2.1, I.nofs (by omega), fun v q => by cases q⟩
    · exact I0.pin p (List.mem_append_right _ e)
  have hpk : ∀ p ∈ X.pn ++ (a, seqObj "list" #[] e1) :: pins, p.1 ≠ kS := fun p hp => by
    rcases List.mem_append.mp hp with z | z
    · exact yk.2.2.2 p (List.mem_append_left _ z)
    · rcases List.mem_cons.mp z with z | z
      · rw [z]; exact hka.symm
      · exact yk.2.2.2 p (List.mem_append_right _ z)
  unfold ksk_rest
  refine wpAny_bind (wpAny_rule ?_)
  rw [List.forIn_toArray]
  refine wpAny_bind (ksk_fold (fun i s1 => ∃ H1 kA n ys, Inv X ((kS, seqObj "list" kA n) :: (a, seqObj "list" #[] e1) :: pins) σ H1 s1 ∧ Same H H1 ∧ Vals ys kA.toList ∧ KeysAt X.K keyOf H1 ys (xs.take i)) its 0 _ ⟨_, #[], 0, [], I1, Same.refl _, .nil, .nil⟩ ?step ?done)
  case step =>
    rintro j u s1 hj ⟨H1, kA, n, ys, J, sm, ry, ky⟩
    rw [Nat.zero_add] at ky
    obtain ⟨x, hxj, rx⟩ : ∃ x, xs[j]? = some x ∧ RelV x u := by
      have hlt : j < xs.length := by rw [rv.length]; exact (List.getElem?_eq_some_iff.mp hj).1
      obtain ⟨u', e1, e2⟩ := rv.get (List.getElem?_eq_getElem hlt)
      rw [hj] at e1
      cases e1
      exact ⟨_, List.getElem?_eq_getElem hlt, e2⟩
    refine wpAny_bind (wpAny_attempt (wpAny_mono (turn j x u _ H1 s1 hxj sm J (List.mem_cons_of_mem _ (List.mem_cons_of_mem _ hfo)) rx) (fun v s2 hv => ?_) fun _ _ z => z.elim))
    obtain ⟨y, H2, J2, ryv, s12, dy⟩ := hv
    have nk2 : s2.heap.get? kS = some (seqObj "list" kA n) := ClX.pin_at J2
    have hsz3 : kA.size < xs.length := by
      have q3 : j < xs.length := (List.getElem?_eq_some_iff.mp hxj).1
      rw [← Array.length_toList, ← ry.length, show ys.length = (xs.take j).length from ky.length, List.length_take, Nat.min_eq_left (Nat.le_of_lt q3)]
      exact q3
    have hsz2 : kA.size ≤ sizeLine := Nat.le_trans (Nat.le_of_lt hsz3) hz
    refine wpAny_bind (listUpdate_at nk2 rfl ?_ hsz2 (by rw [Array.size_push]; omega))
    obtain ⟨c2, hc2⟩ : ∃ c2, (s2.heap.update kS (Obj.mapSeq (·.push v))).get? kS = some (seqObj "list" (kA.push v) c2) := ⟨_, get?_update_seq nk2 (·.push v)⟩
    have J3 := repin (t2 := s2.toks) (h2 := s2.heap.update kS (Obj.mapSeq (·.push v))) J2 (fun b o hb e => (Heap.get?_update_other _ _ (Ne.symm hb)).trans e) hc2 (fun v q => by cases q) yk.1 yk.2.2.1 hpk
    refine wpAny_pure ⟨rfl, H2, kA.push v, c2, ys ++ [y], J3, sm.trans s12, ?_, ?_⟩
    · rw [Array.toList_push]
      exact ry.append (.cons ryv .nil)
    · rw [Nat.zero_add, List.take_add_one, hxj]
      exact PySem.W.each_snoc (R := fun y x => Dp X.K H2 y (keyOf x)) dy (ky.mono fun y' x' q => Dp_mono s12 _ _ q)
  case done =>
    rintro s1 ⟨H1, kA, n, ys, J, sm, ry, ky⟩
    have et : xs.take (0 + its.length) = xs := List.take_of_length_le (by rw [rv.length]; omega)
    rw [et] at ky
    have hks : kA.size = its.length := by
      rw [← Array.length_toList, ← ry.length, ← rv.length]
      exact ky.length
    have nk1 : s1.heap.get? kS = some (seqObj "list" kA n) := ClX.pin_at J
    obtain ⟨na1, Ha, _, hfa, _⟩ := J.pin (a, seqObj "list" #[] e1) (List.mem_append_right _ (List.mem_cons_of_mem _ List.mem_cons_self))
    obtain ⟨_, Hk, _, hfk, _⟩ := J.pin (kS, seqObj "list" kA n) (List.mem_append_right _ List.mem_cons_self)
    refine wpAny_bind (listItems_at nk1 rfl ?_)
    have hkd : PySem.W.EachIs (fun v d => ∃ as, Reads s1.heap v d as) kA.toList (xs.map keyOf) := by
      have go : ∀ {ys : List V} {us : List Value} {xs : List V}, Vals ys us → KeysAt X.K keyOf H1 ys xs → PySem.W.EachIs (fun v d => ∃ as, Reads s1.heap v d as) us (xs.map keyOf) := by
        intro ys us xs r k
        induction k generalizing us with
        | nil => cases r; exact .nil
        | cons d _ ih =>
          cases r with
          | cons rr rt => exact .cons (Dp.reads J _ _ _ d rr) (ih rt)
      exact go ry ky
    have SA := PySem.W.SortsAt.data (prog := X.prog) (w := X.w) (A := X.A.in1.in1) (s := s1) hkd hal hsk hu
    have hlen : kA.toList.length = (xs.map keyOf).length := by rw [Array.length_toList, hks, List.length_map, rv.length]
    refine PySem.W.keyH_end (κ := PySem.W.dataKind s1.heap (xs.map keyOf)) (h₁ := s1.heap.update kS fun o => { o with data := .freed }) (fun b o hb e => ?_) (freed_none _ _) nk1 na1 hka SA hks hzi fun h3 t3 c3 k3 n3 => ⟨rfl, ?_⟩
    · by_cases hbk : b = kS
      · rw [hbk, freed_none] at e
        cases e
      · rw [Heap.get?_update_other _ _ (Ne.symm hbk)] at e
        exact e
    have k4 : ∀ b o, b ≠ a → b ≠ kS → s1.heap.get? b = some o → h3.get? b = some o := fun b o h1 h2 e => k3 b o h1 (by rw [Heap.get?_update_other _ _ (Ne.symm h2)]; exact e)
    have ko : PySem.W.KeyedOut false (xs.map keyOf) its (PySem.W.sortVals (PySem.W.dataKind s1.heap (xs.map keyOf)) false kA.toList its) := ⟨s1.heap, kA.toList, hal, rfl, hkd⟩
    have ev := each_vals (PySem.W.keyedOut_each keyOf ko (vals_each rv))
    have J0 : Inv X pins σ H1 s1 := ClX.unpin (ClX.unpin J)
    have nt : ∀ b u, H1 b = some u → b ≠ a ∧ b ≠ kS := fun b u e => ⟨(fun z => by rw [z, Ha] at e; cases e), (fun z => by rw [z, Hk] at e; cases e)⟩
    refine ⟨.ref a, upd H1 a (.lst (xs.mergeSort (PySem.W.dataLe false keyOf))), ?_, rfl, h a H1 Ha sm⟩
    refine J0.step (g' := s1.gens) (d' := s1.drawn) (ch := [kS, a]) (fun b hb => ?_) (fun b o _ _ hc e _ => k4 b o (fun z => hc (by simp [z])) (fun z => hc (by simp [z])) e)
      (fun b o _ _ hc e _ => ⟨o.slots, k4 b o (fun z => hc (by simp [z])) (fun z => hc (by simp [z])) e⟩) (fun b o hc e n => by rw [upd_ne (fun z => hc (by simp [z]))]; exact n) (fun b o hc e => ⟨o, k4 b o (fun z => hc (by simp [z])) (fun z => hc (by simp [z])) e⟩)
      (fun b zs e => by rw [upd_ne (nt b _ e).1]; exact e) (fun b o u e => by rw [upd_ne (nt b _ e).1]; exact e) (fun b ps e => ⟨#[], by rw [upd_ne (nt b _ e).1, e]; simp⟩) (fun m hm => ?_) (fun b u e => ?_) J0.bare
    · rcases List.mem_cons.mp hb with z | z
      · rw [z]; exact ⟨.inr yk.1, yk.2⟩
      · rw [List.mem_singleton.mp z]; exact ⟨.inr ya.1, ya.2⟩
    · obtain ⟨ob, es, ep, ho, r⟩ := hm
      exact ⟨ob, es, ep, k4 _ ob ya.2.1.symm yk.2.1.symm ho, r⟩
    · by_cases hb : b = a
      · rw [hb, upd_same] at e
        cases e
        rw [hb]
        exact ⟨by rw [List.length_mergeSort]; exact hz, _, c3, ev, n3⟩
      · rw [upd_ne hb] at e
        refine (J0.hok b u e).stay (fun d v hd q => k4 d v ?_ ?_ q) (fun d q => by rw [upd_ne (nt d _ q).1]; exact q) fun d zs q => by rw [upd_ne (nt d _ q).1]; exact q
        · rcases hd with z | z
          · rw [z]; exact hb
          · exact (nt d _ z).1
        · rcases hd with z | z
          · rw [z]; exact (nt b _ e).2
          · exact (nt d _ z).2
end
end OP
namespace OP
open PySem PySem.Spec PyProof.Rows L2 LamX
/-- a lambda of one parameter a: no other name of its own; it may capture -/
structure Lam1 (sc scope : Scope) (a : Str) : Prop where
  kind : scope.kind = .function
  co : scope.isCoroutine = false
  gen : scope.isGenerator = false
  cell : ∀ y ∈ scope.names, y.2 ≠ .cell
  loc : ∀ y ∈ scope.names, y.2 = .local → y.1 = a
  par : scope.names.lookup a = some .local
  free : ∀ y ∈ scope.names, y.2 = .free → sc.names.lookup y.1 = some .cell ∨ sc.names.lookup y.1 = some .free
def lam1B (sc scope : Scope) (a : Str) : Bool := decide (scope.kind = .function) && (!scope.isCoroutine && (!scope.isGenerator && (decide (scope.names.lookup a = some .local) &&
  scope.names.all fun y => !decide (y.2 = .cell) && ((!decide (y.2 = .local) || decide (y.1 = a)) && (!decide (y.2 = .free) || (decide (sc.names.lookup y.1 = some .cell) || decide (sc.names.lookup y.1 = some .free)))))))
theorem lam1_by {sc scope : Scope} {a : Str} (h : lam1B sc scope a = true) : Lam1 sc scope a := by
  unfold lam1B at h
  simp only [Bool.and_eq_true, Bool.or_eq_true, Bool.not_eq_true', decide_eq_true_eq, decide_eq_false_iff_not, List.all_eq_true] at h
  obtain ⟨h1, h2, h3, h4, h5⟩ := h
  refine ⟨h1, h2, h3, fun y hy => (h5 y hy).1, fun y hy e => ?_, h4, fun y hy e => ?_⟩
  · exact (h5 y hy).2.1.elim (fun z => absurd e z) id
  · exact (h5 y hy).2.2.elim (fun z => absurd e z) id
/-- the context of such a lambda's body; nothing is raised there -/
def lamCx1 (X : Cx) (A : Around) (outer : List Env) (s : Shared) (H : Hp) (scope : Scope) (f c' : Addr) : Cx := { lamCx X A outer s H (fun _ _ _ => False) scope f c' with xe := fun _ _ => False }
section
variable {X : Cx} {pins : List (Addr × Obj)} {σ : L2.St} {H : Hp} {s : Shared}
theorem lam1_start {A : Around} {scope : Scope} {a : Str} {f c' : Addr} {j : Nat} {x : V} {u : Value} {g : Heap} {tk : Nat} (I : Inv X pins σ H s) (L : Lam1 X.env.scope scope a) (e0 : Env0 X.prog X.w X.K X.mg X.base A X.stack s H) (hd : A.handled = none)
    (hN : X.N.Nodup) (hj : X.N[j]? = some a) (rx : RelV x u) (hns : g.Ns s.heap.objs.size fun y => [(a, u)].reverse.lookup y) (kp : ∀ b o, s.heap.get? b = some o → g.get? b = some o) :
    Inv (lamCx1 X A X.stack s H scope f c') [] (σ.set j (some x)) H { s with heap := g, toks := tk } := by
  have own : ∀ {y : Str}, scope.names.lookup y = some .free → ∃ c, X.env.cells.lookup y = some c := fun {y} hl => by
    have hy : (y, NameKind.free) ∈ scope.names := PySem.mem_of_lookup hl
    exact (L.free _ hy rfl).elim (fun k => I.ok.has _ (.inl k)) fun k => I.ok.has _ (.inr k)
  have back : ∀ {y : Str} {c : Addr}, (cloFrom X.env.cells scope.names []).lookup y = some c → X.env.cells.lookup y = some c := fun {y c} e => by
    rcases cloFrom_mem (PySem.mem_of_lookup e) with hm | ⟨h1, h2⟩
    · cases hm
    · obtain ⟨c1, hc⟩ := (L.free _ h1 rfl).elim (fun k => I.ok.has _ (.inl k)) fun k => I.ok.has _ (.inr k)
      have hc2 : X.env.cells.lookup y = some c1 := hc
      rw [hc2, show c = c1 from by rw [h2, hc2] <;> rfl]
  have look : ∀ {y : Str}, scope.names.lookup y = some .free → ∃ c, (cloFrom X.env.cells scope.names []).lookup y = some c := fun {y} hl =>
    mem_lookup (cloFrom_has (cells := X.env.cells) (acc := []) (PySem.mem_of_lookup hl))
  have cellK : ∀ {c : Addr} {v : Option Value}, s.heap.IsCell c v → g.IsCell c v := fun {c v} ⟨o, ho, q⟩ => ⟨o, kp _ _ ho, q⟩
  have none0 : ∀ b : Addr, b ∉ (lamCx1 X A X.stack s H scope f c').ex := fun b z => absurd (show b ∈ ([] : List Addr) from z) (by simp)
  have hjl : j < σ.length := by rw [I.len]; exact (List.getElem?_eq_some_iff.mp hj).1
  refine { ok := ?_, os := rfl, bare := e0.bare, base := Un.kept kp, loc := ⟨_, hns, fun i y v e1 e2 e3 => ?_⟩, cell := fun y c e => ?_, free := e0.hok.fresh (Nat.le_refl _), freeC := fun y c e => ?_, pin := fun q hq => absurd (show q ∈ ([] : List (Addr × Obj)) ++ [] from hq) (by simp), hok := e0.hok.kept kp, len := ?_ }
  · refine { mod := e0.mod, kind := L.kind, glob := rfl, blt := rfl, above := Nat.le_refl _, inj := fun y z c q1 q2 => I.ok.inj y z c (back q1) (back q2), has := fun y hy => ?_, cab := fun y c z _ => ?_, hd := (fun _ => hd), frames := (Around.frames_deeper e0.frames), stk := .inr ⟨rfl, rfl⟩, exf := fun b z => absurd z (none0 b), bs := e0.bs, bsz := e0.bsz, noex := fun b _ _ => none0 b, exfs := fun b z => absurd z (none0 b), funs := e0.funs, frf := e0.frf }
    · have hy2 : scope.names.lookup y = some .cell ∨ scope.names.lookup y = some .free := hy
      rcases hy2 with k | k
      · exact absurd rfl (L.cell _ (PySem.mem_of_lookup k))
      · exact look k
    · have z2 : false = true := z
      cases z2
  · have e3' : Vis scope y := e3
    rcases e3' with k | k | k
    · have ya : y = a := L.loc _ (PySem.mem_of_lookup k) rfl
      subst ya
      have hij : i = j := nodup_ix hN e1 hj
      subst hij
      rw [List.getElem?_set_self hjl] at e2
      cases e2
      exact ⟨u, rx, .inl ⟨k, by simp⟩⟩
    · exact absurd rfl (L.cell _ (PySem.mem_of_lookup k))
    · have yna : y ≠ a := fun z => by
        rw [z, L.par] at k
        cases k
      have hij : j ≠ i := fun z => yna (by
        rw [← z] at e1
        have e4 : some y = some a := e1.symm.trans hj
        exact Option.some.inj e4)
      rw [List.getElem?_set_ne hij] at e2
      obtain ⟨m, hn, hl⟩ := I.loc
      have hvis : Vis X.env.scope y := (L.free _ (PySem.mem_of_lookup k) rfl).elim (fun k => .inr (.inl k)) (fun k => .inr (.inr k))
      obtain ⟨u', r, q⟩ := hl i y v e1 e2 hvis
      obtain ⟨c2, h2⟩ := look k
      refine ⟨u', r, .inr ⟨.inr k, c2, h2, ?_⟩⟩
      rcases q with ⟨k', _⟩ | ⟨_, c3, e', z⟩
      · have k2 : X.env.scope.names.lookup y = some .local := k'
        rcases L.free _ (PySem.mem_of_lookup k) rfl with k3 | k3 <;> rw [show X.env.scope.names.lookup y = _ from k3] at k2 <;> cases k2
      · rw [back h2] at e'
        cases e'
        exact cellK z
  · obtain ⟨v, z⟩ := I.cell y c (back e)
    exact ⟨v, cellK z⟩
  · exact I.freeC y c (back e)
  · rw [List.length_set]
    exact I.len
/-- f(u), f such a lambda that the frame X made -/
theorem lam1_call {A : Around} {scope : Scope} {a : Str} {f c' : Addr} {pm ctv : Value} {params : Arguments} {body : Expr} {j k : Nat} {x : V} {u : Value} {Q : VK} {tb : TE} {E : Value → Shared → Prop} (I : Inv X pins σ H s) (L : Lam1 X.env.scope scope a)
    (hf : s.heap.get? f = some (PySem.W.kla_obj "<lambda>" (X.env.qual ++ "<lambda>") params body scope (cloFrom X.env.cells scope.names []) pm c' ctv)) (hc : H c' = some (CodeO c' (X.env.qual ++ "<lambda>")))
    (hbind : bindArgs (PySem.W.kla_fn "<lambda>" (X.env.qual ++ "<lambda>") params body scope (cloFrom X.env.cells scope.names []) pm (.ref c') ctv) ⟨[u], []⟩ = pure [(a, u)])
    (e0 : Env0 X.prog X.w X.K X.mg X.base A X.stack s H) (hr : Room (k + 1) A) (hN : X.N.Nodup) (hj : X.N[j]? = some a) (rx : RelV x u)
    (hbody : Room k (A.deeper (lamEnv X scope s.heap.objs.size f c')) → PE (lamCx1 X A X.stack s H scope f c') body tb) (ht : tb (σ.set j (some x)) H Q) :
    wpAny (model X.prog X.w) A (call (.ref f) [u]) (EP X pins σ Q) E s := by
  obtain ⟨⟨oc, vs, t, hoc, hdc, hvc⟩, _, _⟩ := I.hok c' _ hc
  have rc : codeAny (model X.prog X.w) A (.call (.ref f) ⟨[u], []⟩) (CR CX0 X.stack X.prog X.w H s Q E0) s := by
    refine PySem.W.kla_callFunE hr.depth hf rfl L.co L.gen rfl ⟨c', oc, vs, t, rfl, hoc, hdc, hvc⟩ ?_
    rw [hbind]
    refine wpAny_pure (wpAny_newFunctionEnv L.cell (fun y hy => by rw [List.mem_singleton.mp hy]; exact L.par) (fun g hns hsb => ⟨I.nolimit.fresh _ hsb, ?_⟩) L.kind)
    show codeAny _ _ (.expr body (lamEnv X scope s.heap.objs.size f c')) _ _
    have kp : ∀ b o, s.heap.get? b = some o → g.get? b = some o := fun b o e => hsb.extBut b o (Nat.ne_of_lt (Heap.lt_size e)) (Heap.get?_push_of_some _ e)
    have J := lam1_start (tk := s.toks + [(a, u)].length) (f := f) (c' := c') I L e0 hr.hd hN hj rx hns kp
    refine PySem.W.kla_codeExpr (wpAny_mono ((hbody (hr.deeper _)).run [] _ _ H Q J ht) (fun v s' hq => ?_) fun e s' hq => (show False from hq).elim)
    obtain ⟨y, H', J', rv, q⟩ := hq
    exact ⟨y, H', J'.os, J'.bare, J'.base, J'.hok, rv, q⟩
  refine wpAny_call (codeAny_mono rc fun r s' hq => ?_)
  cases r with
  | error e => exact (show False from hq).elim
  | ok fl =>
    cases fl with
    | ret v => exact I.after hq
    | next => exact False.elim hq
    | brk => exact False.elim hq
    | cont => exact False.elim hq
end
end OP
namespace OP
open PySem PySem.Spec PyProof.Rows L2 LamX
theorem ExtN.sq {K : PySem.W.Frag} {H H' : Hp} {a : Addr} {xs : List V} (e : ExtN H H') (h : SqL K H a xs) : SqL K H' a xs := by
  rcases h with (h | ⟨o, h⟩) | h
  · exact .inl (.inl (e _ _ h fun ps z => by cases z))
  · exact .inl (.inr ⟨o, e _ _ h fun ps z => by cases z⟩)
  · exact .inr h
/-- sorted(e, key=lambda a: body): the keys by body's reading, j the slot that stands for a -/
def tSortLam (K : PySem.W.Frag) (A : Around) (T : List (Addr × Str)) (j : Nat) (tb : TE) (te : TA) : TE := fun σ H Q => te σ H fun ws H1 => ∃ (l : Addr) (xs : List V) (keyOf : V → PyData), ws = [V.ref l] ∧ SqL K H1 l xs ∧ Tabs T H1 ∧
  PySem.W.AllAlike (xs.map keyOf) ∧ PySem.W.Sortable (xs.map keyOf) ∧ (∀ d, d ∈ xs.map keyOf → A.in1.in1.units + d.depth < cLine) ∧
  (∀ (i : Nat) (z : V) (H' : Hp) (Q' : VK), xs[i]? = some z → ExtN H1 H' → (∀ y H2, Same H' H2 → Dp K H2 y (keyOf z) → Q' y H2) → tb (σ.set j (some z)) H' Q') ∧
  ∀ a H', H' a = none → ExtN H1 H' → Tabs T H' → Q (.ref a) (upd H' a (.lst (xs.mergeSort (PySem.W.dataLe false keyOf))))
section
variable {X : Cx}
theorem pe_sortLam {T : List (Addr × Str)} {c P : Addr} {k j : Nat} {a x : Str} {params : Arguments} {e body : Expr} {scope : Scope} {tb : TE} {te : TA} {p lpos kpos pos : Pos} (ha : PA X [e] te) (hg : Gl X x) (hm : X.mg x = none) (hv : bootBuiltins x = some (.builtin "sorted"))
    (TB : TabB X.base X.mg c P) (hcode : X.env.code = .ref c) (hmT : (P, X.env.qual ++ "<lambda>") ∈ T) (hu : ∀ q ∈ T, q.1 = P → q.2 = X.env.qual ++ "<lambda>") (hr : Room (k + 3) X.A) (L : Lam1 X.env.scope scope a) (hdef : defaultsOf params X.env = ([], []))
    (hN : X.N.Nodup) (hj : X.N[j]? = some a) (hbind : ∀ (q : Str) (cl : List (Str × Addr)) (pm cv ctv u : Value), bindArgs (PySem.W.kla_fn "<lambda>" q params body scope cl pm cv ctv) ⟨[u], []⟩ = pure [(a, u)])
    (hbody : ∀ (A : Around) (s : Shared) (H : Hp) (f c' : Addr), Room k (A.deeper (lamEnv X scope s.heap.objs.size f c')) → PE (lamCx1 X A X.stack s H scope f c') body tb)
    (hn : x ≠ "__name__" := by decide) (hdb : (x == ("__debug__" : Str)) = false := by decide)
    (h1 : backTo pos (starEach [e] X.env) = (false, eval e X.env) :: backTo pos (starEach [] X.env) := by rfl) (h2 : (backTo pos (starEach [e] X.env)).any (·.1) = false := by rfl)
    (h3 : (backToKw pos (keywordEach [⟨some (Str.ofString "key"), .Lambda params body scope lpos, kpos⟩] X.env)).all (·.1.isSome) = true := by rfl) (h4 : (backToKw pos (keywordEach [⟨some (Str.ofString "key"), .Lambda params body scope lpos, kpos⟩] X.env)).any (·.1.isNone) = false := by rfl)
    (h5 : (backToKw pos (keywordEach [⟨some (Str.ofString "key"), .Lambda params body scope lpos, kpos⟩] X.env)).filterMap (·.1) = [Str.ofString "key"] := by rfl) :
    PE X (.Call (.Name x p) [e] [⟨some (Str.ofString "key"), .Lambda params body scope lpos, kpos⟩] pos) (tSortLam X.K X.A T j tb te) := by
  refine ⟨fun pins s σ H Q I h => ?_⟩
  refine wpAny_Call_Name_kw (ld_blt I hg hm hv ?_ hn hdb)
  refine PyProof.Rows.callWith_kw (thn (ha.run pos pins s σ H _ I h) fun us s1 hq => ?_) h1 h2 h3 h4
  obtain ⟨vs, H1, I1, r1, l, xs, keyOf, rfl, hx, hT, hal, hsk, hud, hturn, hfin⟩ := hq
  cases r1 with
  | cons ra rb =>
  cases rb
  cases ra
  show wpAny _ _ (evalAll ((do let v ← eval (.Lambda params body scope lpos) X.env; standAt pos; pure v) :: [])) _ _ s1
  refine wpAny_evalAll_cons (wpAny_bind (lam_make2 I1 TB hcode hmT hu hT hdef ?_ fun f c' pm ctv H2 s2 I2 eN T2 hf hfn hfr hco => wpAny_bind (wpAny_standAt (wpAny_pure ?_))))
  · exact fun y hy z => (L.free y hy z).elim (fun k => I1.ok.has _ (.inl k)) fun k => I1.ok.has _ (.inr k)
  refine wpAny_evalAll_nil ?_
  rw [h5]
  show wpAny _ _ (call (.builtin "sorted") [.ref l] [(Str.ofString "key", .ref f)]) _ _ s2
  have hfl : f ≠ X.env.locals := fun z => by
    obtain ⟨m, ⟨ob, es, ep, ho, hcls, hdat, _⟩, _⟩ := I2.loc
    rw [← z, hf] at ho
    cases ho
    have q := hcls
    cases q
  have hff : f ∉ X.fs := fun z => hfr (by
    rcases I2.ok.stk with q | ⟨q, _⟩
    · rw [q]; exact z
    · rw [q]
      obtain ⟨en, h6, h7⟩ := List.mem_filterMap.mp z
      exact List.mem_filterMap.mpr ⟨en, List.mem_cons_of_mem _ h6, h7⟩)
  have I3 : Inv X ((f, PySem.W.kla_obj "<lambda>" (X.env.qual ++ "<lambda>") params body scope (cloFrom X.env.cells scope.names []) pm c' ctv) :: pins) σ H2 s2 := by
    refine I2.pins_of fun q hq => ?_
    rcases List.mem_cons.mp hq with z | z
    · rw [z]
      exact ⟨hf, hfn, hfl, hff, fun v w => by cases w⟩
    · exact I2.pin q (List.mem_append_right _ z)
  refine wpAny_mono (sorted_by (E := X.xe) (Q := Q) keyOf I3 (ExtN.sq eN hx) List.mem_cons_self hal hsk hud (fun i z u pins' H' s' hz sm J hp rz => ?_) fun b H' hb sm => ?_) (fun u s3 hq => ClX.unpinE hq) fun _ _ q => q
  · have hf2 := (J.pin _ (List.mem_append_right _ hp)).1
    refine lam1_call (k := k) J L hf2 (sm _ _ hco) (hbind _ _ _ _ _ _) J.env0.in1.in1 hr.in1.in1 hN hj rz (fun hr2 => hbody _ _ _ _ _ hr2) ?_
    exact hturn i z H' _ hz (eN.trans (ExtN.of sm)) fun y H3 s3 d => ⟨s3, d⟩
  · exact hfin b H' hb (eN.trans (ExtN.of sm)) (T2.ext sm)
end
end OP
namespace OP
open PySem PySem.Spec PyProof.Rows L2 LamX
/-! ### all sets, put in order -/
def subs (ys : List Str) : List (List Str) := ys.foldl (fun acc y => acc ++ acc.map (· ++ [y])) [[]]
theorem subs_take {ys : List Str} {i : Nat} (h : i < ys.length) : subs (ys.take (i + 1)) = subs (ys.take i) ++ (subs (ys.take i)).map (· ++ [ys[i]]) := by
  unfold subs
  rw [List.take_add_one, List.getElem?_eq_getElem h, Option.toList_some, List.foldl_append]
  rfl
def keyD (ys : List Str) (one : List Str) : PyData := .tuple [.int one.length, .list (one.map fun y => PyData.int (ys.idxOf y))]
def rank (ys : List Str) (z : List Str) : Nat := (setsOf ys).idxOf z
structure SubOk (ys : List Str) : Prop where
  le : ∀ a ∈ subs ys, ∀ b ∈ subs ys, PySem.W.dataLe false (keyD ys) a b = decide (rank ys a ≤ rank ys b)
  perm : (setsOf ys).Perm (subs ys)
  alike : ∀ a ∈ subs ys, ∀ b ∈ subs ys, PySem.W.alike (keyD ys a) (keyD ys b) = true
  sorted : (setsOf ys).Pairwise fun a b => decide (rank ys a ≤ rank ys b) = true
  mem : ∀ a ∈ subs ys, a.length ≤ 4 ∧ ∀ y ∈ a, y ∈ ys
  len : ∀ i, i ≤ ys.length → (subs (ys.take i)).length ≤ 16
  len4 : ∀ i, i ≤ ys.length → ∀ a ∈ subs (ys.take i), a.length ≤ 4
theorem sub2 : SubOk (gNames.take 2) := ⟨by decide +kernel, by decide +kernel, by decide +kernel, by decide +kernel, by decide +kernel, by decide +kernel, by decide +kernel⟩
theorem sub3 : SubOk (gNames.take 3) := ⟨by decide +kernel, by decide +kernel, by decide +kernel, by decide +kernel, by decide +kernel, by decide +kernel, by decide +kernel⟩
theorem sub4 : SubOk (gNames.take 4) := ⟨by decide +kernel, by decide +kernel, by decide +kernel, by decide +kernel, by decide +kernel, by decide +kernel, by decide +kernel⟩
theorem sub_ok {m : Nat} (h2 : 2 ≤ m) (h4 : m ≤ 4) : SubOk (gNames.take m) := by
  obtain rfl | rfl | rfl : m = 2 ∨ m = 3 ∨ m = 4 := by omega
  · exact sub2
  · exact sub3
  · exact sub4
theorem sort_sets {ys : List Str} (h : SubOk ys) : (subs ys).mergeSort (PySem.W.dataLe false (keyD ys)) = setsOf ys := by
  have e1 : (subs ys).mergeSort (PySem.W.dataLe false (keyD ys)) = (subs ys).mergeSort fun a b => decide (rank ys a ≤ rank ys b) := by
    have := List.map_mergeSort (r := PySem.W.dataLe false (keyD ys)) (s := fun a b => decide (rank ys a ≤ rank ys b)) (f := id) (l := subs ys) h.le
    rw [List.map_id, List.map_id] at this
    exact this
  rw [e1]
  refine List.Perm.eq_of_pairwise (le := fun a b => decide (rank ys a ≤ rank ys b) = true) (fun a b ha hb h1 h2 => ?_) (List.pairwise_mergeSort (fun a b c x y => ?_) (fun a b => ?_) _) h.sorted ((List.mergeSort_perm _ _).trans h.perm.symm)
  · have e : rank ys a = rank ys b := Nat.le_antisymm (of_decide_eq_true h1) (of_decide_eq_true h2)
    have ma : a ∈ setsOf ys := h.perm.symm.mem_iff.mp ((List.mergeSort_perm _ _).mem_iff.mp ha)
    unfold rank at e
    have g1 := List.getElem_idxOf (List.idxOf_lt_length_of_mem ma)
    have g2 := List.getElem_idxOf (List.idxOf_lt_length_of_mem hb)
    rw [← g1, ← g2]
    congr 1
  · exact decide_eq_true (Nat.le_trans (of_decide_eq_true x) (of_decide_eq_true y))
  · rcases Nat.le_total (rank ys a) (rank ys b) with z | z
    · rw [decide_eq_true z, Bool.true_or]
    · rw [decide_eq_true z, Bool.or_true]
end OP
namespace OP
open PySem PySem.Spec PyProof.Rows L2 LamX
abbrev lamScope : Scope := { kind := .function, names := [("_law_one", .local), ("_law_names_here", .free), ("len", .globalImplicit)], isGenerator := false, isCoroutine := false, more := [("fast", .str "_law_one"), ("fast", .str "_law_name"), ("fast", .str "_law_names_here")] }
abbrev lamQ : Str := (envOfC "_law_sets" (defScope s__law_sets) 0 0 .none).qual ++ "<lambda>"
/-- the def that sorts by a lambda: its code object's table -/
structure LamTab (K : PySem.W.Frag) (mg : Str → Option Value) (base : Heap) (P : Addr) : Prop where
  ex : ∃ (oc : Value) (od : Option Addr) (kV doc pm : Value) (an : Option Addr) (ct : Value) (osl : Array (Option Value)) (c : Addr),
    K.lookup (a__law_sets K) = some ⟨oc, od, .func (PySem.W.fnOf "_law_sets" "_law_sets" (defArgs s__law_sets) (defBody s__law_sets) (defScope s__law_sets) .none kV doc pm an (.ref c) ct), osl⟩ ∧ PySem.W.codeIn K (.ref c) "_law_sets" = true ∧ LamX.TabB base mg c P
  kp : PySem.W.keepIn K (.ref (a__law_sets K)) = true
def keyOf (ys : List Str) (Z : Nts) (v : V) : PyData := match Z.find? (fun p => decide (V.ref p.1 = v)) with
  | some p => keyD ys p.2
  | none => .none
theorem strs_inj : ∀ {xs ys : List Str}, xs.map V.str = ys.map V.str → xs = ys
  | [], [], _ => rfl
  | [], _ :: _, h => by cases h
  | _ :: _, [], h => by cases h
  | x :: xs, y :: ys, h => by
    obtain ⟨h1, h2⟩ := List.cons.inj h
    rw [V.str.inj h1, strs_inj h2]
theorem keyOf_at {ys : List Str} {Z : Nts} {H : Hp} (h : NtsAt H Z) {p : Addr × List Str} (hp : p ∈ Z) : keyOf ys Z (.ref p.1) = keyD ys p.2 := by
  unfold keyOf
  cases e : Z.find? (fun q => decide (V.ref q.1 = V.ref p.1)) with
  | none =>
    have z := List.find?_eq_none.mp e p hp
    simp at z
  | some q =>
    have e0 := List.find?_some e
    simp only [decide_eq_true_eq] at e0
    have e1 : q.1 = p.1 := V.ref.inj e0
    have h1 := h q (List.mem_of_find?_eq_some e)
    rw [e1, h p hp] at h1
    injection h1 with h1
    injection h1 with h1
    show keyD ys q.2 = _
    rw [strs_inj h1]
theorem keyD_depth (ys one : List Str) : (keyD ys one).depth ≤ 2 := by
  have e : PyData.depthAll (one.map fun y => PyData.int (ys.idxOf y)) = 0 := by
    induction one with
    | nil => rfl
    | cons y one ih => simp only [List.map_cons, PyData.depthAll, PyData.depth, ih, Nat.max_self]
  unfold keyD
  simp only [PyData.depth, PyData.depthAll, e]
  decide
theorem dp_map {K : PySem.W.Frag} {H : Hp} {α : Type} (f : α → Int) : ∀ xs : List α, DpAll K H (xs.map fun y => V.int (f y)) (xs.map fun y => PyData.int (f y))
  | [] => .nil
  | x :: xs => .cons (.int _) (dp_map f xs)
theorem NtsAt.exn {H H' : Hp} {Z : Nts} (e : ExtN H H') (h : NtsAt H Z) : NtsAt H' Z := fun p hp => e _ _ (h p hp) (fun _ z => by cases z)
theorem NtsAt.off {H : Hp} {A : Nts} {D : Addr} {ys : List V} {o : HO} (hd : H D = some (.lst ys)) (h : NtsAt H A) : NtsAt (upd H D o) A := fun p hp => by
  rw [upd_ne (tup_ne (h p hp) hd)]
  exact h p hp
theorem nrefs_len (Z : Nts) : (nrefs Z).length = Z.length := List.length_map ..
section
variable {P : Program} {w : World} {K : PySem.W.Frag} {mg : Str → Option Value} {base : Heap}
def spLSets (K : PySem.W.Frag) (Pt : Addr) : Sp := fun vs H Q _ => ∃ (l : Addr) (m : Nat), vs = [.ref l] ∧ 2 ≤ m ∧ m ≤ 4 ∧ H l = some (.lst ((gNames.take m).map V.str)) ∧ Tabs [(Pt, lamQ)] H ∧
  ∀ (H' : Hp) (r : Addr) (Z : Nts), ExtN H H' → Tabs [(Pt, lamQ)] H' → H' r = some (.lst (nrefs Z)) → NtsAt H' Z → Z.map (·.2) = setsOf (gNames.take m) → Q (.ref r) H'
abbrev sNames : List Str := ["_law_names_here", "_law_found", "_law_name", "_law_one"]
theorem sc_lsets : FnScope sNames ["_law_names_here"] (defScope s__law_sets) := ⟨rfl, rfl, rfl, by decide +kernel, rfl, by decide +kernel, by decide +kernel⟩
theorem ok_lsets (T : Txt K mg) {Pt : Addr} (LT : LamTab K mg base Pt) : Ok P w K mg base (a__law_sets K) ["_law_names_here"] 5 (spLSets K Pt) := by
  obtain ⟨⟨oc, od, kV, doc, pm, an, ct, osl, c, lk, hcd, TB⟩, kp⟩ := LT
  refine ⟨⟨_, fn_of lk hcd sc_lsets (fun vs H Q E h => ?_) (fun A outer s H vs Q E hr h => ?_), .all (fun us hl => match us, hl with | [_], _ => rfl)⟩, kp⟩
  · obtain ⟨l, m, rfl, _⟩ := h
    rfl
  · obtain ⟨l, m, rfl, m2, m4, hl, tabs, kk⟩ := h
    have hr3 : Room 3 _ := hr.mono (by decide)
    suffices h : ∃ t, PSs (cxOf CX0 P w K mg base sNames "_law_sets" (defScope s__law_sets) (a__law_sets K) (.ref c) A outer s H E).nox (defBody s__law_sets) t ∧ t { nx := fun _ H' => Q .non H', rt := Q } (start sNames [.ref l]) H by
      obtain ⟨t, h, q⟩ := h
      exact ⟨t, h.nox, q⟩
    refine ⟨_, pss_cons (ps_set (i := 1) sc_lsets.nd rfl (Or.inl rfl) (pe_lst (pa_cons (pe_tup pa_nil) pa_nil)))
      (pss_cons (ps_for PassesOwn.never rfl (pi_list (pv 0)) (pg_name (i := 2) sc_lsets.nd rfl (Or.inr rfl)) (pss_one (ps_set (i := 1) sc_lsets.nd rfl (Or.inl rfl) (pe_op op_cat (pv 1) (pe_lc (own := [("_law_one", 3)]) (g := gName 3) (tt := tYes) rfl sc_lsets.nd (pi_list (pv 1)) (blkOk_by (own := [("_law_one", 3)]) (N := sNames) (sc := defScope s__law_sets) (by decide +kernel))
        (fun _ _ _ _ _ => pg_name (i := 3) sc_lsets.nd rfl (Or.inl rfl)) (fun _ _ _ _ _ => pts_nil)
        (fun _ _ _ _ _ => pe_op (op_catAK K) (pv 3) (pe_tup (pa_cons (pv 2) pa_nil))))))))
      (pss_one (ps_ret (pe_sortLam (T := [(Pt, lamQ)]) (c := c) (P := Pt) (k := 0) (j := 3) (a := "_law_one") (pa_cons (pv 1) pa_nil) (by rfl) T.z_sorted (by decide +kernel) TB rfl (List.mem_singleton.mpr rfl) (fun q hq _ => by obtain rfl := List.mem_singleton.mp hq; rfl) hr3 (lam1_by (sc := defScope s__law_sets) (scope := lamScope) (by decide +kernel)) rfl sc_lsets.nd rfl (fun _ _ _ _ _ _ => rfl)
        (fun A' s' H' f c' hr' => pe_tup (pa_cons (pe_callB (call_ln K) (by rfl) T.z_len PySem.boot_len (pa_cons (pv 3) pa_nil)) (pa_cons (pe_lc (own := [("_law_name", 2)]) (g := gName 2) (tt := tYes) rfl sc_lsets.nd (pi_tupK K (pv 3)) (blkOk_by (own := [("_law_name", 2)]) (N := sNames) (sc := lamScope) (by decide +kernel))
          (fun _ _ _ _ _ => pg_name (i := 2) sc_lsets.nd rfl (Or.inl rfl)) (fun _ _ _ _ _ => pts_nil)
          (fun _ _ _ _ _ => tbmK K (pe_bm PySem.F.plainAttrs_list PySem.F.slot_list_index PySem.F.type_list_index (mt_indexK K) (pv 0) (pa_cons (pv 2) pa_nil)))) pa_nil))))))), ?_⟩
    have so := sub_ok m2 m4
    generalize hys : gNames.take m = ys at hl kk so
    have ysn : ys.Nodup := by rw [← hys]; exact gn_nd.sublist (List.take_sublist _ _)
    have hml : (ys.map V.str).length = ys.length := List.length_map ..
    refine ⟨(by show 0 ≤ sizeLine; exact Nat.zero_le _), fun t ht => ⟨(by show 1 ≤ sizeLine; decide), fun f hf => ?_⟩⟩
    have s1 : Same H _ := same_upd (o := .tup []) ht
    have s2 : Same H _ := s1.push (o := .lst [V.ref t]) hf
    refine ⟨_, rfl, l, rfl, ⟨_, SqL.of (s2 _ _ hl)⟩, for_list (K := K) (a := l) (xs := ys.map V.str) (fun i σ H' => ∃ (f : Addr) (Z : Nts) (v2 : Option V), σ = [some (.ref l), some (.ref f), v2, none] ∧ Same H H' ∧ H' f = some (.lst (nrefs Z)) ∧ NtsAt H' Z ∧ Z.map (·.2) = subs (ys.take i))
      ⟨f, [(t, [])], none, rfl, s2, upd_same, fun p hp => ?_, rfl⟩ (fun i σ H' _ q => ?_) (fun i x σ H1 hx q => ?_) fun σ H1 q => ?_⟩
    · obtain rfl := List.mem_singleton.mp hp
      show upd _ f _ t = _
      rw [upd_ne (ne_of_none upd_same hf)]
      exact upd_same
    · obtain ⟨_, _, _, _, s3, _⟩ := q
      exact SqL.of (s3 _ _ hl)
    · obtain ⟨f, Z, v2, rfl, s3, hf, hZ, eZ⟩ := q
      obtain ⟨y, hy, rfl⟩ := strs_at' hx
      have hil : i < ys.length := (List.getElem?_eq_some_iff.mp hy).1
      have eyi : ys[i] = y := (List.getElem?_eq_some_iff.mp hy).2
      have zl : Z.length ≤ 16 := by
        have h1 : Z.length = (Z.map (·.2)).length := (List.length_map ..).symm
        rw [h1, eZ]
        exact so.len i (Nat.le_of_lt hil)
      refine ⟨_, rfl, _, rfl, f, rfl, ⟨_, SqL.of hf⟩, fun D hD => ?_⟩
      refine lc_it (walk_list (K := K) (a := f) (xs := nrefs Z)) (fun j H' => ∃ Z2 : Nts, Same H1 H' ∧ H' D = some (.lst (nrefs Z2)) ∧ NtsAt H' Z2 ∧ Z2.map (·.2) = ((Z.map (·.2)).take j).map (· ++ [y])) ⟨[], same_upd hD, upd_same, (fun p hp => absurd hp List.not_mem_nil), by rw [List.take_zero] <;> rfl⟩ (fun j H' _ q => ?_) (fun j x H2 H3 hj q yy => ?_) (fun H2 q => ?_)
      · obtain ⟨_, s4, _⟩ := q
        exact SqL.of (s4 _ _ hf)
      · obtain ⟨Z2, s4, hD4, hZ4, eZ4⟩ := q
        obtain ⟨rfl, hxj⟩ := yy
        have hjZ : j < Z.length := by rw [nrefs_len] at hj; exact hj
        unfold nrefs at hxj
        rw [List.getElem?_map, List.getElem?_eq_getElem hjZ] at hxj
        obtain rfl := (Option.some.inj hxj).symm
        have mem : Z[j] ∈ Z := List.getElem_mem hjZ
        have hq : H3 Z[j].1 = some (.tup (Z[j].2.map V.str)) := s4 _ _ (hZ _ mem)
        have l4 : Z[j].2.length ≤ 4 := so.len4 i (Nat.le_of_lt hil) _ (by rw [← eZ]; exact List.mem_map.mpr ⟨Z[j], mem, rfl⟩)
        have lz2 : Z2.length = j := by
          have h1 : Z2.length = (Z2.map (·.2)).length := (List.length_map ..).symm
          rw [h1, eZ4, List.length_map, List.length_take, List.length_map]
          omega
        have step : ∀ (H7 : Hp) (q : Addr), Same H3 H7 → H7 q = some (.tup ((Z[j].2 ++ [y]).map V.str)) → ∃ acc, H7 D = some (.lst acc) ∧ acc.length < sizeLine ∧ ∃ Z2 : Nts, Same H1 (upd H7 D (.lst (acc ++ [V.ref q]))) ∧ upd H7 D (.lst (acc ++ [V.ref q])) D = some (.lst (nrefs Z2)) ∧ NtsAt (upd H7 D (.lst (acc ++ [V.ref q]))) Z2 ∧ Z2.map (·.2) = ((Z.map (·.2)).take (j + 1)).map (· ++ [y]) := fun H7 q s7 hq7 => by
          have e1 := s7 _ _ hD4
          refine ⟨_, e1, small1000 (by rw [nrefs_len]; omega), Z2 ++ [(q, Z[j].2 ++ [y])], fun b u e => ?_, ?_, NtsAt.off e1 ((hZ4.ext s7).snoc hq7), ?_⟩
          · rw [upd_ne (ne_of_none e hD)]
            exact s7 _ _ (s4 _ _ e)
          · rw [upd_same, nrefs_snoc]
          · have e6 : (Z.map (·.2)).take (j + 1) = (Z.map (·.2)).take j ++ [Z[j].2] := by
              rw [List.take_add_one, List.getElem?_map, List.getElem?_eq_getElem hjZ] <;> rfl
            rw [List.map_append, eZ4, e6, List.map_append] <;> rfl
        refine ⟨rfl, tyes (iteT ⟨_, rfl, _, rfl, (by show 1 ≤ sizeLine; decide), fun t2 ht2 => ?_⟩)⟩
        have s6 : Same H3 _ := same_upd (o := .tup [V.str y]) ht2
        refine ⟨Z[j].1, t2, Z[j].2.map V.str, [V.str y], rfl, rfl, SqT.of (s6 _ _ hq), SqT.of upd_same, ?_, fun e => ?_, fun _ z => absurd z (List.cons_ne_nil _ _), fun _ _ q hq' => ?_⟩
        · rw [List.length_map, List.length_singleton]
          exact Nat.le_trans (show Z[j].2.length + 1 ≤ 1000 by omega) (by decide)
        · refine step _ t2 s6 ?_
          rw [List.map_append, e] <;> exact upd_same
        · refine step _ q (s6.push hq') ?_
          rw [List.map_append] <;> exact upd_same
      · obtain ⟨Z2, s4, hD4, hZ4, eZ4⟩ := q
        rw [List.take_of_length_le (by rw [nrefs_len, List.length_map]; exact Nat.le_refl _)] at eZ4
        have lz2 : Z2.length ≤ 16 := by
          have h1 : Z2.length = (Z2.map (·.2)).length := (List.length_map ..).symm
          rw [h1, eZ4, List.length_map, List.length_map]
          exact zl
        refine ⟨f, D, _, _, rfl, rfl, s4 _ _ hf, hD4, ?_, fun p hp => ?_⟩
        · rw [nrefs_len, nrefs_len]
          exact Nat.le_trans (show Z.length + Z2.length ≤ 1000 by omega) (by decide)
        · have s5 : Same H2 _ := same_upd (o := .lst (nrefs Z ++ nrefs Z2)) hp
          refine ⟨p, Z ++ Z2, _, rfl, (s3.trans s4).trans s5, ?_, fun q hq => ?_, ?_⟩
          · rw [upd_same]
            unfold nrefs
            rw [List.map_append]
          · rcases List.mem_append.mp hq with z | z
            · exact s5 _ _ (s4 _ _ (hZ q z))
            · exact s5 _ _ (hZ4 q z)
          · rw [List.map_append, eZ, eZ4, eZ, subs_take hil, eyi]
    · obtain ⟨f, Z, v2, rfl, s3, hf, hZ, eZ⟩ := q
      rw [hml, List.take_length] at eZ
      have l1 := s3 _ _ hl
      have memS : ∀ p ∈ Z, p.2 ∈ subs ys := fun p hp => by rw [← eZ]; exact List.mem_map.mpr ⟨p, hp, rfl⟩
      have keys : ∀ d ∈ (nrefs Z).map (keyOf ys Z), ∃ a ∈ subs ys, d = keyD ys a := fun d hd => by
        unfold nrefs at hd
        rw [List.map_map] at hd
        obtain ⟨p, hp, rfl⟩ := List.mem_map.mp hd
        exact ⟨p.2, memS p hp, keyOf_at hZ hp⟩
      refine ⟨_, rfl, f, nrefs Z, keyOf ys Z, rfl, SqL.of hf, tabs.ext s3, fun d hd d' hd' => ?_, .inl fun d hd => ?_, fun d hd => ?_, fun i z H' Q' hz e' kq => ?_, fun a H' ha e' t' => ?_⟩
      · obtain ⟨a, ha, rfl⟩ := keys d hd
        obtain ⟨b, hb, rfl⟩ := keys d' hd'
        exact so.alike a ha b hb
      · obtain ⟨a, ha, rfl⟩ := keys d hd
        exact ⟨_, _, rfl⟩
      · obtain ⟨a, ha, rfl⟩ := keys d hd
        have h1 := keyD_depth ys a
        have h2 := hr.un
        show (A.deeper _).units + 1 + 1 + _ < cLine
        omega
      · have hiZ : i < Z.length := by rw [← nrefs_len]; exact (List.getElem?_eq_some_iff.mp hz).1
        unfold nrefs at hz
        rw [List.getElem?_map, List.getElem?_eq_getElem hiZ] at hz
        obtain rfl := (Option.some.inj hz).symm
        have mem : Z[i] ∈ Z := List.getElem_mem hiZ
        obtain ⟨l4, inY⟩ := so.mem _ (memS _ mem)
        have hq : H' Z[i].1 = some (.tup (Z[i].2.map V.str)) := e' _ _ (hZ _ mem) (fun _ z => by cases z)
        have hl' : H' l = some (.lst (ys.map V.str)) := e' _ _ l1 (fun _ z => by cases z)
        have hm : (Z[i].2.map V.str).length = Z[i].2.length := List.length_map ..
        refine ⟨_, rfl, Z[i].1, _, rfl, .inr (SqT.of hq), _, rfl, Z[i].1, rfl, ⟨_, SqT.of hq⟩, fun D hD => ?_⟩
        refine lcT_map (K := K) (a := Z[i].1) (xs := Z[i].2.map V.str) (Z[i].2.map fun y => V.int (ys.idxOf y)) hD (SqT.of hq) (by rw [hm]; omega) (by rw [hm, List.length_map]) (fun j x v H2 Qe hx hv s4 kq2 => ?_) fun H2 s4 e4 => ?_
        · obtain ⟨y, hy, rfl⟩ := strs_at' hx
          rw [List.getElem?_map, hy] at hv
          obtain rfl := Option.some.inj hv
          have my : y ∈ ys := inY y (List.mem_of_getElem? hy)
          have lt := List.idxOf_lt_length_of_mem my
          have ge := List.getElem_idxOf lt
          refine ⟨_, rfl, .inl ⟨rfl, _, SqL.of (s4 _ _ hl')⟩, _, rfl, l, ys.map V.str, .str y, ys.idxOf y, .str y, rfl, rfl, SqL.of (s4 _ _ hl'), rfl, ?_, ?_, ?_, fun n z' hn hz' => ?_, kq2 H2 (Same.refl _)⟩
          · rw [List.all_eq_true]
            intro v hv
            obtain ⟨_, _, rfl⟩ := List.mem_map.mp hv
            rfl
          · rw [List.getElem?_map, List.getElem?_eq_getElem lt, ge] <;> rfl
          · show (y == y) = true
            exact beq_self_eq_true y
          · obtain ⟨y', hy', rfl⟩ := strs_at' hz'
            show (y' == y) = false
            refine beq_eq_false_iff_ne.mpr fun z => ?_
            obtain ⟨hn2, e2⟩ := List.getElem?_eq_some_iff.mp hy'
            have := (List.getElem_inj (h₀ := hn2) (h₁ := lt) ysn).mp (by rw [e2, ge, z])
            omega
        · refine ⟨(by show 2 ≤ sizeLine; decide), fun p hp => ?_⟩
          have s5 : Same H2 _ := same_upd (o := .tup [.int ((Z[i].2.map V.str).length : Int), .ref D]) hp
          refine kq _ _ (s4.trans s5) ?_
          rw [keyOf_at hZ mem]
          unfold keyD
          refine .tup (SqT.of upd_same) (.cons ?_ (.cons (.lst (SqL.of (s5 _ _ e4)) (dp_map _ _)) .nil))
          rw [hm]
          exact .int _
      · have s4 : Same H' _ := same_upd (o := .lst ((nrefs Z).mergeSort (PySem.W.dataLe false (keyOf ys Z)))) ha
        have hZ' := hZ.exn e'
        have mm : ((Z.mergeSort fun p q => PySem.W.dataLe false (keyD ys) p.2 q.2)).map (fun p => V.ref p.1) = (nrefs Z).mergeSort (PySem.W.dataLe false (keyOf ys Z)) :=
          List.map_mergeSort (r := fun p q : Addr × List Str => PySem.W.dataLe false (keyD ys) p.2 q.2) (s := PySem.W.dataLe false (keyOf ys Z)) (f := fun p : Addr × List Str => V.ref p.1) (l := Z) fun p hp q hq => by
            rw [PySem.W.dataLe_eq, PySem.W.dataLe_eq]
            show (!_) = (!_)
            rw [keyOf_at hZ hp, keyOf_at hZ hq]
        have ms : ((Z.mergeSort fun p q => PySem.W.dataLe false (keyD ys) p.2 q.2)).map (fun p => p.2) = (Z.map (fun p => p.2)).mergeSort (PySem.W.dataLe false (keyD ys)) :=
          List.map_mergeSort (r := fun p q : Addr × List Str => PySem.W.dataLe false (keyD ys) p.2 q.2) (s := PySem.W.dataLe false (keyD ys)) (f := fun p : Addr × List Str => p.2) (l := Z) fun p hp q hq => rfl
        refine kk _ a (Z.mergeSort fun p q => PySem.W.dataLe false (keyD ys) p.2 q.2) ((ExtN.of s3).trans (e'.trans (ExtN.of s4))) (t'.ext s4) ?_ (fun p hp => s4 _ _ (hZ' p ((List.mergeSort_perm _ _).mem_iff.mp hp))) ?_
        · rw [upd_same]
          unfold nrefs at mm ⊢
          rw [mm]
        · rw [ms, eZ]
          exact sort_sets so
end
end OP
namespace OP
open PySem PySem.Spec PyProof.Rows L2
/-! ### all orders -/
def ext2 (ys one : List Str) : List (List Str) := (ys.filter fun y => !decide (y ∈ one)).map fun y => one ++ [y]
def ordN (ys : List Str) : Nat → List (List Str)
  | 0 => [[]]
  | i + 1 => (ordN ys i).flatMap (ext2 ys)
theorem ext2_len (ys one : List Str) : (ext2 ys one).length ≤ ys.length := by
  unfold ext2
  rw [List.length_map]
  exact List.length_filter_le _ _
theorem flat_len {α β : Type} {f : α → List β} {m : Nat} (h : ∀ x, (f x).length ≤ m) : ∀ xs : List α, (xs.flatMap f).length ≤ xs.length * m
  | [] => Nat.zero_le _
  | x :: xs => by
    rw [List.flatMap_cons, List.length_append, List.length_cons, Nat.succ_mul]
    have := flat_len h xs
    have := h x
    omega
theorem ordN_len {ys : List Str} (h : ys.length ≤ 4) : ∀ i, (ordN ys i).length ≤ 4 ^ i
  | 0 => Nat.le_refl _
  | i + 1 => by
    have h1 := flat_len (f := ext2 ys) (m := 4) (fun x => Nat.le_trans (ext2_len ys x) h) (ordN ys i)
    have h2 := ordN_len h i
    show ((ordN ys i).flatMap (ext2 ys)).length ≤ 4 ^ (i + 1)
    rw [Nat.pow_succ]
    exact Nat.le_trans h1 (Nat.mul_le_mul_right 4 h2)
theorem pow4 {i : Nat} (h : i ≤ 4) : 4 ^ i ≤ 256 := by
  have all : ∀ i, i ≤ 4 → 4 ^ i ≤ 256 := by decide
  exact all i h
theorem ordN_ok {ys : List Str} : ∀ i, ∀ one ∈ ordN ys i, one.length = i ∧ one.Nodup ∧ ∀ y ∈ one, y ∈ ys
  | 0, one, h => by
    obtain rfl := List.mem_singleton.mp h
    exact ⟨rfl, List.nodup_nil, fun y hy => by cases hy⟩
  | i + 1, one, h => by
    obtain ⟨o, ho, h2⟩ := List.mem_flatMap.mp h
    obtain ⟨l, nd, inn⟩ := ordN_ok i o ho
    obtain ⟨y, hy, rfl⟩ := List.mem_map.mp h2
    obtain ⟨hy1, hy2⟩ := List.mem_filter.mp hy
    have hn : y ∉ o := by simpa using hy2
    refine ⟨by rw [List.length_append, l] <;> rfl, List.nodup_append.mpr ⟨nd, List.nodup_cons.mpr ⟨List.not_mem_nil, List.nodup_nil⟩, fun a ha b hb => ?_⟩, fun z hz => ?_⟩
    · obtain rfl := List.mem_singleton.mp hb
      exact fun e => hn (by rw [← e]; exact ha)
    · rcases List.mem_append.mp hz with q | q
      · exact inn z q
      · obtain rfl := List.mem_singleton.mp q
        exact hy1
theorem nrefs_at {Z : Nts} {i : Nat} {x : V} (h : (nrefs Z)[i]? = some x) : ∃ hi : i < Z.length, x = .ref Z[i].1 := by
  have hi : i < Z.length := by rw [← nrefs_len]; exact (List.getElem?_eq_some_iff.mp h).1
  unfold nrefs at h
  rw [List.getElem?_map, List.getElem?_eq_getElem hi] at h
  exact ⟨hi, (Option.some.inj h).symm⟩
theorem nts_len {Z : Nts} {zs : List (List Str)} (h : Z.map (·.2) = zs) : Z.length = zs.length := by
  rw [← h, List.length_map]
section
variable {P : Program} {w : World} {K : PySem.W.Frag} {mg : Str → Option Value} {base : Heap}
def spOrders (K : PySem.W.Frag) : Sp := fun vs H Q _ => ∃ (a : Addr) (ys : List Str), vs = [.ref a] ∧ H a = some (.tup (ys.map V.str)) ∧ ys.length ≤ 4 ∧
  ∀ (H' : Hp) (r : Addr) (Z : Nts), Same H H' → H' r = some (.lst (nrefs Z)) → NtsAt H' Z → Z.map (·.2) = ordN ys ys.length → Q (.ref r) H'
theorem sc_orders : FnScope ["_law_names_here", "_law_found", "_law_turn", "_law_longer", "_law_one", "_law_name"] ["_law_names_here"] (defScope s__law_orders) := ⟨rfl, rfl, rfl, by decide +kernel, rfl, by decide +kernel, by decide +kernel⟩
theorem ok_orders (T : Txt K mg) : Ok P w K mg base (a__law_orders K) ["_law_names_here"] 1 (spOrders K) := by
  refine ok_of T.f__law_orders sc_orders (fun _ _ _ _ _ _ us hl => match us, hl with | [_], _ => rfl) (fun vs H Q E h => ?_) (fun cdv A outer s0 H vs Q E hr h => ?_)
  · obtain ⟨a, ys, rfl, _⟩ := h
    rfl
  · obtain ⟨a, ys, rfl, ha, h4, kk⟩ := h
    refine ⟨_, (pss_cons (ps_set (i := 1) sc_orders.nd rfl (Or.inl rfl) (pe_lst (pa_cons (pe_tup pa_nil) pa_nil)))
      (pss_cons (ps_for PassesOwn.never rfl (pi_tup (pv 0)) (pg_name (i := 2) sc_orders.nd rfl (Or.inl rfl)) (pss_cons (ps_set (i := 3) sc_orders.nd rfl (Or.inl rfl) (pe_lst pa_nil))
      (pss_cons (ps_for PassesOwn.never rfl (pi_list (pv 1)) (pg_name (i := 4) sc_orders.nd rfl (Or.inr rfl)) (pss_one (ps_set (i := 3) sc_orders.nd rfl (Or.inl rfl) (pe_op op_cat (pv 3) (pe_lc (own := [("_law_name", 5)]) (g := (gName 5)) rfl sc_orders.nd (pi_tup (pv 0)) (blkOk_by (own := [("_law_name", 5)]) (N := ["_law_names_here", "_law_found", "_law_turn", "_law_longer", "_law_one", "_law_name"]) (sc := defScope s__law_orders) (by decide +kernel)) (fun _ _ _ _ _ => (pg_name (i := 5) sc_orders.nd rfl (Or.inl rfl))) (fun _ _ _ _ _ => (pts_one (pt_cmpR (op_notInK K) (pv 5) (pv 4) (by rfl)))) (fun _ _ _ _ _ => (pe_op (op_catAK K) (pv 4) (pe_tup (pa_cons (pv 5) pa_nil)))))))))
      (pss_one (ps_set (i := 1) sc_orders.nd rfl (Or.inl rfl) (pv 3))))))
      (pss_one (ps_ret (pv 1))))), ?_⟩
    have hm : (ys.map V.str).length = ys.length := List.length_map ..
    refine ⟨(by show 0 ≤ sizeLine; exact Nat.zero_le _), fun t ht => ⟨(by show 1 ≤ sizeLine; decide), fun f hf => ?_⟩⟩
    have s1 : Same H _ := same_upd (o := .tup []) ht
    have s2 : Same H _ := s1.push (o := .lst [V.ref t]) hf
    refine ⟨_, rfl, a, rfl, ⟨_, SqT.of (s2 _ _ ha)⟩, for_tup (K := K) (a := a) (xs := ys.map V.str) (fun i σ H' => ∃ (f : Addr) (Z : Nts) (v2 v3 v4 : Option V), σ = [some (.ref a), some (.ref f), v2, v3, v4, none] ∧ Same H H' ∧ H' f = some (.lst (nrefs Z)) ∧ NtsAt H' Z ∧ Z.map (·.2) = ordN ys i)
      ⟨f, [(t, [])], none, none, none, rfl, s2, upd_same, fun p hp => ?_, rfl⟩ (fun i σ H' _ q => ?_) (fun i x σ H1 hx q => ?_) fun σ H1 q => ?_⟩
    · obtain rfl := List.mem_singleton.mp hp
      show upd _ f _ t = _
      rw [upd_ne (ne_of_none upd_same hf)]
      exact upd_same
    · obtain ⟨_, _, _, _, _, _, s3, _⟩ := q
      exact SqT.of (s3 _ _ ha)
    · obtain ⟨f, Z, v2, v3, v4, rfl, s3, hf, hZ, eZ⟩ := q
      have hil : i < ys.length := by rw [← hm]; exact (List.getElem?_eq_some_iff.mp hx).1
      have zl : Z.length ≤ 256 := by
        rw [nts_len eZ]
        exact Nat.le_trans (ordN_len h4 i) (pow4 (by omega))
      refine ⟨(by show 0 ≤ sizeLine; exact Nat.zero_le _), fun g hg => ?_⟩
      have s4 : Same H1 _ := same_upd (o := .lst []) hg
      have g4 : upd H1 g (.lst []) g = some (.lst []) := upd_same
      have f4 := s4 _ _ hf
      have Z4 := hZ.ext s4
      have s34 := s3.trans s4
      generalize upd H1 g (.lst []) = H4 at s4 g4 f4 Z4 s34
      refine ⟨_, rfl, f, rfl, ⟨_, SqL.of f4⟩, for_list (K := K) (a := f) (xs := nrefs Z) (fun j σ H' => ∃ (g : Addr) (Z2 : Nts) (v4 : Option V), σ = [some (.ref a), some (.ref f), some x, some (.ref g), v4, none] ∧ Same H4 H' ∧ H' g = some (.lst (nrefs Z2)) ∧ NtsAt H' Z2 ∧ Z2.map (·.2) = ((Z.map (·.2)).take j).flatMap (ext2 ys))
        ⟨g, [], v4, rfl, Same.refl _, g4, (fun p hp => absurd hp List.not_mem_nil), rfl⟩ (fun j σ H' _ q => ?_) (fun j x2 σ H5 hx2 q => ?_) fun σ H5 q => ?_⟩
      · obtain ⟨_, _, _, _, s5, _⟩ := q
        exact SqL.of (s5 _ _ f4)
      · obtain ⟨g, Z2, v4, rfl, s5, g5, Z5, e5⟩ := q
        obtain ⟨hj, rfl⟩ := nrefs_at hx2
        have mem : Z[j] ∈ Z := List.getElem_mem hj
        have one5 : H5 Z[j].1 = some (.tup (Z[j].2.map V.str)) := s5 _ _ (Z4 _ mem)
        have l4 : Z[j].2.length ≤ 4 := by
          have o := ordN_ok i Z[j].2 (by rw [← eZ]; exact List.mem_map.mpr ⟨Z[j], mem, rfl⟩)
          omega
        have a5 := s5 _ _ (s34 _ _ ha)
        refine ⟨_, rfl, _, rfl, a, rfl, ⟨_, SqT.of a5⟩, fun D hD => ?_⟩
        refine lc_it (walk_tup (K := K) (a := a) (xs := ys.map V.str)) (fun k H' => ∃ Z3 : Nts, Same H5 H' ∧ H' D = some (.lst (nrefs Z3)) ∧ NtsAt H' Z3 ∧ Z3.map (·.2) = ext2 (ys.take k) Z[j].2) ⟨[], same_upd hD, upd_same, (fun p hp => absurd hp List.not_mem_nil), by rw [List.take_zero] <;> rfl⟩ (fun k H' _ q => ?_) (fun k x3 H6 H7 hk q yy => ?_) (fun H6 q => ?_)
        · obtain ⟨_, s6, _⟩ := q
          exact SqT.of (s6 _ _ a5)
        · obtain ⟨Z3, s6, d6, Z6, e6⟩ := q
          obtain ⟨rfl, hx3⟩ := yy
          obtain ⟨y, hy, rfl⟩ := strs_at' hx3
          have one7 := s6 _ _ one5
          have et : ext2 (ys.take (k + 1)) Z[j].2 = ext2 (ys.take k) Z[j].2 ++ if y ∈ Z[j].2 then [] else [Z[j].2 ++ [y]] := by
            unfold ext2
            rw [List.take_add_one, hy, Option.toList_some, List.filter_append, List.map_append]
            congr 1
            by_cases hm : y ∈ Z[j].2
            · rw [if_pos hm, List.filter_cons, decide_eq_true hm] <;> rfl
            · rw [if_neg hm, List.filter_cons, decide_eq_false hm] <;> rfl
          refine ⟨rfl, _, rfl, _, rfl, Z[j].1, Z[j].2.map V.str, rfl, .inr (SqT.of one7), rfl, flat_strs _, _, rfl, ?_⟩
          show if (!inV (.str y) (Z[j].2.map V.str)) = true then _ else _
          rw [inV_strs]
          by_cases hm : y ∈ Z[j].2
          · rw [decide_eq_true hm]
            refine iteF ⟨Z3, s6, d6, Z6, ?_⟩
            rw [et, if_pos hm, List.append_nil]
            exact e6
          · rw [decide_eq_false hm]
            have lz3 : Z3.length ≤ 4 := by
              rw [nts_len e6]
              exact Nat.le_trans (ext2_len _ _) (by rw [List.length_take]; omega)
            have step : ∀ (H8 : Hp) (q : Addr), Same H7 H8 → H8 q = some (.tup ((Z[j].2 ++ [y]).map V.str)) → ∃ acc, H8 D = some (.lst acc) ∧ acc.length < sizeLine ∧ ∃ Z3 : Nts, Same H5 (upd H8 D (.lst (acc ++ [V.ref q]))) ∧ upd H8 D (.lst (acc ++ [V.ref q])) D = some (.lst (nrefs Z3)) ∧ NtsAt (upd H8 D (.lst (acc ++ [V.ref q]))) Z3 ∧ Z3.map (·.2) = ext2 (ys.take (k + 1)) Z[j].2 := fun H8 q s8 hq8 => by
              have e1 := s8 _ _ d6
              refine ⟨_, e1, small1000 (by rw [nrefs_len]; omega), Z3 ++ [(q, Z[j].2 ++ [y])], fun b u e => ?_, ?_, NtsAt.off e1 ((Z6.ext s8).snoc hq8), ?_⟩
              · rw [upd_ne (ne_of_none e hD)]
                exact s8 _ _ (s6 _ _ e)
              · rw [upd_same, nrefs_snoc]
              · rw [List.map_append, e6, et, if_neg hm] <;> rfl
            refine iteT ⟨_, rfl, _, rfl, (by show 1 ≤ sizeLine; decide), fun t2 ht2 => ?_⟩
            have s8 : Same H7 _ := same_upd (o := .tup [V.str y]) ht2
            refine ⟨Z[j].1, t2, Z[j].2.map V.str, [V.str y], rfl, rfl, SqT.of (s8 _ _ one7), SqT.of upd_same, ?_, fun e => ?_, fun _ z => absurd z (List.cons_ne_nil _ _), fun _ _ q hq' => ?_⟩
            · rw [List.length_map, List.length_singleton]
              exact Nat.le_trans (show Z[j].2.length + 1 ≤ 1000 by omega) (by decide)
            · refine step _ t2 s8 ?_
              rw [List.map_append, e] <;> exact upd_same
            · refine step _ q (s8.push hq') ?_
              rw [List.map_append] <;> exact upd_same
        · obtain ⟨Z3, s6, d6, Z6, e6⟩ := q
          rw [hm, List.take_length] at e6
          have lz3 : Z3.length ≤ 4 := by
            rw [nts_len e6]
            exact Nat.le_trans (ext2_len _ _) h4
          have lz2 : Z2.length ≤ 1024 := by
            rw [nts_len e5]
            have h1 := flat_len (f := ext2 ys) (m := 4) (fun x => Nat.le_trans (ext2_len ys x) h4) ((Z.map (·.2)).take j)
            rw [List.length_take, List.length_map] at h1
            omega
          refine ⟨g, D, _, _, rfl, rfl, s6 _ _ g5, d6, ?_, fun p hp => ?_⟩
          · rw [nrefs_len, nrefs_len]
            exact Nat.le_trans (show Z2.length + Z3.length ≤ 1028 by omega) (by decide)
          · have s7 : Same H6 _ := same_upd (o := .lst (nrefs Z2 ++ nrefs Z3)) hp
            refine ⟨p, Z2 ++ Z3, _, rfl, (s5.trans s6).trans s7, ?_, fun q hq => ?_, ?_⟩
            · rw [upd_same]
              unfold nrefs
              rw [List.map_append]
            · rcases List.mem_append.mp hq with z | z
              · exact s7 _ _ (s6 _ _ (Z5 q z))
              · exact s7 _ _ (Z6 q z)
            · have e7 : (Z.map (·.2)).take (j + 1) = (Z.map (·.2)).take j ++ [Z[j].2] := by
                rw [List.take_add_one, List.getElem?_map, List.getElem?_eq_getElem hj] <;> rfl
              rw [List.map_append, e5, e6, e7, List.flatMap_append]
              congr 1
              exact (List.append_nil _).symm
      · obtain ⟨g, Z2, v4, rfl, s5, g5, Z5, e5⟩ := q
        rw [List.take_of_length_le (by rw [nrefs_len, List.length_map]; exact Nat.le_refl _), eZ] at e5
        exact ⟨_, rfl, g, Z2, _, _, _, rfl, s34.trans s5, g5, Z5, e5⟩
    · obtain ⟨f, Z, v2, v3, v4, rfl, s3, hf, hZ, eZ⟩ := q
      rw [hm] at eZ
      exact ⟨_, rfl, kk _ f Z s3 hf hZ eZ⟩
end
end OP
/-! orders that a policy allows, tables of ends -/
namespace OP
open PySem PySem.Spec PyProof.Rows GenW L2
def NoBack (E : Ents) (o : List Str) : Prop := o.Pairwise fun a b => (b, a) ∉ E
def Irr (E : Ents) : Prop := ∀ y, (y, y) ∉ E
theorem PolOk.irr {E : Ents} {ns : List Str} (h : PolOk E ns) : Irr E := fun y hy => (h.mem (y, y) hy).2.2 rfl
theorem without_erase {ys : List Str} (nd : ys.Nodup) (y : Str) : withoutN ys y = ys.erase y := by
  rw [List.Nodup.erase_eq_filter nd]
  unfold withoutN
  refine List.filter_congr fun x _ => ?_
  by_cases h : x = y
  · simp [h]
  · simp [h]
theorem free_mem_iff {E : Ents} {ys : List Str} {y : Str} : y ∈ freeN E ys ↔ y ∈ ys ∧ ∀ o ∈ ys, (o, y) ∉ E := by
  rw [free_iff]
  refine and_congr_right fun _ => forall_congr' fun o => imp_congr_right fun _ => ?_
  unfold bef
  exact decide_eq_false_iff_not
theorem last_mem_iff {E : Ents} {ys : List Str} {y : Str} : y ∈ lastN E ys ↔ y ∈ ys ∧ ∀ o ∈ ys, (y, o) ∉ E := by
  unfold lastN bef
  rw [List.mem_filter]
  simp
theorem without_nodup {ys : List Str} (nd : ys.Nodup) (y : Str) : (withoutN ys y).Nodup := nd.sublist (List.filter_sublist ..)
theorem allow_iff {E : Ents} (irr : Irr E) : ∀ (n : Nat) (ys o : List Str), ys.Nodup → ys.length ≤ n → (o ∈ allowN E n ys ↔ o.Perm ys ∧ NoBack E o)
  | 0, ys, o, nd, hl => by
    obtain rfl : ys = [] := List.eq_nil_of_length_eq_zero (by omega)
    show o ∈ [[]] ↔ _
    rw [List.mem_singleton]
    exact ⟨fun h => by rw [h]; exact ⟨List.Perm.refl _, List.Pairwise.nil⟩, fun h => List.Perm.eq_nil h.1⟩
  | n + 1, ys, o, nd, hl => by
    show o ∈ (if ys = [] then [[]] else (freeN E ys).flatMap fun y => (allowN E n (withoutN ys y)).map (y :: ·)) ↔ _
    by_cases ne : ys = []
    · rw [if_pos ne, ne, List.mem_singleton]
      exact ⟨fun h => by rw [h]; exact ⟨List.Perm.refl _, List.Pairwise.nil⟩, fun h => List.Perm.eq_nil h.1⟩
    · rw [if_neg ne, List.mem_flatMap]
      constructor
      · rintro ⟨y, hy, h2⟩
        obtain ⟨r, hr, rfl⟩ := List.mem_map.mp h2
        obtain ⟨y1, y2⟩ := free_mem_iff.mp hy
        have lt := without_lt y1
        obtain ⟨p, q⟩ := (allow_iff irr n (withoutN ys y) r (without_nodup nd y) (by omega)).mp hr
        have p2 := p
        rw [without_erase nd] at p2
        refine ⟨List.cons_perm_iff_perm_erase.mpr ⟨y1, p2⟩, List.pairwise_cons.mpr ⟨fun b hb => y2 b ?_, q⟩⟩
        exact (without_sub (p.mem_iff.mp hb)).1
      · rintro ⟨p, q⟩
        cases o with
        | nil => exact absurd (List.Perm.nil_eq p).symm ne
        | cons y r =>
          obtain ⟨y1, p2⟩ := List.cons_perm_iff_perm_erase.mp p
          obtain ⟨q1, q2⟩ := List.pairwise_cons.mp q
          have lt := without_lt y1
          rw [← without_erase nd] at p2
          refine ⟨y, free_mem_iff.mpr ⟨y1, fun b hb => ?_⟩, List.mem_map.mpr ⟨r, (allow_iff irr n (withoutN ys y) r (without_nodup nd y) (by omega)).mpr ⟨p2, q2⟩, rfl⟩⟩
          by_cases e : b = y
          · rw [e]; exact irr y
          · exact q1 b (p2.mem_iff.mpr (List.mem_filter.mpr ⟨hb, by simpa using e⟩))
theorem ord_all {ys : List Str} : ∀ (n : Nat) (o : List Str), o.length = n → o.Nodup → (∀ y ∈ o, y ∈ ys) → o ∈ ordN ys n
  | 0, o, hl, _, _ => by
    rw [List.eq_nil_of_length_eq_zero hl]
    exact List.mem_singleton.mpr rfl
  | n + 1, o, hl, nd, sub => by
    have ne : o ≠ [] := fun z => by rw [z] at hl; cases hl
    have e := List.dropLast_concat_getLast ne
    have nd' := nd
    rw [← e] at nd'
    obtain ⟨d1, _, d3⟩ := List.nodup_append.mp nd'
    have ih := ord_all n o.dropLast (by rw [List.length_dropLast]; omega) d1 fun y hy => sub y ((List.dropLast_sublist o).subset hy)
    show o ∈ (ordN ys n).flatMap (ext2 ys)
    refine List.mem_flatMap.mpr ⟨_, ih, ?_⟩
    unfold ext2
    refine List.mem_map.mpr ⟨o.getLast ne, List.mem_filter.mpr ⟨sub _ (List.getLast_mem ne), ?_⟩, e⟩
    have : o.getLast ne ∉ o.dropLast := fun z => d3 _ z _ (List.mem_singleton.mpr rfl) rfl
    simpa using this
theorem perm_of : ∀ {o ys : List Str}, o.Nodup → (∀ y ∈ o, y ∈ ys) → o.length = ys.length → o.Perm ys
  | [], ys, _, _, hl => by rw [List.eq_nil_of_length_eq_zero hl.symm]
  | y :: r, ys, nd, sub, hl => by
    obtain ⟨n1, n2⟩ := List.nodup_cons.mp nd
    have ym := sub y List.mem_cons_self
    refine List.cons_perm_iff_perm_erase.mpr ⟨ym, perm_of n2 (fun z hz => ?_) ?_⟩
    · have zn : z ≠ y := fun e => n1 (e ▸ hz)
      exact (List.mem_erase_of_ne zn).mpr (sub z (List.mem_cons_of_mem _ hz))
    · rw [List.length_erase_of_mem ym]
      rw [List.length_cons] at hl
      omega
theorem ord_iff {ys o : List Str} (nd : ys.Nodup) : o ∈ ordN ys ys.length ↔ o.Perm ys := by
  constructor
  · intro h
    obtain ⟨h1, h2, h3⟩ := ordN_ok _ _ h
    exact perm_of h2 h3 h1
  · intro h
    exact ord_all _ _ h.length_eq (h.nodup_iff.mpr nd) fun y hy => h.mem_iff.mp hy
/-- whether an order is allowed, as the law asks it -/
def allowB (E : Ents) (o : List Str) : Bool := (List.range o.length).all fun i => !((o.take i).any fun e => bef E (o.getD i "") e)
theorem allowB_iff {E : Ents} {o : List Str} : allowB E o = true ↔ NoBack E o := by
  unfold allowB NoBack
  rw [List.all_eq_true, List.pairwise_iff_getElem]
  constructor
  · intro h i j hi hj lt z
    have := h j (List.mem_range.mpr hj)
    rw [Bool.not_eq_true', List.any_eq_false] at this
    refine this o[i] (List.mem_iff_getElem.mpr ⟨i, by rw [List.length_take]; omega, by rw [List.getElem_take]⟩) ?_
    unfold bef
    rw [List.getD_eq_getElem?_getD, List.getElem?_eq_getElem hj]
    exact decide_eq_true z
  · intro h j hj
    have hj := List.mem_range.mp hj
    rw [Bool.not_eq_true', List.any_eq_false]
    intro e he
    obtain ⟨i, hi, rfl⟩ := List.mem_iff_getElem.mp he
    rw [List.length_take] at hi
    rw [List.getElem_take]
    unfold bef
    rw [List.getD_eq_getElem?_getD, List.getElem?_eq_getElem hj]
    intro z
    exact h i j (by omega) hj (by omega) (of_decide_eq_true z)
theorem lines_iff {E : Ents} (irr : Irr E) {ys o : List Str} (nd : ys.Nodup) (h4 : ys.length ≤ 4) : o ∈ (ordN ys ys.length).filter (allowB E) ↔ o ∈ allowN E 4 ys := by
  rw [List.mem_filter, ord_iff nd, allowB_iff, allow_iff irr 4 ys o nd h4]
theorem app_snoc (L : Ncs) (o : List Str) (y : Str) (st : List Int) : appAll L (o ++ [y]) st = (chgOf L y).app (appAll L o st) := by
  unfold appAll
  rw [List.foldl_append] <;> rfl
/-- the last one of an order -/
theorem allow_snoc {E : Ents} (irr : Irr E) {ys o : List Str} {y : Str} (nd : ys.Nodup) (h4 : ys.length ≤ 4) : (o ++ [y]) ∈ allowN E 4 ys ↔ y ∈ lastN E ys ∧ o ∈ allowN E 4 (withoutN ys y) := by
  have l4 : (withoutN ys y).length ≤ 4 := Nat.le_trans (List.length_filter_le _ _) h4
  rw [allow_iff irr 4 _ _ nd h4, allow_iff irr 4 _ _ (without_nodup nd y) l4, last_mem_iff]
  have pp : (o ++ [y]).Perm ys ↔ y ∈ ys ∧ o.Perm (withoutN ys y) := by
    rw [without_erase nd, ← List.cons_perm_iff_perm_erase]
    exact ⟨fun h => (List.perm_append_singleton y o).symm.trans h, fun h => (List.perm_append_singleton y o).trans h⟩
  rw [pp]
  unfold NoBack
  rw [List.pairwise_append]
  constructor
  · rintro ⟨⟨h1, h2⟩, h3, _, h5⟩
    refine ⟨⟨h1, fun b hb => ?_⟩, h2, h3⟩
    by_cases e : b = y
    · rw [e]; exact irr y
    · exact h5 b (h2.mem_iff.mpr (List.mem_filter.mpr ⟨hb, by simpa using e⟩)) y (List.mem_singleton.mpr rfl)
  · rintro ⟨⟨h1, h2⟩, h3, h4⟩
    refine ⟨⟨h1, h3⟩, h4, List.pairwise_singleton _ _, fun a ha b hb => ?_⟩
    rw [List.mem_singleton.mp hb]
    exact h2 a (without_sub (h3.mem_iff.mp ha)).1
theorem allow_nil (E : Ents) : allowN E 4 [] = [[]] := rfl
/-- a table of ends of some allowed orders is right just where all allowed orders end so -/
theorem right_iff {L : Ncs} {E : Ents} {ns : List Str} {xs : List Ent} {st : List Int} (irr : Irr E) (nd : ns.Nodup) (l1 : 2 ≤ ns.length) (l2 : ns.length ≤ 4) (some' : ∀ ys ∈ setsOf ns, allowN E 4 ys ≠ [])
    (hT : ∀ ys ∈ setsOf ns, ∃ o ∈ allowN E 4 ys, valN xs (st, ys) = appAll L o st) : (∀ ys ∈ setsOf ns, rightB L E xs (st, ys) = true) ↔ ∀ ys ∈ setsOf ns, ∀ o ∈ allowN E 4 ys, appAll L o st = valN xs (st, ys) := by
  have sub : ∀ ys ∈ setsOf ns, ys.Nodup ∧ ys.length ≤ 4 := fun ys h => ⟨nd.sublist (sets_sub l1 l2 h), Nat.le_trans (sets_sub l1 l2 h).length_le l2⟩
  constructor
  · intro h
    have key : ∀ (n : Nat) (ys : List Str), ys.length = n → ys ∈ setsOf ns → ∀ o ∈ allowN E 4 ys, appAll L o st = valN xs (st, ys) := by
      intro n
      induction n with
      | zero =>
        intro ys hl hy o ho
        obtain rfl := List.eq_nil_of_length_eq_zero hl
        rw [allow_nil] at ho
        obtain rfl := List.mem_singleton.mp ho
        have := h [] hy
        unfold rightB at this
        rw [if_pos rfl] at this
        exact (of_decide_eq_true this).symm
      | succ n ih =>
        intro ys hl hy o ho
        obtain ⟨ndy, h4⟩ := sub ys hy
        have lo := ((allow_iff irr 4 ys o ndy h4).mp ho).1.length_eq
        have ne : o ≠ [] := fun z => by rw [z, hl] at lo; cases lo
        have e := List.dropLast_concat_getLast ne
        rw [← e] at ho ⊢
        obtain ⟨a1, a2⟩ := (allow_snoc irr ndy h4).mp ho
        have ym := (last_mem_iff.mp a1).1
        have wl : (withoutN ys (o.getLast ne)).length = n := by
          rw [without_erase ndy, List.length_erase_of_mem ym]
          omega
        rw [app_snoc, ih _ wl (without_sets l1 l2 hy _) _ a2]
        have := h ys hy
        unfold rightB at this
        have yne : (st, ys).2 ≠ [] := fun z => by
          have z : ys = [] := z
          rw [z] at hl; cases hl
        rw [if_neg yne, List.all_eq_true] at this
        exact of_decide_eq_true (this _ a1)
    exact fun ys hy => key _ ys rfl hy
  · intro h ys hy
    obtain ⟨ndy, h4⟩ := sub ys hy
    unfold rightB
    by_cases e : (st, ys).2 = []
    · rw [if_pos e]
      have e : ys = [] := e
      subst e
      exact decide_eq_true (h [] hy [] (by rw [allow_nil]; exact List.mem_singleton.mpr rfl)).symm
    · rw [if_neg e, List.all_eq_true]
      intro y hy2
      have wm := without_sets l1 l2 hy y
      obtain ⟨o, ho⟩ := List.exists_mem_of_ne_nil _ (some' _ wm)
      have ho2 := (allow_snoc irr ndy h4).mpr ⟨hy2, ho⟩
      refine decide_eq_true ?_
      show (chgOf L y).app (valN xs (st, withoutN ys y)) = valN xs (st, ys)
      rw [← h _ wm o ho, ← h ys hy _ ho2, app_snoc]
theorem split1_none {L : Ncs} {E : Ents} {q : TK} : split1 L E q = none ↔ ∀ o ∈ allowN E 4 q.2, appAll L o q.1 = appAll L ((allowN E 4 q.2).headD []) q.1 := by
  unfold split1
  cases e : allowN E 4 q.2 with
  | nil => simp
  | cons o0 os =>
    show ((o0 :: os).find? _).map _ = none ↔ _
    rw [Option.map_eq_none_iff, List.find?_eq_none]
    simp
theorem enough_iff {L : Ncs} {E : Ents} {qs : List TK} : (splitM L E qs).isNone = true ↔ ∀ q ∈ qs, ∀ o ∈ allowN E 4 q.2, appAll L o q.1 = appAll L ((allowN E 4 q.2).headD []) q.1 := by
  unfold splitM
  rw [Option.isNone_iff_eq_none, List.findSome?_eq_none_iff]
  exact forall_congr' fun q => imp_congr_right fun _ => split1_none
theorem head_mem {α : Type} {l : List α} {d : α} (h : l ≠ []) : l.headD d ∈ l := by
  cases l with
  | nil => exact absurd rfl h
  | cons x l => exact List.mem_cons_self
/-- the table is right just where the policy is enough -/
theorem table_enough {L : Ncs} {E : Ents} {ns : List Str} {A : List (List Int)} {xs : List Ent} (irr : Irr E) (nd : ns.Nodup) (l1 : 2 ≤ ns.length) (l2 : ns.length ≤ 4) (some' : ∀ ys ∈ setsOf ns, allowN E 4 ys ≠ [])
    (hT : ∀ q ∈ pairsOf A ns, ∃ o ∈ allowN E 4 q.2, valN xs q = appAll L o q.1) : (pairsOf A ns).all (rightB L E xs) = (splitM L E (pairsOf A ns)).isNone := by
  have each : ∀ st ∈ A, (∀ ys ∈ setsOf ns, rightB L E xs (st, ys) = true) ↔ ∀ ys ∈ setsOf ns, ∀ o ∈ allowN E 4 ys, appAll L o st = valN xs (st, ys) := fun st hst => right_iff irr nd l1 l2 some' fun ys hy => hT (st, ys) (mem_pairs.mpr ⟨hst, hy⟩)
  rw [Bool.eq_iff_iff, List.all_eq_true, enough_iff]
  constructor
  · intro h q hq o ho
    obtain ⟨m1, m2⟩ := mem_pairs.mp hq
    have := (each q.1 m1).mp (fun ys hy => h _ (mem_pairs.mpr ⟨m1, hy⟩)) q.2 m2
    rw [this o ho, this _ (head_mem (some' _ m2))]
  · intro h q hq
    obtain ⟨m1, m2⟩ := mem_pairs.mp hq
    refine (each q.1 m1).mpr (fun ys hy o ho => ?_) q.2 m2
    have hq2 : (q.1, ys) ∈ pairsOf A ns := mem_pairs.mpr ⟨m1, hy⟩
    obtain ⟨o2, ho2, e2⟩ := hT _ hq2
    rw [e2, h _ hq2 o ho, h _ hq2 o2 ho2]
theorem ends_same {L : Ncs} {E : Ents} {ns : List Str} {A : List (List Int)} {xs : List Ent} (hn : (splitM L E (pairsOf A ns)).isNone = true) (hT : ∀ q ∈ pairsOf A ns, ∃ o ∈ allowN E 4 q.2, valN xs q = appAll L o q.1) {q : TK} (hq : q ∈ pairsOf A ns) : valN xs q = endM L E q := by
  obtain ⟨o, ho, e⟩ := hT q hq
  rw [e, enough_iff.mp hn q hq o ho]
  rfl
end OP
namespace OP
open PySem PySem.Spec PyProof.Rows GenW L2
/-! ### pairs that all go forward in one order have no cycle -/
theorem fwd_free {E : Ents} : ∀ (ord zs : List Str), ord.Nodup → (∀ z ∈ zs, z ∈ ord) → (∀ a ∈ zs, ∀ b ∈ zs, (a, b) ∈ E → [a, b].Sublist ord) → zs ≠ [] → freeN E zs ≠ []
  | [], zs, _, sub, _, ne => by
    obtain ⟨z, hz⟩ := List.exists_mem_of_ne_nil _ ne
    cases sub z hz
  | x :: r, zs, nd, sub, fw, ne => by
    obtain ⟨n1, n2⟩ := List.nodup_cons.mp nd
    by_cases hx : x ∈ zs
    · have : x ∈ freeN E zs := free_mem_iff.mpr ⟨hx, fun o ho z => by
        have h := fw o ho x hx z
        cases h with
        | cons _ h => exact n1 (h.subset (List.mem_cons_of_mem _ List.mem_cons_self))
        | cons_cons _ h => exact n1 (h.subset List.mem_cons_self)⟩
      exact fun z => by rw [z] at this; cases this
    · refine fwd_free r zs n2 (fun z hz => ?_) (fun a ha b hb hab => ?_) ne
      · rcases List.mem_cons.mp (sub z hz) with e | h
        · rw [e] at hz; exact absurd hz hx
        · exact h
      · have h := fw a ha b hb hab
        cases h with
        | cons _ h => exact h
        | cons_cons _ h => exact absurd ha hx
theorem cyc_fwd {E : Ents} {ord : List Str} (nd : ord.Nodup) (fw : ∀ a b, (a, b) ∈ E → [a, b].Sublist ord) : ∀ (n : Nat) (zs : List Str), (∀ z ∈ zs, z ∈ ord) → cyc E n zs = false
  | 0, _, _ => rfl
  | n + 1, zs, sub => by
    show (if zs = [] then false else if freeN E zs = [] then true else cyc E n (zs.filter fun y => !decide (y ∈ freeN E zs))) = false
    by_cases ne : zs = []
    · rw [if_pos ne]
    · rw [if_neg ne, if_neg (fwd_free ord zs nd sub (fun a _ b _ h => fw a b h) ne)]
      exact cyc_fwd nd fw n _ fun z hz => sub z (List.mem_filter.mp hz).1
theorem put_pol (E : Ents) (a b : Str) : ∃ E', putK (pol E) [Sum.inr a, Sum.inr b] (V.bl true) = pol E' ∧ (∀ e ∈ E', e ∈ E ∨ e = (a, b)) ∧ E'.length ≤ E.length + 1 := by
  by_cases h : (a, b) ∈ E
  · refine ⟨E, ?_, fun e he => .inl he, Nat.le_succ _⟩
    unfold putK
    rw [valV_any, pol_some, decide_eq_true h, if_pos rfl]
    have : ∀ p ∈ pol E, (if p.1 = [Sum.inr a, Sum.inr b] then (p.1, V.bl true) else p) = p := fun p hp => by
      unfold pol at hp
      obtain ⟨e, _, rfl⟩ := List.mem_map.mp hp
      split <;> rfl
    rw [List.map_congr_left this, List.map_id']
  · refine ⟨E ++ [(a, b)], ?_, fun e he => ?_, by rw [List.length_append]; exact Nat.le_refl _⟩
    · have hn : valV (pol E) [Sum.inr a, Sum.inr b] = none := by rw [pol_val, if_neg h]
      rw [putK_new _ hn]
      unfold pol
      rw [List.map_append] <;> rfl
    · rcases List.mem_append.mp he with z | z
      · exact .inl z
      · exact .inr (List.mem_singleton.mp z)
theorem move_perm {ord : List Str} {j i : Nat} (hj : j < ord.length) : ((ord.eraseIdx j).take i ++ [ord[j]] ++ (ord.eraseIdx j).drop i).Perm ord := by
  have h1 : ((ord.eraseIdx j).take i ++ [ord[j]] ++ (ord.eraseIdx j).drop i).Perm (ord[j] :: ord.eraseIdx j) := by
    have h2 : ((ord.eraseIdx j).take i ++ [ord[j]] ++ (ord.eraseIdx j).drop i) = (ord.eraseIdx j).take i ++ ord[j] :: (ord.eraseIdx j).drop i := by rw [List.append_assoc] <;> rfl
    rw [h2]
    refine List.perm_middle.trans ?_
    rw [List.take_append_drop]
  refine h1.trans ?_
  rw [List.eraseIdx_eq_take_drop_succ]
  refine List.perm_middle.symm.trans ?_
  rw [List.getElem_cons_drop, List.take_append_drop]
theorem erase_map {α β : Type} (f : α → β) (l : List α) (j : Nat) : (l.eraseIdx j).map f = (l.map f).eraseIdx j := by
  rw [List.eraseIdx_eq_take_drop_succ, List.eraseIdx_eq_take_drop_succ, List.map_append, List.map_take, List.map_drop]
theorem cut_strs {xs : List Str} {i : Nat} (h : i ≤ xs.length) : cutV (xs.map V.str) (some (i : Int)) none = (xs.drop i).map V.str := by
  unfold cutV
  rw [HT.sIx_none, HT.sIx_nat, List.length_map, Nat.min_eq_left h, List.map_drop, List.take_of_length_le]
  rw [List.length_drop, List.length_map]
  omega
theorem cut_los {xs : List Str} {i : Nat} (h : i < xs.length) : cutV (xs.map V.str) none (some (i : Int)) = (xs.take i).map V.str := by
  unfold cutV
  rw [HT.sIx_none, HT.sIx_nat, List.length_map, List.drop_zero, Nat.sub_zero, List.map_take, Nat.min_eq_left (Nat.le_of_lt h)]
theorem sub_pair {ord : List Str} {i j : Nat} (hi : i < ord.length) (hj : j < ord.length) (lt : i < j) : [ord[i], ord[j]].Sublist ord := by
  have e : ord = ord.take j ++ ord[j] :: ord.drop (j + 1) := by
    rw [List.getElem_cons_drop, List.take_append_drop]
  have s1 : [ord[i]].Sublist (ord.take j) := List.singleton_sublist.mpr (List.mem_iff_getElem.mpr ⟨i, by rw [List.length_take]; omega, by rw [List.getElem_take]⟩)
  have s2 : [ord[j]].Sublist (ord[j] :: ord.drop (j + 1)) := List.Sublist.cons_cons _ (List.nil_sublist _)
  have := s1.append s2
  rw [← e] at this
  exact this
section
variable {P : Program} {w : PySem.World} {K : PySem.W.Frag} {mg : Str → Option Value} {base : Heap}
def spAllowed (K : PySem.W.Frag) : Sp := fun vs H Q _ => ∃ (d a : Addr) (E : Ents) (ys : List Str), vs = [.ref d, .ref a] ∧ PolAt H d E ∧ H a = some (.tup (ys.map V.str)) ∧ ys.length ≤ 4 ∧ ∀ H', Same H H' → Q (.bl (allowB E ys)) H'
theorem sc_allowed : FnScope ["_law_policy", "_law_order", "_law_at", "_law_later", "_law_earlier"] ["_law_policy", "_law_order"] (defScope s__law_allowed) := ⟨rfl, rfl, rfl, by decide +kernel, rfl, by decide +kernel, by decide +kernel⟩
theorem ok_allowed (T : Txt K mg) : Ok P w K mg base (a__law_allowed K) ["_law_policy", "_law_order"] 1 (spAllowed K) := by
  refine ok_of T.f__law_allowed sc_allowed (fun _ _ _ _ _ _ us hl => match us, hl with | [_, _], _ => rfl) (fun vs H Q E h => ?_) (fun cdv A outer s H vs Q E hr h => ?_)
  · obtain ⟨d, a, E', ys, rfl, _⟩ := h
    rfl
  · obtain ⟨d, a, E', ys, rfl, hd, ha, h4, kk⟩ := h
    refine ⟨_, (pss_cons (ps_for PassesOwn.never rfl (pi_enumT (by rfl) T.z_enumerate (pa_cons (pv 1) pa_nil)) (pg_tup rfl (pgs_cons (pg_name (i := 2) sc_allowed.nd rfl (Or.inl rfl)) (pgs_cons (pg_name (i := 3) sc_allowed.nd rfl (Or.inr rfl)) pgs_nil))) (pss_one (ps_if (pt_val (pe_callB (cr_any rfl) (by rfl) T.z_any (by decide +kernel) (pa_cons (pe_lc (own := [("_law_earlier", 4)]) (g := (gName 4)) (tt := tYes) rfl sc_allowed.nd (pi_tup (pe_slice sl_tupA (pv 1) po_none (po_some (pv 2)))) (blkOk_by (own := [("_law_earlier", 4)]) (N := ["_law_policy", "_law_order", "_law_at", "_law_later", "_law_earlier"]) (sc := defScope s__law_allowed) (by decide +kernel)) (fun _ _ _ _ _ => (pg_name (i := 4) sc_allowed.nd rfl (Or.inl rfl))) (fun _ _ _ _ _ => pts_nil) (fun _ _ _ _ _ => (pe_cmp (pc_din (hu_of hr) (pe_tup (pa_cons (pv 3) (pa_cons (pv 4) pa_nil))) (pv 0)) rfl))) pa_nil))) (pss_one (ps_ret pe_bl)) pss_nil)))
      (pss_one (ps_ret pe_bl))), ?_⟩
    have hm : (ys.map V.str).length = ys.length := List.length_map ..
    refine ⟨_, rfl, a, _, rfl, SqT.of ha, for_it (walk_enumT (K := K) (a := a) (xs := ys.map V.str)) (fun i σ H' => ∃ v2 v3, σ = [some (.ref d), some (.ref a), v2, v3, none] ∧ Same H H' ∧ ∀ j, j < i → ((ys.take j).any fun e => bef E' (ys.getD j "") e) = false)
      ⟨none, none, rfl, Same.refl _, fun j hj => absurd hj (Nat.not_lt_zero _)⟩ (fun i σ H' _ q => ?_) (fun i x σ H1 H2 hi q y => ?_) fun σ H1 q => ?_⟩
    · obtain ⟨_, _, _, s3, _⟩ := q
      exact SqT.of (s3 _ _ ha)
    · obtain ⟨v2, v3, rfl, s3, al⟩ := q
      obtain ⟨t, x1, x2, rfl, ht, rfl, e1, e2⟩ := y
      obtain rfl := (Option.some.inj e1).symm
      obtain ⟨y, hy, rfl⟩ := strs_at' e2
      have hil : i < ys.length := (List.getElem?_eq_some_iff.mp hy).1
      have s4 : Same H1 _ := same_upd (o := .tup [.int (i : Nat), .str y]) ht
      have s34 := s3.trans s4
      refine ⟨t, _, rfl, SqT.of upd_same, rfl, _, _, rfl, _, _, rfl, rfl, ?_⟩
      generalize upd H1 t (.tup [.int (i : Nat), .str y]) = H3 at s4 s34
      refine ⟨_, rfl, _, rfl, i, rfl, a, _, rfl, SqT.of (s34 _ _ ha), (fun z => ?_), fun _ p hp => ?_⟩
      · rw [HT.sIx_nat, hm, Nat.min_eq_left (Nat.le_of_lt hil)] at z
        omega
      · have s5 : Same H3 _ := same_upd (o := .tup (cutV (ys.map V.str) none (some ((i : Nat) : Int)))) hp
        have p5 : upd H3 p (.tup (cutV (ys.map V.str) none (some ((i : Nat) : Int)))) p = some (.tup ((ys.take i).map V.str)) := by rw [upd_same, cut_los hil]
        have s35 := s34.trans s5
        generalize upd H3 p (.tup (cutV (ys.map V.str) none (some ((i : Nat) : Int)))) = H5 at s5 p5 s35
        refine ⟨p, rfl, ⟨_, SqT.of p5⟩, fun D2 hD2 => ?_⟩
        have hmt : ((ys.take i).map V.str).length = (ys.take i).length := List.length_map ..
        have ht4 : (ys.take i).length ≤ 4 := by rw [List.length_take]; omega
        refine lcT_map (K := K) (a := p) (xs := (ys.take i).map V.str) ((ys.take i).map fun o => V.bl (bef E' y o)) hD2 (SqT.of p5) (by rw [hmt]; omega) (by rw [hmt, List.length_map]) (fun j x2 v H6 Qe hx2 hv s6 kq => ?_) fun H6 s6 e6 => ?_
        · obtain ⟨o, ho, rfl⟩ := strs_at' hx2
          rw [List.getElem?_map, ho] at hv
          obtain rfl := Option.some.inj hv
          refine ⟨_, rfl, _, rfl, (by show 2 ≤ sizeLine; decide), fun q hq => ?_⟩
          have s7 : Same H6 _ := same_upd (o := .tup [V.str y, V.str o]) hq
          refine ⟨_, rfl, d, _, rfl, (((hd.ext s35).ext s6).ext s7).get upd_same, ?_⟩
          rw [pol_some]
          exact kq _ s7
        · refine ⟨D2, (ys.take i).map fun o => bef E' y o, rfl, ?_, _, rfl, ?_⟩
          · rw [List.map_map]
            exact SqL.of e6
          have ea : ((ys.take i).map fun o => bef E' y o).any id = (ys.take i).any fun o => bef E' y o := by rw [List.any_map] <;> rfl
          have gd : ys.getD i "" = y := by rw [List.getD_eq_getElem?_getD, hy] <;> rfl
          rw [ea]
          cases hb : (ys.take i).any fun o => bef E' y o with
          | true =>
            refine iteT ?_
            have := kk _ (s35.trans s6)
            have fb : allowB E' ys = false := by
              unfold allowB
              rw [List.all_eq_false]
              exact ⟨i, List.mem_range.mpr hil, by rw [gd, hb]; decide⟩
            rw [fb] at this
            exact this
          | false =>
            refine iteF ⟨_, _, rfl, s35.trans s6, fun j hj => ?_⟩
            by_cases e : j = i
            · rw [e, gd]; exact hb
            · exact al j (by omega)
    · obtain ⟨v2, v3, rfl, s3, al⟩ := q
      rw [hm] at al
      have := kk _ s3
      have tb : allowB E' ys = true := by
        unfold allowB
        rw [List.all_eq_true]
        intro j hj
        rw [al j (List.mem_range.mp hj)] <;> rfl
      rw [tb] at this
      exact this
def spDPol (K : PySem.W.Frag) : Sp := fun vs H Q _ => ∃ (D l : Addr) (ns : List Str), vs = [.ref D, .ref l] ∧ StD D H ∧ H l = some (.lst (ns.map V.str)) ∧ ns.Nodup ∧ 2 ≤ ns.length ∧ ns.length ≤ 4 ∧
  ∀ (H' : Hp) (r : Addr) (E : Ents), Kd D H H' → H r = none → H' r = some (.dT (pol E)) → PolOk E ns → Q (.ref r) H'
abbrev dpNames : List Str := ["_law_draws", "_law_names_here", "_law_order", "_law_found", "_law_turn", "_law_at", "_law_one", "_law_other"]
theorem sc_dpol : FnScope dpNames ["_law_draws", "_law_names_here"] (defScope s__law_drawn_policy) := ⟨rfl, rfl, rfl, by decide +kernel, rfl, by decide +kernel, by decide +kernel⟩
theorem ok_dpol (T : Txt K mg) : Ok P w K mg base (a__law_drawn_policy K) ["_law_draws", "_law_names_here"] 2 (spDPol K) := by
  have GT : Ok P w K mg base (a__law_take K) _ 1 spTake := ok_take T
  refine ok_of T.f__law_drawn_policy sc_dpol (fun _ _ _ _ _ _ us hl => match us, hl with | [_, _], _ => rfl) (fun vs H Q E h => ?_) (fun cdv A outer s H vs Q E hr h => ?_)
  · obtain ⟨D, l, ns, rfl, _⟩ := h
    rfl
  · obtain ⟨D, l, ns, rfl, hD, hl, nd, l1, l2, kk⟩ := h
    refine ⟨_, (pss_cons (ps_par rfl sc_dpol.nd (i := 2) (j := 3) rfl rfl (by decide) rfl rfl (pa_cons (pe_callTy call_list_of (by rfl) T.z_list (by decide +kernel) (pa_cons (pv 1) pa_nil)) (pa_cons pe_dnewT pa_nil)) (by rfl))
      (pss_cons (ps_for PassesOwn.never rfl (pi_range1 (by rfl) T.z_range (pa_cons pe_int pa_nil)) (pg_name (i := 4) sc_dpol.nd rfl (Or.inl rfl)) (pss_one (ps_expr (pe_bm PySem.F.plainAttrs_list PySem.F.slot_list_insert PySem.F.type_list_insert mt_insert (pv 2) (pa_cons (pe_c GT hr T.g__law_take (pa_cons (pv 0) (pa_cons (pe_callB call_len_seq (by rfl) T.z_len PySem.boot_len (pa_cons (pv 2) pa_nil)) pa_nil))) (pa_cons (pe_bm PySem.F.plainAttrs_list PySem.F.slot_list_pop PySem.F.type_list_pop mt_popAt (pv 2) (pa_cons (pe_c GT hr T.g__law_take (pa_cons (pv 0) (pa_cons (pe_callB call_len_seq (by rfl) T.z_len PySem.boot_len (pa_cons (pv 2) pa_nil)) pa_nil))) pa_nil)) pa_nil))))))
      (pss_cons (ps_for PassesOwn.never rfl (pi_enum (by rfl) T.z_enumerate (pa_cons (pv 2) pa_nil)) (pg_tup rfl (pgs_cons (pg_name (i := 5) sc_dpol.nd rfl (Or.inl rfl)) (pgs_cons (pg_name (i := 6) sc_dpol.nd rfl (Or.inl rfl)) pgs_nil))) (pss_one (ps_for PassesOwn.never rfl (pi_list (pe_slice sl_list (pv 2) (po_some (pe_op op_add (pv 5) pe_int)) po_none)) (pg_name (i := 7) sc_dpol.nd rfl (Or.inl rfl)) (pss_one (ps_if (pt_cmpR op_eq (pe_c GT hr T.g__law_take (pa_cons (pv 0) (pa_cons pe_int pa_nil))) pe_int (nomark _)) (pss_one (ps_dput (hu_of hr) (pv 3) (pe_tup (pa_cons (pv 6) (pa_cons (pv 7) pa_nil))) pe_bl rfl)) pss_nil)))))
      (pss_one (ps_ret (pv 3)))))), ?_⟩
    refine ⟨_, rfl, l, _, rfl, .inl (SqL.of hl), fun lo hlo => ?_⟩
    intro f hf
    have s1 : Same H _ := same_upd (o := .lst (ns.map V.str)) hlo
    have s2 : Same H _ := s1.push (o := .dT []) hf
    have fN : H f = none := by
      cases q : H f with
      | none => rfl
      | some u => rw [s1 _ _ q] at hf; cases hf
    have loD : lo ≠ D := hD.new hlo
    have fD : f ≠ D := hD.new fN
    have lof : lo ≠ f := fun z => by rw [← z, upd_same] at hf; cases hf
    have e1 : upd (upd H lo (.lst (ns.map V.str))) f (.dT []) lo = some (.lst (ns.map V.str)) := by rw [upd_ne lof, upd_same]
    have e2 : upd (upd H lo (.lst (ns.map V.str))) f (.dT []) f = some (.dT (pol [])) := upd_same
    have k2 := Kd.of hD s2
    generalize upd (upd H lo (.lst (ns.map V.str))) f (.dT []) = H2 at e1 e2 k2
    refine ⟨_, _, rfl, ?_⟩
    refine ⟨3, rfl, by decide, by decide, ?_⟩
    refine for_range (fun i σ H' => ∃ (ord : List Str) (v4 : Option V), σ = [some (.ref D), some (.ref l), some (.ref lo), some (.ref f), v4, none, none, none] ∧ Kd D H H' ∧ H' lo = some (.lst (ord.map V.str)) ∧ H' f = some (.dT (pol [])) ∧ ord.Perm ns)
      ⟨ns, none, rfl, k2, e1, e2, List.Perm.refl _⟩ (fun i σ H3 hi q => ?_) fun σ H3 q => ?_
    · obtain ⟨ord, v4, rfl, k3, o3, f3, pm⟩ := q
      have le := pm.length_eq
      have lm : (ord.map V.str).length = ord.length := List.length_map ..
      refine ⟨_, rfl, .inl ⟨rfl, _, SqL.of o3⟩, _, rfl, _, rfl, lo, _, rfl, .inl (SqL.of o3), D, _, rfl, by rw [lm]; omega, k3.b, fun H4 k4 v1 a1 b1 => ?_⟩
      have o4 := k4.k _ _ loD o3
      refine ⟨_, rfl, .inl ⟨rfl, _, SqL.of o4⟩, _, rfl, _, rfl, lo, _, rfl, .inl (SqL.of o4), D, _, rfl, by rw [lm]; omega, k4.b, fun H5 k5 v2 a2 b2 => ?_⟩
      have o5 := k5.k _ _ loD o4
      have f5 := k5.k _ _ fD (k4.k _ _ fD f3)
      rw [lm] at b1 b2
      obtain ⟨j, rfl⟩ : ∃ j : Nat, v2 = (j : Int) := ⟨v2.toNat, by omega⟩
      obtain ⟨i1, rfl⟩ : ∃ j : Nat, v1 = (j : Int) := ⟨v1.toNat, by omega⟩
      have hj : j < ord.length := by omega
      have six : seqIndex? (j : Int) (ord.map V.str).length = some j := by
        unfold seqIndex?
        rw [lm]
        simp
        omega
      refine ⟨lo, _, (j : Int), j, .str ord[j], rfl, rfl, o5, by omega, by omega, six, by rw [List.getElem?_map, List.getElem?_eq_getElem hj] <;> rfl, ?_⟩
      have le2 : ((ord.map V.str).eraseIdx j).length < sizeLine := Nat.lt_of_le_of_lt (List.length_eraseIdx_le ..) (Nat.lt_of_le_of_lt (by rw [lm]; omega : (ord.map V.str).length ≤ 4) (by decide))
      refine ⟨lo, _, (i1 : Int), _, rfl, rfl, upd_same, le2, by omega, by omega, ?_⟩
      refine ⟨(ord.eraseIdx j).take i1 ++ [ord[j]] ++ (ord.eraseIdx j).drop i1, _, rfl, ?_, ?_, ?_, (move_perm hj).trans pm⟩
      · exact (((k3.trans k4).trans k5).upd hlo loD).upd hlo loD
      · rw [upd_same, Int.toNat_natCast, List.map_append, List.map_append, List.map_take, List.map_drop, erase_map] <;> rfl
      · rw [upd_ne (Ne.symm lof), upd_ne (Ne.symm lof)]
        exact f5
    · obtain ⟨ord, v4, rfl, k3, o3, f3, pm⟩ := q
      have le := pm.length_eq
      have ndo : ord.Nodup := pm.nodup_iff.mpr nd
      have lm : (ord.map V.str).length = ord.length := List.length_map ..
      refine ⟨_, rfl, lo, _, rfl, SqL.of o3, for_it (walk_enum (K := K) (a := lo) (xs := ord.map V.str)) (fun i σ H' => ∃ (E : Ents) (v4 v5 v6 v7 : Option V), σ = [some (.ref D), some (.ref l), some (.ref lo), some (.ref f), v4, v5, v6, v7] ∧ Kd D H H' ∧ H' lo = some (.lst (ord.map V.str)) ∧ H' f = some (.dT (pol E)) ∧ (∀ a b, (a, b) ∈ E → [a, b].Sublist ord) ∧ E.length ≤ 3 * i)
        ⟨[], _, none, none, none, rfl, k3, o3, f3, (fun a b h => by cases h), Nat.le_refl _⟩ (fun i σ H' _ q => ?_) (fun i x σ H4 H4' hi q y => ?_) fun σ H4 q => ?_⟩
      · obtain ⟨_, _, _, _, _, _, _, z, _⟩ := q
        exact SqL.of z
      · obtain ⟨E', v4, v5, v6, v7, rfl, k4, o4, f4, fw, few⟩ := q
        obtain ⟨t, x1, x2, rfl, ht, rfl, e1, e2⟩ := y
        obtain rfl := (Option.some.inj e1).symm
        obtain ⟨y, hy, rfl⟩ := strs_at' e2
        obtain ⟨hil, ey⟩ := List.getElem?_eq_some_iff.mp hy
        have s4 : Same H4 _ := same_upd (o := .tup [.int (i : Nat), .str y]) ht
        refine ⟨t, _, rfl, SqT.of upd_same, rfl, _, _, rfl, _, _, rfl, rfl, ?_⟩
        have k5 := k4.same s4
        have o5 := s4 _ _ o4
        have f5 := s4 _ _ f4
        generalize upd H4 t (.tup [.int (i : Nat), .str y]) = H5 at s4 k5 o5 f5
        refine ⟨_, rfl, _, rfl, _, _, rfl, rfl, _, rfl, lo, _, rfl, SqL.of o5, fun p hp => ?_⟩
        have cut : cutV (ord.map V.str) (some ((i : Int) + 1)) none = (ord.drop (i + 1)).map V.str := by
          rw [show ((i : Int) + 1) = ((i + 1 : Nat) : Int) from rfl, cut_strs (by omega)]
        have s6 : Same H5 _ := same_upd (o := .lst (cutV (ord.map V.str) (some ((i : Int) + 1)) none)) hp
        have p6 : upd H5 p (.lst (cutV (ord.map V.str) (some ((i : Int) + 1)) none)) p = some (.lst ((ord.drop (i + 1)).map V.str)) := by rw [upd_same, cut]
        have k6 := k5.same s6
        have o6 := s6 _ _ o5
        have f6 := s6 _ _ f5
        have pD : p ≠ D := k5.b.new hp
        have pf : p ≠ f := fun z => by rw [z, f5] at hp; cases hp
        generalize upd H5 p (.lst (cutV (ord.map V.str) (some ((i : Int) + 1)) none)) = H6 at s6 p6 k6 o6 f6
        have ld : (ord.drop (i + 1)).length ≤ 3 := by rw [List.length_drop]; omega
        have lmd : ((ord.drop (i + 1)).map V.str).length = (ord.drop (i + 1)).length := List.length_map ..
        refine ⟨p, rfl, ⟨_, SqL.of p6⟩, for_it (walk_list (K := K) (a := p) (xs := (ord.drop (i + 1)).map V.str)) (fun c σ H' => ∃ (E : Ents) (v7 : Option V), σ = [some (.ref D), some (.ref l), some (.ref lo), some (.ref f), v4, some (.int (i : Nat)), some (.str y), v7] ∧ Kd D H H' ∧ H' lo = some (.lst (ord.map V.str)) ∧ H' p = some (.lst ((ord.drop (i + 1)).map V.str)) ∧ H' f = some (.dT (pol E)) ∧ (∀ a b, (a, b) ∈ E → [a, b].Sublist ord) ∧ E.length ≤ 3 * i + c)
          ⟨E', _, rfl, k6, o6, p6, f6, fw, by omega⟩ (fun c σ H' _ q => ?_) (fun c x σ H7 H7' hc q yy => ?_) fun σ H7 q => ?_⟩
        · obtain ⟨_, _, _, _, _, z, _⟩ := q
          exact SqL.of z
        · obtain ⟨E2, v7, rfl, k7, o7, p7, f7, fw2, few2⟩ := q
          obtain ⟨rfl, hx⟩ := yy
          obtain ⟨o, ho, rfl⟩ := strs_at' hx
          rw [List.getElem?_drop] at ho
          obtain ⟨hol, eo⟩ := List.getElem?_eq_some_iff.mp ho
          refine ⟨_, rfl, D, 2, rfl, by decide, k7.b, fun H8 k8 v8 a8 b8 => ⟨rfl, _, rfl, ?_⟩⟩
          have o8 := k8.k _ _ loD o7
          have p8 := k8.k _ _ pD p7
          have f8 := k8.k _ _ fD f7
          by_cases c0 : v8 = 0
          · have de : decide (V.int v8 = V.int 0) = true := decide_eq_true (by rw [c0])
            rw [de]
            refine iteT ⟨_, rfl, _, rfl, _, rfl, (by show 2 ≤ sizeLine; decide), fun q hq => ?_⟩
            have s9 : Same H8 _ := same_upd (o := .tup [.str y, .str o]) hq
            have l12 : (pol E2).length < sizeLine := by
              rw [pol_len]
              exact Nat.lt_of_le_of_lt (show E2.length ≤ 1000 by omega) (by decide)
            obtain ⟨E3, eE, mE, lE⟩ := put_pol E2 y o
            refine ⟨f, _, rfl, DPut.t (k := [Sum.inr y, Sum.inr o]) (s9 _ _ f8) upd_same l12, ?_⟩
            rw [eE]
            have fp : ∀ {b u}, H8 b = some u → b ≠ f → upd (upd H8 q (.tup [.str y, .str o])) f (.dT (pol E3)) b = some u := fun {b u} h n => by
              rw [upd_ne n]; exact s9 _ _ h
            refine ⟨E3, _, rfl, ((k7.trans k8).same s9).upd fN fD, fp o8 lof, fp p8 pf, upd_same, fun a b hab => ?_, by omega⟩
            rcases mE _ hab with z | z
            · exact fw2 a b z
            · injection z with z1 z2
              rw [z1, z2, ← ey, ← eo]
              exact sub_pair hil hol (by omega)
          · have de : decide (V.int v8 = V.int 0) = false := decide_eq_false (fun z => c0 (V.int.inj z))
            rw [de]
            exact iteF ⟨E2, _, rfl, k7.trans k8, o8, p8, f8, fw2, by omega⟩
        · obtain ⟨E2, v7, rfl, k7, o7, p7, f7, fw2, few2⟩ := q
          exact ⟨E2, _, _, _, _, rfl, k7, o7, f7, fw2, by rw [lmd] at few2; omega⟩
      · obtain ⟨E', v4, v5, v6, v7, rfl, k4, o4, f4, fw, few⟩ := q
        rw [lm] at few
        refine ⟨_, rfl, kk _ f E' k4 fN f4 ⟨fun e he => ?_, cyc_fwd ndo fw 4 ns fun z hz => pm.mem_iff.mpr hz, by omega⟩⟩
        have sb := fw e.1 e.2 he
        have m1 : e.1 ∈ ord := sb.subset List.mem_cons_self
        have m2 : e.2 ∈ ord := sb.subset (List.mem_cons_of_mem _ List.mem_cons_self)
        refine ⟨pm.mem_iff.mp m1, pm.mem_iff.mp m2, ?_⟩
        have n2 := ndo.sublist sb
        exact fun z => (List.nodup_cons.mp n2).1 (by rw [z]; exact List.mem_cons_self)
end
end OP
namespace OP
open PySem PySem.Spec PyProof.Rows L2
/-! ### rows as data -/
def oneD (o : One) : PyData := .tuple [.str o.k.word, .int o.s, .int o.v]
def rowD : Chg → PyData
  | .one o => oneD o
  | .iff s v o => .tuple [.str "if", .int s, .int v, oneD o]
theorem word_ok (k : Kind) : PyData.strOk k.word = true := by cases k <;> decide +kernel
theorem if_ok : PyData.strOk "if" = true := by decide +kernel
theorem word_inj {k k' : Kind} (h : k.word = k'.word) : k = k' := by
  have all : ∀ k k' : Kind, k.word = k'.word → k = k' := by
    intro k k'
    cases k <;> cases k' <;> decide +kernel
  exact all k k' h
theorem word_if (k : Kind) : k.word ≠ "if" := by cases k <;> decide +kernel
theorem lay_one (o : One) : (oneD o).canLay0 = true := by
  unfold oneD
  simp only [PyData.canLay0, PyData.canLayAll0, word_ok, Bool.and_self]
theorem dep_one (o : One) : (oneD o).depth = 1 := by
  unfold oneD
  simp only [PyData.depth, PyData.depthAll, Nat.max_self]
theorem shp_row (c : Chg) : SeqAt.shaped (rowD c) = true := by
  cases c with
  | one o => exact shp (lay_one o) (by rw [show (rowD (.one o)).depth = 1 from dep_one o]; decide)
  | iff s v o =>
    refine shp ?_ ?_
    · show PyData.canLay0 (.tuple [.str "if", .int s, .int v, oneD o]) = true
      simp only [PyData.canLay0, PyData.canLayAll0, if_ok, lay_one, Bool.and_self]
    · show PyData.depth (.tuple [.str "if", .int s, .int v, oneD o]) ≤ 64
      simp only [PyData.depth, PyData.depthAll, dep_one]
      decide
theorem eqv_one (o o' : One) : PyData.eqv (oneD o) (oneD o') = decide (o = o') := by
  obtain ⟨k, s, v⟩ := o
  obtain ⟨k', s', v'⟩ := o'
  unfold oneD
  simp only [PyData.eqv, PyData.eqvAll, Bool.and_true]
  by_cases hk : k = k'
  · by_cases hs : s = s'
    · by_cases hv : v = v'
      · simp [hk, hs, hv]
      · simp [hk, hs, hv]
        omega
    · simp [hk, hs]
      omega
  · have : k.word ≠ k'.word := fun z => hk (word_inj z)
    simp [hk, this]
theorem eqv_row (c c' : Chg) : PyData.eqv (rowD c) (rowD c') = decide (c = c') := by
  cases c with
  | one o =>
    cases c' with
    | one o' =>
      show PyData.eqv (oneD o) (oneD o') = _
      rw [eqv_one]
      exact decide_eq_decide.mpr ⟨congrArg _, Chg.one.inj⟩
    | iff s' v' o' =>
      show PyData.eqv (.tuple [.str o.k.word, .int o.s, .int o.v]) (.tuple [.str "if", .int s', .int v', oneD o']) = _
      simp only [PyData.eqv, PyData.eqvAll, Bool.and_false]
      simp
  | iff s v o =>
    cases c' with
    | one o' =>
      show PyData.eqv (.tuple [.str "if", .int s, .int v, oneD o]) (.tuple [.str o'.k.word, .int o'.s, .int o'.v]) = _
      simp only [PyData.eqv, PyData.eqvAll, Bool.and_false]
      simp
    | iff s' v' o' =>
      show PyData.eqv (.tuple [.str "if", .int s, .int v, oneD o]) (.tuple [.str "if", .int s', .int v', oneD o']) = _
      simp only [PyData.eqv, PyData.eqvAll, eqv_one, Bool.and_true]
      by_cases hs : s = s'
      · by_cases hv : v = v'
        · by_cases ho : o = o'
          · simp [hs, hv, ho]
          · simp [hs, hv, ho]
        · simp [hs, hv]
          intro z
          omega
      · simp [hs]
        intro z
        omega
section
variable {K : PySem.W.Frag} {H : Hp}
theorem dp_one {a : Addr} {o : One} (h : H a = some (.tup (oneRow o))) : Dp K H (.ref a) (oneD o) := .tup (SqT.of h) (.cons (.str _) (.cons (.int _) (.cons (.int _) .nil)))
theorem dp_row {a : Addr} {c : Chg} (h : RowAt H a c) : Dp K H (.ref a) (rowD c) := by
  cases c with
  | one o => exact dp_one h
  | iff s v o =>
    obtain ⟨b, h1, h2⟩ := h
    exact .tup (SqT.of h1) (.cons (.str _) (.cons (.int _) (.cons (.int _) (.cons (dp_one h2) .nil))))
end
/-! ### what stays where numbers are drawn -/
section
variable {D : Addr} {H H' : Hp} {K : PySem.W.Frag}
theorem OneAt.kd {a : Addr} {o : One} (k : Kd D H H') (h : OneAt K H a o) : OneAt K H' a o := by
  obtain ⟨dx, h⟩ := h
  exact ⟨dx, k.ins h⟩
theorem ChgAt.kd {a : Addr} {c : Chg} (k : Kd D H H') (h : ChgAt K H a c) : ChgAt K H' a c := by
  cases c with
  | one o => exact OneAt.kd k h
  | iff s v o =>
    obtain ⟨dx, b, h1, h2⟩ := h
    exact ⟨dx, b, k.ins h1, OneAt.kd k h2⟩
theorem Kd.refs (k : Kd D H H') {x : Addr} {S : Sts} (n : S ≠ []) (h : H x = some (.lst (refs S))) : H' x = some (.lst (refs S)) := k.at (ni_refs (f := fun p : Addr × List Int => p.1) n) h
theorem Kd.prefs (k : Kd D H H') {x : Addr} {Z : Prw} (n : Z ≠ []) (h : H x = some (.lst (prefs Z))) : H' x = some (.lst (prefs Z)) := k.at (ni_refs (f := fun p : Addr × Str × Addr × Chg => p.1) n) h
theorem Kd.strs (k : Kd D H H') {x : Addr} {ys : List Str} (n : ys ≠ []) (h : H x = some (.lst (ys.map V.str))) : H' x = some (.lst (ys.map V.str)) := k.at (ni_strs n) h
theorem ne_of_len {α : Type} {n : Nat} {xs : List α} (h : n + 1 ≤ xs.length) : xs ≠ [] := fun z => by rw [z] at h; cases h
theorem WorldAt.kd {p : Addr} {n : Nat} {S : Sts} {L : Ncs} (ok : WOk n S L) (k : Kd D H H') (h : WorldAt K H p n S L) : WorldAt K H' p n S L := by
  obtain ⟨⟨dx, l, d, h1, h2, h3⟩, h4, h5⟩ := h
  exact ⟨⟨dx, l, d, k.ins h1, k.refs (ne_of_len ok.sts.lo) h2, k.dK h3⟩, h4.kd k, fun q hq => (h5 q hq).kd k⟩
theorem PlanAt.kd {t : Addr} {n : Nat} {S : Sts} {Z : Prw} (ok : WOk n S (ncs Z)) (k : Kd D H H') (h : PlanAt H t n S Z) : PlanAt H' t n S Z := by
  obtain ⟨⟨l, r, h1, h2, h3⟩, h4, h5⟩ := h
  have nz : Z ≠ [] := ne_of_len (n := 1) (by rw [← ncs_len]; exact ok.chgs.lo)
  exact ⟨⟨l, r, k.tup h1, k.refs (ne_of_len ok.sts.lo) h2, k.prefs nz h3⟩, h4.kd k, h5.kd k⟩
end
theorem WOk.twin {n : Nat} {S : Sts} {L M : Ncs} (ok : WOk n S L) (e : nc M = nc L) : WOk n S M := ⟨ok.n1, ok.n3, ok.sts, ok.chgs.twin e⟩
theorem nc_at {L M : Ncs} (e : nc M = nc L) {i : Nat} (h : i < L.length) : ∃ h' : i < M.length, M[i].1 = L[i].1 ∧ M[i].2.2 = L[i].2.2 := by
  have h' : i < M.length := by rw [← nc_len, e, nc_len]; exact h
  refine ⟨h', ?_⟩
  have z := List.getElem_of_eq e (i := i) (by rw [nc_len]; exact h')
  unfold nc at z
  rw [List.getElem_map, List.getElem_map] at z
  exact Prod.mk.inj z
end OP
namespace OP
open PySem PySem.Spec PyProof.Rows GenW L2 LamX
/-! ### what stays: all but the draws and the tables -/
structure Kn (D : Addr) (H H' : Hp) : Prop where
  a : StD D H
  b : StD D H'
  k : ∀ x u, x ≠ D → (∀ ps, u ≠ .tbl ps) → H x = some u → H' x = some u
section
variable {D : Addr} {H H' H2 : Hp}
theorem Kd.n (k : Kd D H H') : Kn D H H' := ⟨k.a, k.b, fun x u n _ e => k.k x u n e⟩
theorem Kn.trans (a : Kn D H H') (b : Kn D H' H2) : Kn D H H2 := ⟨a.a, b.b, fun x u n m e => b.k x u n m (a.k x u n m e)⟩
theorem Kn.of (d : StD D H) (e : ExtN H H') : Kn D H H' := by
  refine ⟨d, ?_, fun x u _ m z => e x u z m⟩
  obtain ⟨ns, h⟩ := d
  exact ⟨ns, e _ _ h (fun _ z => by cases z)⟩
theorem Kn.at (k : Kn D H H') {x : Addr} {u : HO} (n : NotInts u) (m : ∀ ps, u ≠ .tbl ps) (h : H x = some u) : H' x = some u := k.k x u (k.a.ne n h) m h
theorem Kn.tup (k : Kn D H H') {x : Addr} {xs : List V} (h : H x = some (.tup xs)) : H' x = some (.tup xs) := k.at (ni_tup _) (fun _ z => by cases z) h
theorem Kn.ins (k : Kn D H H') {x C d : Addr} {fs : List (Str × V)} (h : H x = some (.ins C d fs)) : H' x = some (.ins C d fs) := k.at (ni_ins _ _ _) (fun _ z => by cases z) h
theorem Kn.dK (k : Kn D H H') {x : Addr} {kv : List (Key × V)} (h : H x = some (.dK kv)) : H' x = some (.dK kv) := k.at (ni_dK _) (fun _ z => by cases z) h
theorem Kn.refs (k : Kn D H H') {x : Addr} {S : Sts} (n : S ≠ []) (h : H x = some (.lst (refs S))) : H' x = some (.lst (refs S)) := k.at (ni_refs (f := fun p : Addr × List Int => p.1) n) (fun _ z => by cases z) h
theorem Kn.prefs (k : Kn D H H') {x : Addr} {Z : Prw} (n : Z ≠ []) (h : H x = some (.lst (prefs Z))) : H' x = some (.lst (prefs Z)) := k.at (ni_refs (f := fun p : Addr × Str × Addr × Chg => p.1) n) (fun _ z => by cases z) h
theorem Kn.strs (k : Kn D H H') {x : Addr} {ys : List Str} (n : ys ≠ []) (h : H x = some (.lst (ys.map V.str))) : H' x = some (.lst (ys.map V.str)) := k.at (ni_strs n) (fun _ z => by cases z) h
theorem StsAt.kn {S : Sts} (k : Kn D H H') (h : StsAt H S) : StsAt H' S := fun p hp => k.tup (h p hp)
theorem RowAt.kn {a : Addr} {c : Chg} (k : Kn D H H') (h : RowAt H a c) : RowAt H' a c := by
  cases c with
  | one o => exact k.tup h
  | iff s v o =>
    obtain ⟨b, h1, h2⟩ := h
    exact ⟨b, k.tup h1, k.tup h2⟩
theorem ChgAt.kn {K : PySem.W.Frag} {a : Addr} {c : Chg} (k : Kn D H H') (h : ChgAt K H a c) : ChgAt K H' a c := by
  cases c with
  | one o =>
    obtain ⟨dx, h⟩ := h
    exact ⟨dx, k.ins h⟩
  | iff s v o =>
    obtain ⟨dx, b, h1, dy, h2⟩ := h
    exact ⟨dx, b, k.ins h1, dy, k.ins h2⟩
theorem WorldAt.kn {K : PySem.W.Frag} {p : Addr} {n : Nat} {S : Sts} {L : Ncs} (ok : WOk n S L) (k : Kn D H H') (h : WorldAt K H p n S L) : WorldAt K H' p n S L := by
  obtain ⟨⟨dx, l, d, h1, h2, h3⟩, h4, h5⟩ := h
  exact ⟨⟨dx, l, d, k.ins h1, k.refs (ne_of_len ok.sts.lo) h2, k.dK h3⟩, h4.kn k, fun q hq => (h5 q hq).kn k⟩
theorem PlanAt.kn {t : Addr} {n : Nat} {S : Sts} {Z : Prw} (ok : WOk n S (ncs Z)) (k : Kn D H H') (h : PlanAt H t n S Z) : PlanAt H' t n S Z := by
  obtain ⟨⟨l, r, h1, h2, h3⟩, h4, h5⟩ := h
  have nz : Z ≠ [] := ne_of_len (n := 1) (by rw [← ncs_len]; exact ok.chgs.lo)
  exact ⟨⟨l, r, k.tup h1, k.refs (ne_of_len ok.sts.lo) h2, k.prefs nz h3⟩, h4.kn k, fun q hq => ⟨k.tup (h5 q hq).1, (h5 q hq).2.kn k⟩⟩
theorem tabs_kd {T : List (Addr × Str)} (k : Kd D H H') (t : Tabs T H) : Tabs T H' := fun p hp => by
  obtain ⟨ps, h1, h2, h3⟩ := t p hp
  refine ⟨ps, k.at (fun _ z => by cases z) h1, h2, fun pos cv hc => ?_⟩
  obtain ⟨c, e1, e2⟩ := h3 pos cv hc
  exact ⟨c, e1, k.at (fun _ z => by cases z) e2⟩
end
def EN : XK := fun _ _ _ => False
theorem pass_no {X : Cx} : Passes (CX X.prog X.w) X EN := fun pins σ H s e s' I h => by
  obtain ⟨a, B, H', cls, d, _, _, _, _, _, _, _, z⟩ := h
  exact z.elim
theorem dp_Ns {K : PySem.W.Frag} {H : Hp} : ∀ {Z : Nts}, NtsAt H Z → DpAll K H (nrefs Z) ((Z.map (·.2)).map dN)
  | [], _ => .nil
  | p :: Z, h => .cons (dp_N (h p List.mem_cons_self)) (dp_Ns fun q hq => h q (List.mem_cons_of_mem _ hq))
theorem gn_str : ∀ y ∈ gNames, PyData.strOk y = true := by decide +kernel
theorem app_twin {L M : Ncs} (e : nc M = nc L) (ndM : (names M).Nodup) (nd : (names L).Nodup) : ∀ (ys : List Str), (∀ y ∈ ys, y ∈ names L) → ∀ xs : List Int, appAll M ys xs = appAll L ys xs
  | [], _, _ => rfl
  | y :: ys, h, xs => by
    have e1 : chgOf M y = chgOf L y := by
      obtain ⟨j, hj, rfl⟩ := mem_names (h y List.mem_cons_self)
      obtain ⟨hm, g1, g2⟩ := nc_at e hj
      rw [chgOf_at nd hj, ← g1, chgOf_at ndM hm, g2]
    show appAll M ys ((chgOf M y).app xs) = appAll L ys ((chgOf L y).app xs)
    rw [e1]
    exact app_twin e ndM nd ys (fun z hz => h z (List.mem_cons_of_mem _ hz)) _
theorem cut_ints (ns : List Int) (lo hi : Option Int) : ∃ ms : List Int, cutV (ns.map V.int) lo hi = ms.map V.int := by
  unfold cutV
  rw [← List.map_drop, ← List.map_take]
  exact ⟨_, rfl⟩
end OP
namespace OP
open PySem PySem.Spec PyProof.Rows GenW L2 LamX
/-! ### what stays: all but tables -/
def Ke (H H' : Hp) : Prop := ∀ b u, (∀ ps, u ≠ .tbl ps) → (∀ φ, u ≠ .ext φ) → H b = some u → H' b = some u
section
variable {H H' : Hp}
theorem Ke.of (e : ExtN H H') : Ke H H' := fun b u n _ h => e b u h n
theorem Ke.tup (k : Ke H H') {b : Addr} {xs : List V} (h : H b = some (.tup xs)) : H' b = some (.tup xs) := k _ _ (fun _ z => by cases z) (fun _ z => by cases z) h
theorem Ke.lst (k : Ke H H') {b : Addr} {xs : List V} (h : H b = some (.lst xs)) : H' b = some (.lst xs) := k _ _ (fun _ z => by cases z) (fun _ z => by cases z) h
theorem Ke.dT (k : Ke H H') {b : Addr} {xs : List (List Key × V)} (h : H b = some (.dT xs)) : H' b = some (.dT xs) := k _ _ (fun _ z => by cases z) (fun _ z => by cases z) h
theorem Ke.trans {H2 : Hp} (a : Ke H H') (b : Ke H' H2) : Ke H H2 := fun c u n m h => b c u n m (a c u n m h)
theorem Ke.same (s : Same H H') : Ke H H' := fun b u _ _ h => s b u h
theorem RowAt.ke {a : Addr} {c : Chg} (k : Ke H H') (h : RowAt H a c) : RowAt H' a c := by
  cases c with
  | one o => exact k.tup h
  | iff s v o =>
    obtain ⟨b, h1, h2⟩ := h
    exact ⟨b, k.tup h1, k.tup h2⟩
theorem PlanAt.ke {t : Addr} {n : Nat} {S : Sts} {Z : Prw} (k : Ke H H') (h : PlanAt H t n S Z) : PlanAt H' t n S Z := by
  obtain ⟨⟨l, r, h1, h2, h3⟩, h4, h5⟩ := h
  exact ⟨⟨l, r, k.tup h1, k.lst h2, k.lst h3⟩, fun p hp => k.tup (h4 p hp), fun q hq => ⟨k.tup (h5 q hq).1, (h5 q hq).2.ke k⟩⟩
theorem NtsAt.ke {Z : Nts} (k : Ke H H') (h : NtsAt H Z) : NtsAt H' Z := fun p hp => k.tup (h p hp)
theorem ExtN.of (s : Same H H') : ExtN H H' := fun b u h _ => s b u h
theorem ExtN.tr {H2 : Hp} (a : ExtN H H') (b : ExtN H' H2) : ExtN H H2 := fun c u h n => b c u (a c u h n) n
theorem Tabs.ext {T : List (Addr × Str)} (s : Same H H') (t : Tabs T H) : Tabs T H' := fun p hp => by
  obtain ⟨ps, h1, h2, h3⟩ := t p hp
  refine ⟨ps, s _ _ h1, h2, fun pos cv hc => ?_⟩
  obtain ⟨c, e1, e2⟩ := h3 pos cv hc
  exact ⟨c, e1, s _ _ e2⟩
/-- a table is written, those of the code objects stay -/
theorem Tabs.off {P : Program} {w : PySem.World} {T : List (Addr × Str)} {f : Addr} {xs : List Ent} {o : HO} (hf : H f = some (TabO P w f xs)) (t : Tabs T H) : Tabs T (upd H f o) := fun p hp => by
  obtain ⟨ps, h1, h2, h3⟩ := t p hp
  refine ⟨ps, ?_, h2, fun pos cv hc => ?_⟩
  · rw [upd_ne (fun z => ?_)]
    · exact h1
    · rw [z, hf] at h1
      cases h1
  · obtain ⟨c, e1, e2⟩ := h3 pos cv hc
    refine ⟨c, e1, ?_⟩
    rw [upd_ne (fun z => ?_)]
    · exact e2
    · rw [z, hf] at e2
      exact tab_ne_code (Option.some.inj e2)
theorem TabAt.exn {P : Program} {w : PySem.World} {d : Addr} {xs : List Ent} (e : ExtN H H') (h : TabAt P w H d xs) : TabAt P w H' d xs :=
  ⟨e _ _ h.tab (fun _ z => by cases z), h.sys, fun x hx => (h.keys x hx).keep fun b ys q => (Ke.of e).tup q, fun x hx => (Ke.of e).tup (h.vals x hx), h.nd, h.few⟩
end
theorem gn_strs (m : Nat) : ∀ y ∈ gNames.take m, PyData.strOk y = true := fun y hy => by
  have all : ∀ y ∈ gNames, PyData.strOk y = true := by decide +kernel
  exact all y ((List.take_sublist _ _).subset hy)
theorem pairs_sets {A : List (List Int)} {ns : List Str} {i : Nat} (h : i < A.length) : pairsOf (A.take (i + 1)) ns = pairsOf (A.take i) ns ++ (setsOf ns).map fun y => (A[i], y) := by
  unfold pairsOf
  rw [List.take_add_one, List.getElem?_eq_getElem h, Option.toList_some, List.flatMap_append, List.flatMap_cons, List.flatMap_nil, List.append_nil]
theorem pairs_cut (A : List (List Int)) (ns : List Str) (k : Nat) : pairsOf A ns = pairsOf (A.take k) ns ++ pairsOf (A.drop k) ns := by
  unfold pairsOf
  rw [← List.flatMap_append, List.take_append_drop]
theorem key_fresh {A : List (List Int)} {ns : List Str} {i j : Nat} {y : List Str} (nd : (pairsOf A ns).Nodup) (hi : i < A.length) (hj : (setsOf ns)[j]? = some y) : (A[i], y) ∉ pairsOf (A.take i) ns ++ ((setsOf ns).take j).map fun y => (A[i], y) := by
  rw [pairs_cut A ns (i + 1), pairs_sets hi] at nd
  have nd1 := (List.nodup_append.mp nd).1
  have e : pairsOf (A.take i) ns ++ ((setsOf ns).take j).map (fun y => (A[i], y)) = (pairsOf (A.take i) ns ++ (setsOf ns).map fun y => (A[i], y)).take ((pairsOf (A.take i) ns).length + j) := by
    rw [List.take_append, List.take_of_length_le (Nat.le_add_right _ _), Nat.add_sub_cancel_left, List.map_take]
  rw [e]
  refine take_fresh nd1 ?_
  rw [List.getElem?_append_right (Nat.le_add_right _ _), Nat.add_sub_cancel_left, List.getElem?_map, hj] <;> rfl
theorem sets16 : ∀ m, m ≤ 4 → (setsOf (gNames.take m)).length ≤ 16 := by decide +kernel
theorem filt_snoc {α : Type} {f : α → Bool} {xs : List α} {i : Nat} (h : i < xs.length) : (xs.take (i + 1)).filter f = (xs.take i).filter f ++ if f xs[i] = true then [xs[i]] else [] := by
  rw [List.take_add_one, List.getElem?_eq_getElem h, Option.toList_some, List.filter_append, List.filter_cons]
  cases f xs[i] <;> rfl
section
variable {P : Program} {w : PySem.World} {K : PySem.W.Frag} {mg : Str → Option Value} {base : Heap}
def spLTab (P : Program) (w : PySem.World) (K : PySem.W.Frag) (Pt : Addr) : Sp := fun vs H Q _ => ∃ (t dp : Addr) (n m : Nat) (S : Sts) (Z : Prw) (E : Ents), vs = [.ref t, .ref dp] ∧ PlanAt H t n S Z ∧ WOk n S (ncs Z) ∧ 2 ≤ m ∧ m ≤ 4 ∧ names (ncs Z) = gNames.take m ∧ H dp = some (.dT (pol E)) ∧ PolOk E (gNames.take m) ∧ (pairsOf (S.map (·.2)) (gNames.take m)).Nodup ∧ Tabs [(Pt, lamQ)] H ∧
  ∀ H' r xs, ExtN H H' → Tabs [(Pt, lamQ)] H' → H r = none → TabAt P w H' r xs → xs.map (·.1) = pairsOf (S.map (·.2)) (gNames.take m) → (∀ x ∈ xs, ∃ o ∈ allowN E 4 x.1.2, x.2.2.2 = appAll (ncs Z) o x.1.1) → Q (.ref r) H'
abbrev ltNames : List Str := ["_law_plan", "_law_policy", "_law_found", "_law_store", "_law_some", "_law_order", "_law_one"]
theorem sc_ltab : FnScope ltNames ["_law_plan", "_law_policy"] (defScope s__law_table) := ⟨rfl, rfl, rfl, by decide +kernel, rfl, by decide +kernel, by decide +kernel⟩
theorem ok_ltab (T : Txt K mg) {Pt : Addr} (LT : LamTab K mg base Pt) : Ok P w K mg base (a__law_table K) ["_law_plan", "_law_policy"] 6 (spLTab P w K Pt) := by
  have GL : Ok P w K mg base (a__law_sets K) _ 5 (spLSets K Pt) := ok_lsets T LT
  have GN : Ok P w K mg base (a__law_names K) _ 1 (spLNames K) := ok_lnames T
  have GO : Ok P w K mg base (a__law_orders K) _ 1 (spOrders K) := ok_orders T
  have GA : Ok P w K mg base (a__law_allowed K) _ 1 (spAllowed K) := ok_allowed T
  have GE : Ok P w K mg base (a__law_end K) _ 3 (spGEnd K) := ok_gend T
  refine ok_of T.f__law_table sc_ltab (fun _ _ _ _ _ _ us hl => match us, hl with | [_, _], _ => rfl) (fun vs H Q E h => ?_) (fun cdv A outer s0 H vs Q E hr h => ?_)
  · obtain ⟨t, dp, n, m, S, Z, E', rfl, _⟩ := h
    rfl
  · obtain ⟨t, dp, n, m, S, Z, E', rfl, pl, ok, m2, m4, nm, hdp, po, pnd, tabs, kk⟩ := h
    have hr1 : Room 1 _ := hr.mono (by omega)
    have hr3 : Room 3 _ := hr.mono (by omega)
    have hr5 : Room 5 _ := hr
    refine ⟨_, (pss_cons (ps_set (i := 2) sc_ltab.nd rfl (Or.inl rfl) pe_nnew)
      (pss_cons (ps_for PassesOwn.never rfl (pi_list (pe_ix ix_tup (pv 0) pe_int (fun _ _ => rfl))) (pg_name (i := 3) sc_ltab.nd rfl (Or.inl rfl)) (pss_one (ps_for PassesOwn.never rfl (pi_list (pe_c GL hr5 T.g__law_sets (pa_cons (pe_c GN hr1 T.g__law_names (pa_cons (pv 0) pa_nil)) pa_nil))) (pg_name (i := 4) sc_ltab.nd rfl (Or.inl rfl)) (pss_cons (ps_set (i := 5) sc_ltab.nd rfl (Or.inl rfl) (pe_ix ix_list (pe_lc (own := [("_law_one", 6)]) (g := (gName 6)) rfl sc_ltab.nd (pi_list (pe_c GO hr1 T.g__law_orders (pa_cons (pv 4) pa_nil))) (blkOk_by (own := [("_law_one", 6)]) (N := ["_law_plan", "_law_policy", "_law_found", "_law_store", "_law_some", "_law_order", "_law_one"]) (sc := defScope s__law_table) (by decide +kernel)) (fun _ _ _ _ _ => (pg_name (i := 6) sc_ltab.nd rfl (Or.inl rfl))) (fun _ _ _ _ _ => (pts_one (pt_val (pe_c GA hr1 T.g__law_allowed (pa_cons (pv 1) (pa_cons (pv 6) pa_nil)))))) (fun _ _ _ _ _ => (pv 6))) pe_int (fun _ _ => rfl)))
      (pss_one (ps_nput (room64 hr) (pv 2) (pe_tup (pa_cons (pv 3) (pa_cons (pv 4) pa_nil))) (pe_c GE hr3 T.g__law_end (pa_cons (pv 0) (pa_cons (pv 3) (pa_cons (pv 5) pa_nil)))) rfl))))))
      (pss_one (ps_ret (pv 2))))), ?_⟩
    intro f hf fsys
    have s1 : Same H _ := same_upd (o := TabO P w f []) hf
    have tf : TabAt P w (upd H f (TabO P w f [])) f [] := ⟨upd_same, fsys, fun x hx => (by cases hx), fun x hx => (by cases hx), List.nodup_nil, Nat.zero_le _⟩
    have z4 : Z.length ≤ 4 := by rw [← ncs_len]; exact ok.chgs.hi
    have lgm : (gNames.take m).length = m := by
      rw [List.length_take]
      show min m 4 = m
      omega
    have nd : (gNames.take m).Nodup := by rw [← nm]; exact ok.chgs.nd
    have al := allow_ok ok (by rw [nm]; exact po)
    obtain ⟨⟨l, r, ht, hl, hr'⟩, hS, hZ⟩ := id pl
    have lS : (refs S).length = S.length := List.length_map ..
    refine ⟨_, rfl, t, _, 1, _, rfl, rfl, SqT.of (s1 _ _ ht), rfl, l, rfl, ⟨_, SqL.of (s1 _ _ hl)⟩, ?_⟩
    refine for_it (walk_list (K := K) (a := l) (xs := refs S)) (fun i σ H' => ∃ v3 v4 v5 xs, σ = [some (.ref t), some (.ref dp), some (.ref f), v3, v4, v5, none] ∧ (∀ b u, b ≠ f → (∀ ps, u ≠ .tbl ps) → H b = some u → H' b = some u) ∧ Tabs [(Pt, lamQ)] H' ∧ TabAt P w H' f xs ∧ xs.map (·.1) = pairsOf ((S.map (·.2)).take i) (gNames.take m) ∧ ∀ x ∈ xs, ∃ o ∈ allowN E' 4 x.1.2, x.2.2.2 = appAll (ncs Z) o x.1.1)
      ⟨none, none, none, [], rfl, (fun b u _ _ h => s1 _ _ h), Tabs.ext s1 tabs, tf, by rw [List.take_zero] <;> rfl, fun x hx => by cases hx⟩ (fun i σ H' _ q => ?_) (fun i x σ H2 H2' hi q yy => ?_) fun σ H2 q => ?_
    · obtain ⟨_, _, _, _, _, e, _⟩ := q
      exact SqL.of (e _ _ (ne_of_none hl hf) (fun _ z => by cases z) hl)
    · obtain ⟨v3, v4, v5, xs, rfl, e2, tb2, t2, kx2, vx2⟩ := q
      obtain ⟨rfl, hx⟩ := yy
      have hiS : i < S.length := by rw [← lS]; exact hi
      unfold refs at hx
      rw [List.getElem?_map, List.getElem?_eq_getElem hiS] at hx
      obtain rfl := (Option.some.inj hx).symm
      have k2 : Ke H H2' := fun b u n1 n2 h => e2 b u (fun z => by rw [z, hf] at h; cases h) n1 h
      have pl2 := pl.ke k2
      have e2x := fun (b : Addr) (u : HO) (n1 : ∀ ps, u ≠ .tbl ps) (n2 : ∀ φ, u ≠ .ext φ) (h : H b = some u) => k2 b u n1 n2 h
      refine ⟨_, rfl, t, n, S, Z, rfl, pl2, z4, fun H3 r3 s3 e3 => ⟨r3, m, rfl, m2, m4, (by rw [← nm]; exact e3), Tabs.ext s3 tb2, fun H4 r4 Zs x4 tb4 e4 n4 c4 => ⟨r4, rfl, ⟨_, SqL.of e4⟩, ?_⟩⟩⟩
      have k24 : Ke H2' H4 := (Ke.same s3).trans (Ke.of x4)
      have k04 : Ke H H4 := k2.trans k24
      have t4 : TabAt P w H4 f xs := (t2.ext s3).exn x4
      have lZs : (nrefs Zs).length = Zs.length := List.length_map ..
      have lc : Zs.length = (setsOf (gNames.take m)).length := by rw [← c4, List.length_map]
      obtain ⟨sok, sln⟩ := ok.sts.each S[i] (List.getElem_mem hiS)
      have Ai : (S.map (·.2))[i]'(by rw [List.length_map]; exact hiS) = S[i].2 := by rw [List.getElem_map]
      refine for_it (walk_list (K := K) (a := r4) (xs := nrefs Zs)) (fun j σ H' => ∃ v4 v5 ys, σ = [some (.ref t), some (.ref dp), some (.ref f), some (.ref S[i].1), v4, v5, none] ∧ (∀ b u, b ≠ f → (∀ ps, u ≠ .tbl ps) → H4 b = some u → H' b = some u) ∧ Tabs [(Pt, lamQ)] H' ∧ TabAt P w H' f ys ∧ ys.map (·.1) = pairsOf ((S.map (·.2)).take i) (gNames.take m) ++ ((setsOf (gNames.take m)).take j).map (fun y => (S[i].2, y)) ∧ ∀ x ∈ ys, ∃ o ∈ allowN E' 4 x.1.2, x.2.2.2 = appAll (ncs Z) o x.1.1)
        ⟨_, _, xs, rfl, (fun b u _ _ h => h), tb4, t4, by rw [List.take_zero, List.map_nil, List.append_nil]; exact kx2, vx2⟩ (fun j σ H' _ q => ?_) (fun j x σ H5 H5' hj q yy => ?_) fun σ H5 q => ?_
      · obtain ⟨_, _, _, _, e, _⟩ := q
        exact SqL.of (e _ _ (fun z => by rw [z, t4.tab] at e4; cases e4) (fun _ z => by cases z) e4)
      · obtain ⟨v4', v5', ys, rfl, e5, tb5, t5, kx5, vx5⟩ := q
        obtain ⟨rfl, hx⟩ := yy
        obtain ⟨hjZ, rfl⟩ := nrefs_at hx
        have k45 : Ke H4 H5' := fun b u n1 n2 h => e5 b u (fun z => by rw [z, t4.tab] at h; exact n2 _ (Option.some.inj h).symm) n1 h
        have k05 := k04.trans k45
        have mem : Zs[j] ∈ Zs := List.getElem_mem hjZ
        have yj : (setsOf (gNames.take m))[j]? = some Zs[j].2 := by rw [← c4, List.getElem?_map, List.getElem?_eq_getElem hjZ] <;> rfl
        have ym := List.mem_of_getElem? yj
        have ysub := sets_sub (by omega) (by omega) ym
        have ynd := nd.sublist ysub
        have y4 : Zs[j].2.length ≤ 4 := by
          have := ysub.length_le
          omega
        have hs5 : H5' Zs[j].1 = some (.tup (Zs[j].2.map V.str)) := k45.tup (n4 _ mem)
        refine ⟨_, rfl, Zs[j].1, Zs[j].2, rfl, hs5, y4, fun H6 r6 O s6 e6 n6 c6 => ⟨r6, rfl, ⟨_, SqL.of e6⟩, fun D hD => ?_⟩⟩
        have lO : (nrefs O).length = O.length := List.length_map ..
        have lO2 : O.length ≤ 256 := by
          rw [nts_len c6]
          exact Nat.le_trans (ordN_len y4 _) (pow4 y4)
        have dp6 : H6 dp = some (.dT (pol E')) := s6 _ _ (k05.dT hdp)
        refine lc_it (walk_list (K := K) (a := r6) (xs := nrefs O)) (fun c H' => Same H6 H' ∧ H' D = some (.lst (nrefs ((O.take c).filter fun z => allowB E' z.2)))) ⟨same_upd hD, by rw [upd_same, List.take_zero] <;> rfl⟩ (fun c H' _ q => SqL.of (q.1 _ _ e6)) (fun c x H7 H8 hc q yy => ?_) (fun H7 q => ?_)
        · obtain ⟨s7, d7⟩ := q
          obtain ⟨rfl, hx⟩ := yy
          obtain ⟨hcO, rfl⟩ := nrefs_at hx
          have memO : O[c] ∈ O := List.getElem_mem hcO
          have oo := ordN_ok _ O[c].2 (by rw [← c6]; exact List.mem_map.mpr ⟨O[c], memO, rfl⟩)
          refine ⟨rfl, _, rfl, _, rfl, dp, O[c].1, E', O[c].2, rfl, .inl (s7 _ _ dp6), s7 _ _ (n6 _ memO), by omega, fun H9 s9 => ⟨_, rfl, ?_⟩⟩
          have d9 := s9 _ _ d7
          cases hb : allowB E' O[c].2 with
          | true =>
            refine iteT ⟨_, rfl, _, d9, small1000 ?_, fun b u e => ?_, ?_⟩
            · rw [nrefs_len]
              have f1 := List.length_filter_le (fun z : Addr × List Str => allowB E' z.2) (O.take c)
              rw [List.length_take] at f1
              omega
            · rw [upd_ne (ne_of_none e hD)]
              exact s9 _ _ (s7 _ _ e)
            · rw [upd_same, filt_snoc hcO, hb, if_pos rfl]
              unfold nrefs
              rw [List.map_append] <;> rfl
          | false =>
            refine iteF ⟨s7.trans s9, ?_⟩
            rw [filt_snoc hcO, hb, if_neg (by decide), List.append_nil]
            exact d9
        · obtain ⟨s7, d7⟩ := q
          rw [lO, List.take_length] at d7
          have lines : (O.filter fun z => allowB E' z.2).map (·.2) = (ordN Zs[j].2 Zs[j].2.length).filter (allowB E') := by
            rw [← c6, List.filter_map] <;> rfl
          have ne : O.filter (fun z => allowB E' z.2) ≠ [] := fun z => by
            rw [z] at lines
            obtain ⟨o, ho⟩ := List.exists_mem_of_ne_nil _ (al.some _ (by rw [nm]; exact ym))
            have := (lines_iff po.irr ynd y4).mpr ho
            rw [← lines] at this
            cases this
          have mf : ∀ z ∈ O.filter (fun z => allowB E' z.2), z ∈ O ∧ z.2 ∈ allowN E' 4 Zs[j].2 := fun z hz => ⟨(List.mem_filter.mp hz).1, (lines_iff po.irr ynd y4).mp (by rw [← lines]; exact List.mem_map.mpr ⟨z, hz, rfl⟩)⟩
          cases eF : O.filter (fun z => allowB E' z.2) with
          | nil => exact absurd eF ne
          | cons z0 F =>
            rw [eF] at d7 mf
            obtain ⟨zO, zA⟩ := mf z0 List.mem_cons_self
            have o0 := al.ord _ (by rw [nm]; exact ym) _ zA
            have s67 := s6.trans s7
            have k07 := k05.trans (Ke.same s67)
            have at0 : atI (nrefs (z0 :: F)) 0 = some (V.ref z0.1) := by
              unfold atI ixN
              rw [if_pos (by decide), if_pos (by unfold nrefs; rw [List.length_map, List.length_cons]; omega)]
              rfl
            refine ⟨D, _, 0, _, rfl, rfl, SqL.of d7, at0, ?_⟩
            have st7 : H7 S[i].1 = some (.tup (S[i].2.map V.int)) := k07.tup (hS _ (List.getElem_mem hiS))
            refine ⟨_, rfl, _, rfl, _, rfl, t, S[i].1, z0.1, n, S, Z, S[i].2, z0.2, rfl, pl.ke k07, ok, st7, sok, sln, s7 _ _ (n6 _ zO), o0.few, o0.mem, fun H9 r9 s9 e9 => ?_⟩
            have s59 := s67.trans s9
            refine ⟨_, rfl, _, rfl, _, rfl, (by show 2 ≤ sizeLine; decide), fun k hk => ?_⟩
            have s10 : Same H9 _ := same_upd (o := .tup [.ref S[i].1, .ref Zs[j].1]) hk
            have s5X := s59.trans s10
            have k10 : KeyAt (upd H9 k (.tup [.ref S[i].1, .ref Zs[j].1])) k (S[i].2, Zs[j].2) := ⟨_, _, upd_same, s10 _ _ (s9 _ _ st7), s5X _ _ hs5⟩
            have t10 := t5.ext s5X
            have e10 := s10 _ _ e9
            have tb10 := Tabs.ext s5X tb5
            have few : ys.length < 200 := by
              have h1 := congrArg List.length kx5
              rw [List.length_map, List.length_append, List.length_map, List.length_take] at h1
              have h2 := pairs_len (A := (S.map (·.2)).take i) (ns := gNames.take m) (by omega) (by omega) (by rw [List.length_take, List.length_map]; have := ok.sts.hi; omega)
              have h3 := sets16 m m4
              omega
            have fresh : (S[i].2, Zs[j].2) ∉ ys.map (·.1) := by
              rw [kx5]
              have := key_fresh (i := i) pnd (by rw [List.length_map]; exact hiS) yj
              rw [Ai] at this
              exact this
            refine ⟨f, ys, k, (S[i].2, Zs[j].2), r9, _, rfl, rfl, rfl, t10, k10, e10, few, ?_⟩
            have tp := t10.put k10 e10 few
            refine ⟨_, _, _, rfl, fun b u hb n1 h => ?_, Tabs.off t10.tab tb10, tp, ?_, fun x hx => ?_⟩
            · rw [upd_ne hb]
              exact s5X _ _ (e5 b u hb n1 h)
            · rw [putN_new fresh, List.map_append, kx5, List.append_assoc, List.take_add_one, yj, Option.toList_some, List.map_append] <;> rfl
            · rw [putN_new fresh] at hx
              rcases List.mem_append.mp hx with z | z
              · exact vx5 x z
              · obtain rfl := List.mem_singleton.mp z
                exact ⟨z0.2, zA, rfl⟩
      · obtain ⟨v4', v5', ys, rfl, e5, tb5, t5, kx5, vx5⟩ := q
        refine ⟨_, _, _, ys, rfl, fun b u hb n1 h => e5 b u hb n1 ?_, tb5, t5, ?_, vx5⟩
        · exact x4 _ _ (s3 _ _ (e2 b u hb n1 h)) n1
        · rw [lZs, lc, List.take_length] at kx5
          rw [kx5, pairs_sets (by rw [List.length_map]; exact hiS), Ai]
    · obtain ⟨v3, v4, v5, xs, rfl, e2, tb2, t2, kx2, vx2⟩ := q
      rw [lS, ← List.length_map (f := fun p : Addr × List Int => p.2), List.take_length] at kx2
      refine ⟨_, rfl, kk _ f xs (fun b u h n => ?_) tb2 hf t2 kx2 vx2⟩
      exact e2 b u (ne_of_none h hf) n h
end
end OP
namespace OP
open PySem PySem.Spec PyProof.Rows GenW L2 LamX
theorem eqvAll_strs' : ∀ xs ys : List Str, PyData.eqvAll (xs.map PyData.str) (ys.map PyData.str) = decide (xs = ys)
  | [], [] => by simp [PyData.eqvAll]
  | [], _ :: _ => by simp [PyData.eqvAll]
  | _ :: _, [] => by simp [PyData.eqvAll]
  | a :: r, b :: t => by
    simp only [List.map_cons, PyData.eqvAll, PyData.eqv, eqvAll_strs' r t]
    by_cases h : a = b <;> by_cases h' : r = t <;> simp [h, h']
theorem eqv_N' (xs ys : List Str) : PyData.eqv (dN xs) (dN ys) = decide (xs = ys) := by
  unfold dN
  simp only [PyData.eqv]
  exact eqvAll_strs' xs ys
theorem shp_N {ys : List Str} (h : ∀ y ∈ ys, PyData.strOk y = true) : SeqAt.shaped (dN ys) = true := shp (lay_N h) (by rw [dep_N]; decide)
section
variable {P : Program} {w : PySem.World} {K : PySem.W.Frag} {mg : Str → Option Value} {base : Heap}
def spLIs (P : Program) (w : PySem.World) (K : PySem.W.Frag) (Pt : Addr) : Sp := fun vs H Q _ => ∃ (t dp d : Addr) (n m : Nat) (S : Sts) (Z : Prw) (E : Ents) (xs : List Ent), vs = [.ref t, .ref dp, .ref d] ∧ PlanAt H t n S Z ∧ WOk n S (ncs Z) ∧ 2 ≤ m ∧ m ≤ 4 ∧ names (ncs Z) = gNames.take m ∧ H dp = some (.dT (pol E)) ∧ TabAt P w H d xs ∧ EntsOk n S (ncs Z) xs ∧ Tabs [(Pt, lamQ)] H ∧
  ∀ H', ExtN H H' → Tabs [(Pt, lamQ)] H' → Q (.bl ((pairsOf (S.map (·.2)) (gNames.take m)).all (rightB (ncs Z) E xs))) H'
abbrev liNames : List Str := ["_law_plan", "_law_policy", "_law_table_here", "_law_store", "_law_some", "_law_last", "_law_other", "_law_rest", "_law_one", "_law_row", "_law_name"]
theorem sc_lit : FnScope liNames ["_law_plan", "_law_policy", "_law_table_here"] (defScope s__law_is_table) := ⟨rfl, rfl, rfl, by decide +kernel, rfl, by decide +kernel, by decide +kernel⟩
theorem ok_lis (T : Txt K mg) {Pt : Addr} (LT : LamTab K mg base Pt) : Ok P w K mg base (a__law_is_table K) ["_law_plan", "_law_policy", "_law_table_here"] 6 (spLIs P w K Pt) := by
  have GL : Ok P w K mg base (a__law_sets K) _ 5 (spLSets K Pt) := ok_lsets T LT
  have GN : Ok P w K mg base (a__law_names K) _ 1 (spLNames K) := ok_lnames T
  have GD : Ok P w K mg base (a__law_done K) _ 2 (spDone K 1) := ok_done T
  refine ok_of T.f__law_is_table sc_lit (fun _ _ _ _ _ _ us hl => match us, hl with | [_, _, _], _ => rfl) (fun vs H Q E h => ?_) (fun cdv A outer s0 H vs Q E hr h => ?_)
  · obtain ⟨t, dp, d, n, m, S, Z, E', xs, rfl, _⟩ := h
    rfl
  · obtain ⟨t, dp, d, n, m, S, Z, E', xs, rfl, pl, ok, m2, m4, nm, hdp, tx, eo, tabs, kk⟩ := h
    have hr1 : Room 1 _ := hr.mono (by omega)
    have hr2 : Room 2 _ := hr.mono (by omega)
    have hr5 : Room 5 _ := hr
    refine ⟨_, (pss_cons (ps_for PassesOwn.never rfl (pi_list (pe_ix ix_tup (pv 0) pe_int (fun _ _ => rfl))) (pg_name (i := 3) sc_lit.nd rfl (Or.inl rfl)) (pss_one (ps_for PassesOwn.never rfl (pi_list (pe_c GL hr5 T.g__law_sets (pa_cons (pe_c GN hr1 T.g__law_names (pa_cons (pv 0) pa_nil)) pa_nil))) (pg_name (i := 4) sc_lit.nd rfl (Or.inl rfl)) (pss_cons (ps_if (PW.pt (pw_and (pt_cmpR (op_eqD (room64 hr)) (pv 4) (pe_tup pa_nil) (nomark _)) (pw_and1 (pt_cmpR (op_neD (room64 hr)) (pe_nget (room64 hr) (pv 2) (pe_tup (pa_cons (pv 3) (pa_cons (pv 4) pa_nil))) (fun _ _ => rfl)) (pv 3) (nomark _))))) (pss_one (ps_ret pe_bl)) pss_nil)
      (pss_one (ps_for PassesOwn.never rfl (pi_tup (pv 4)) (pg_name (i := 5) sc_lit.nd rfl (Or.inr rfl)) (pss_one (ps_if (pt_not (pt_val (pe_callB (cr_any rfl) (by rfl) T.z_any (by decide +kernel) (pa_cons (pe_lc (own := [("_law_other", 6)]) (g := (gName 6)) (tt := tYes) rfl sc_lit.nd (pi_tup (pv 4)) (blkOk_by (own := [("_law_other", 6)]) (N := ["_law_plan", "_law_policy", "_law_table_here", "_law_store", "_law_some", "_law_last", "_law_other", "_law_rest", "_law_one", "_law_row", "_law_name"]) (sc := defScope s__law_is_table) (by decide +kernel)) (fun _ _ _ _ _ => (pg_name (i := 6) sc_lit.nd rfl (Or.inl rfl))) (fun _ _ _ _ _ => pts_nil) (fun _ _ _ _ _ => (pe_cmp (pc_din (hu_of hr) (pe_tup (pa_cons (pv 5) (pa_cons (pv 6) pa_nil))) (pv 1)) rfl))) pa_nil)))) (pss_cons (ps_set (i := 7) sc_lit.nd rfl (Or.inl rfl) (pe_tupleOf (by rfl) T.z_tuple (pe_lc (own := [("_law_one", 8)]) (g := (gName 8)) rfl sc_lit.nd (pi_tup (pv 4)) (blkOk_by (own := [("_law_one", 8)]) (N := ["_law_plan", "_law_policy", "_law_table_here", "_law_store", "_law_some", "_law_last", "_law_other", "_law_rest", "_law_one", "_law_row", "_law_name"]) (sc := defScope s__law_is_table) (by decide +kernel)) (fun _ _ _ _ _ => (pg_name (i := 8) sc_lit.nd rfl (Or.inl rfl))) (fun _ _ _ _ _ => (pts_one (pt_cmpR op_ne (pv 8) (pv 5) (nomark _)))) (fun _ _ _ _ _ => (pv 8)))))
      (pss_cons (ps_set (i := 9) sc_lit.nd rfl (Or.inl rfl) (pe_ix ix_list (pe_lc (own := [("_law_name", 10), ("_law_row", 9)]) (g := (gTup K 2 (gCons (gName 10) (gCons (gName 9) gNil)))) rfl sc_lit.nd (pi_list (pe_ix ix_tup (pv 0) pe_int (fun _ _ => rfl))) (blkOk_by (own := [("_law_name", 10), ("_law_row", 9)]) (N := ["_law_plan", "_law_policy", "_law_table_here", "_law_store", "_law_some", "_law_last", "_law_other", "_law_rest", "_law_one", "_law_row", "_law_name"]) (sc := defScope s__law_is_table) (by decide +kernel)) (fun _ _ _ _ _ => (pg_tupK K rfl (pgs_cons (pg_name (i := 10) sc_lit.nd rfl (Or.inl rfl)) (pgs_cons (pg_name (i := 9) sc_lit.nd rfl (Or.inl rfl)) pgs_nil)))) (fun _ _ _ _ _ => (pts_one (pt_cmpR op_eq (pv 10) (pv 5) (nomark _)))) (fun _ _ _ _ _ => (pv 9))) pe_int (fun _ _ => rfl)))
      (pss_one (ps_if (pt_cmpR (op_neD (room64 hr)) (pe_c GD hr2 T.g__law_done (pa_cons (pv 9) (pa_cons (pe_nget (room64 hr) (pv 2) (pe_tup (pa_cons (pv 3) (pa_cons (pv 7) pa_nil))) (fun _ _ => rfl)) pa_nil))) (pe_nget (room64 hr) (pv 2) (pe_tup (pa_cons (pv 3) (pa_cons (pv 4) pa_nil))) (fun _ _ => rfl)) (nomark _)) (pss_one (ps_ret pe_bl)) pss_nil)))) pss_nil))))))))
      (pss_one (ps_ret pe_bl))), ?_⟩
    have z4 : Z.length ≤ 4 := by rw [← ncs_len]; exact ok.chgs.hi
    have lgm : (gNames.take m).length = m := by
      rw [List.length_take]
      show min m 4 = m
      omega
    have ndZ := ok.chgs.nd
    have nd : (gNames.take m).Nodup := by rw [← nm]; exact ok.chgs.nd
    obtain ⟨⟨l, r, ht, hl, hr'⟩, hS, hZ⟩ := id pl
    have lS : (refs S).length = S.length := List.length_map ..
    have eoa : ∀ q ∈ pairsOf (S.map (·.2)) (gNames.take m), ∃ e, findN xs q = some e := fun q hq => eo.all q (by rw [nm]; exact hq)
    have no : ∀ {q : TK} {H' : Hp}, q ∈ pairsOf (S.map (·.2)) (gNames.take m) → rightB (ncs Z) E' xs q = false → ExtN H H' → Tabs [(Pt, lamQ)] H' → Q (.bl false) H' := fun {q H'} hq hb e tb => by
      have := kk H' e tb
      have fa : (pairsOf (S.map (·.2)) (gNames.take m)).all (rightB (ncs Z) E' xs) = false := List.all_eq_false.mpr ⟨q, hq, by rw [hb]; decide⟩
      rw [fa] at this
      exact this
    refine ⟨_, rfl, t, _, 1, _, rfl, rfl, SqT.of ht, rfl, l, rfl, ⟨_, SqL.of hl⟩, ?_⟩
    refine for_it (walk_list (K := K) (a := l) (xs := refs S)) (fun i σ H' => ∃ v3 v4 v5 v7 v9, σ = [some (.ref t), some (.ref dp), some (.ref d), v3, v4, v5, none, v7, none, v9, none] ∧ ExtN H H' ∧ Tabs [(Pt, lamQ)] H' ∧ ∀ q ∈ pairsOf ((S.map (·.2)).take i) (gNames.take m), rightB (ncs Z) E' xs q = true)
      ⟨none, none, none, none, none, rfl, (fun b u h _ => h), tabs, fun q hq => by rw [List.take_zero] at hq; cases hq⟩ (fun i σ H' _ q => ?_) (fun i x σ H2 H2' hi q yy => ?_) fun σ H2 q => ?_
    · obtain ⟨_, _, _, _, _, _, e, _⟩ := q
      exact SqL.of ((Ke.of e).lst hl)
    · obtain ⟨v3, v4, v5, v7, v9, rfl, e2, tb2, al2⟩ := q
      obtain ⟨rfl, hx⟩ := yy
      have hiS : i < S.length := by rw [← lS]; exact hi
      unfold refs at hx
      rw [List.getElem?_map, List.getElem?_eq_getElem hiS] at hx
      obtain rfl := (Option.some.inj hx).symm
      refine ⟨_, rfl, t, n, S, Z, rfl, pl.ke (Ke.of e2), z4, fun H3 r3 s3 e3 => ⟨r3, m, rfl, m2, m4, (by rw [← nm]; exact e3), Tabs.ext s3 tb2, fun H4 r4 Zs x4 tb4 e4 n4 c4 => ⟨r4, rfl, ⟨_, SqL.of e4⟩, ?_⟩⟩⟩
      have x04 : ExtN H H4 := ExtN.tr (ExtN.tr e2 (ExtN.of s3)) x4
      have lZs : (nrefs Zs).length = Zs.length := List.length_map ..
      have lc : Zs.length = (setsOf (gNames.take m)).length := by rw [← c4, List.length_map]
      obtain ⟨sok, sln⟩ := ok.sts.each S[i] (List.getElem_mem hiS)
      have Ai : (S.map (·.2))[i]'(by rw [List.length_map]; exact hiS) = S[i].2 := by rw [List.getElem_map]
      have stm : S[i].2 ∈ S.map (·.2) := List.mem_map.mpr ⟨S[i], List.getElem_mem hiS, rfl⟩
      refine for_it (walk_list (K := K) (a := r4) (xs := nrefs Zs)) (fun j σ H' => ∃ v4 v5 v7 v9, σ = [some (.ref t), some (.ref dp), some (.ref d), some (.ref S[i].1), v4, v5, none, v7, none, v9, none] ∧ Same H4 H' ∧ ∀ y ∈ (setsOf (gNames.take m)).take j, rightB (ncs Z) E' xs (S[i].2, y) = true)
        ⟨_, _, _, _, rfl, Same.refl _, fun y hy => by rw [List.take_zero] at hy; cases hy⟩ (fun j σ H' _ q => ?_) (fun j x σ H5 H5' hj q yy => ?_) fun σ H5 q => ?_
      · obtain ⟨_, _, _, _, _, e, _⟩ := q
        exact SqL.of (e _ _ e4)
      · obtain ⟨v4', v5', v7', v9', rfl, s5, al5⟩ := q
        obtain ⟨rfl, hx⟩ := yy
        obtain ⟨hjZ, rfl⟩ := nrefs_at hx
        have mem : Zs[j] ∈ Zs := List.getElem_mem hjZ
        have yj : (setsOf (gNames.take m))[j]? = some Zs[j].2 := by rw [← c4, List.getElem?_map, List.getElem?_eq_getElem hjZ] <;> rfl
        have ym := List.mem_of_getElem? yj
        have ysub := sets_sub (by omega) (by omega) ym
        have y4 : Zs[j].2.length ≤ 4 := by
          have := ysub.length_le
          omega
        have hq : (S[i].2, Zs[j].2) ∈ pairsOf (S.map (·.2)) (gNames.take m) := mem_pairs.mpr ⟨stm, ym⟩
        obtain ⟨e, he⟩ := eoa _ hq
        obtain ⟨em, ek⟩ := find_key he
        have x05 : ExtN H H5' := ExtN.tr x04 (ExtN.of s5)
        have k05 := Ke.of x05
        have tb5 := Tabs.ext s5 tb4
        have ys5 : H5' Zs[j].1 = some (.tup (Zs[j].2.map V.str)) := s5 _ _ (n4 _ mem)
        have st5 : H5' S[i].1 = some (.tup (S[i].2.map V.int)) := k05.tup (hS _ (List.getElem_mem hiS))
        have tx5 := tx.exn x05
        have so : ∀ y ∈ Zs[j].2, PyData.strOk y = true := fun y hy => gn_strs m y (ysub.subset hy)
        have yn : ∀ y ∈ Zs[j].2, y ∈ names (ncs Z) := fun y hy => by rw [nm]; exact ysub.subset hy
        refine ⟨_, rfl, (by show 0 ≤ sizeLine; exact Nat.zero_le _), fun g hg => ?_⟩
        have s6 : Same H5' _ := same_upd (o := .tup []) hg
        have g6 : upd H5' g (.tup []) g = some (.tup (([] : List Str).map V.str)) := upd_same
        generalize upd H5' g (.tup []) = H6 at s6 g6
        have rB : rightB (ncs Z) E' xs (S[i].2, Zs[j].2) = if Zs[j].2 = [] then decide (valN xs (S[i].2, Zs[j].2) = S[i].2) else (lastN E' Zs[j].2).all fun y => decide ((chgOf (ncs Z) y).app (valN xs (S[i].2, withoutN Zs[j].2 y)) = valN xs (S[i].2, Zs[j].2)) := rfl
        refine ⟨dN Zs[j].2, dN [], dp_N (s6 _ _ ys5), dp_N g6, shp_N so, shp_N (fun y hy => by cases hy), _, rfl, ?_⟩
        rw [eqv_N']
        by_cases ne : Zs[j].2 = []
        · rw [decide_eq_true ne]
          refine iteT ⟨_, rfl, _, rfl, _, rfl, (by show 2 ≤ sizeLine; decide), fun k hk => ?_⟩
          have s7 : Same H6 _ := same_upd (o := .tup [.ref S[i].1, .ref Zs[j].1]) hk
          have s57 := s6.trans s7
          have k7 : KeyAt (upd H6 k (.tup [.ref S[i].1, .ref Zs[j].1])) k (S[i].2, Zs[j].2) := ⟨_, _, upd_same, s57 _ _ st5, s57 _ _ ys5⟩
          have t7 := tx5.ext s57
          generalize upd H6 k (.tup [.ref S[i].1, .ref Zs[j].1]) = H7 at s7 s57 k7 t7
          refine ⟨d, xs, k, _, e, rfl, rfl, t7, k7, he, _, rfl, dT e.2.2.2, dT S[i].2, dp_T (t7.vals e em), dp_T (s57 _ _ st5), shp_T _, shp_T _, _, rfl, ?_⟩
          rw [eqv_T]
          have rV : rightB (ncs Z) E' xs (S[i].2, Zs[j].2) = decide (e.2.2.2 = S[i].2) := by rw [rB, if_pos ne, val_of he]
          by_cases v : e.2.2.2 = S[i].2
          · rw [decide_eq_true v]
            refine iteF ?_
            refine ⟨_, rfl, Zs[j].1, rfl, ⟨_, SqT.of (s57 _ _ ys5)⟩, ?_⟩
            have e0 : Zs[j].2.map V.str = [] := by rw [ne] <;> rfl
            refine for_it (walk_tup (K := K) (a := Zs[j].1) (xs := [])) (fun c σ H' => ∃ v4 v5 v7 v9, σ = [some (.ref t), some (.ref dp), some (.ref d), some (.ref S[i].1), v4, v5, none, v7, none, v9, none] ∧ Same H7 H')
              ⟨_, _, _, _, rfl, Same.refl _⟩ (fun c σ H' _ q => ?_) (fun c x σ H8 H8' hc q yy => absurd hc (Nat.not_lt_zero _)) fun σ H8 q => ?_
            · obtain ⟨_, _, _, _, _, z⟩ := q
              rw [← e0]
              exact SqT.of (z _ _ (s57 _ _ ys5))
            · obtain ⟨_, _, _, _, rfl, s8⟩ := q
              refine ⟨_, _, _, _, rfl, (s5.trans s57).trans s8, fun y hy => ?_⟩
              rw [List.take_add_one, yj] at hy
              rcases List.mem_append.mp hy with z | z
              · exact al5 y z
              · obtain rfl := List.mem_singleton.mp z
                rw [rV, decide_eq_true v]
          · rw [decide_eq_false v]
            refine iteT ?_
            exact no hq (by rw [rV, decide_eq_false v]) (ExtN.tr x05 (ExtN.of s57)) (Tabs.ext s57 tb5)
        · rw [decide_eq_false ne]
          refine iteF (iteF ?_)
          have hm : (Zs[j].2.map V.str).length = Zs[j].2.length := List.length_map ..
          refine ⟨_, rfl, Zs[j].1, rfl, ⟨_, SqT.of (s6 _ _ ys5)⟩, ?_⟩
          refine for_it (walk_tup (K := K) (a := Zs[j].1) (xs := Zs[j].2.map V.str)) (fun c σ H' => ∃ v5 v7 v9, σ = [some (.ref t), some (.ref dp), some (.ref d), some (.ref S[i].1), some (.ref Zs[j].1), v5, none, v7, none, v9, none] ∧ Same H6 H' ∧ ∀ y ∈ Zs[j].2.take c, y ∈ lastN E' Zs[j].2 → (chgOf (ncs Z) y).app (valN xs (S[i].2, withoutN Zs[j].2 y)) = valN xs (S[i].2, Zs[j].2))
            ⟨_, _, _, rfl, Same.refl _, fun y hy => by rw [List.take_zero] at hy; cases hy⟩ (fun c σ H' _ q => ?_) (fun c x σ H8 H8' hc q yy => ?_) fun σ H8 q => ?_
          · obtain ⟨_, _, _, _, z, _⟩ := q
            exact SqT.of (z _ _ (s6 _ _ ys5))
          · obtain ⟨w5, w7, w9, rfl, s8, al8⟩ := q
            obtain ⟨rfl, hx⟩ := yy
            obtain ⟨y, hy, rfl⟩ := strs_at' hx
            have ymm := List.mem_of_getElem? hy
            have s58 := s6.trans s8
            have ys8 := s58 _ _ ys5
            have hd8 : PolAt H8' dp E' := .inl (s58 _ _ (k05.dT hdp))
            have step : ∀ {P : Prop}, (y ∈ lastN E' Zs[j].2 → (chgOf (ncs Z) y).app (valN xs (S[i].2, withoutN Zs[j].2 y)) = valN xs (S[i].2, Zs[j].2)) → ∀ y' ∈ Zs[j].2.take (c + 1), y' ∈ lastN E' Zs[j].2 → (chgOf (ncs Z) y').app (valN xs (S[i].2, withoutN Zs[j].2 y')) = valN xs (S[i].2, Zs[j].2) := fun h y' hy' hl' => by
              rw [List.take_add_one, hy] at hy'
              rcases List.mem_append.mp hy' with z | z
              · exact al8 y' z hl'
              · obtain rfl := List.mem_singleton.mp z
                exact h hl'
            refine ⟨_, rfl, Zs[j].1, rfl, ⟨_, SqT.of ys8⟩, fun D2 hD2 => ?_⟩
            refine lcT_map (K := K) (a := Zs[j].1) (xs := Zs[j].2.map V.str) (Zs[j].2.map fun o => V.bl (bef E' y o)) hD2 (SqT.of ys8) (by rw [hm]; omega) (by rw [hm, List.length_map]) (fun j2 x2 v H9 Qe hx2 hv s9 kq => ?_) fun H9 s9 e9 => ?_
            · obtain ⟨o, ho, rfl⟩ := strs_at' hx2
              rw [List.getElem?_map, ho] at hv
              obtain rfl := Option.some.inj hv
              refine ⟨_, rfl, _, rfl, (by show 2 ≤ sizeLine; decide), fun q hq => ?_⟩
              have s10 : Same H9 _ := same_upd (o := .tup [V.str y, V.str o]) hq
              refine ⟨_, rfl, dp, _, rfl, ((hd8.ext s9).ext s10).get upd_same, ?_⟩
              rw [pol_some]
              exact kq _ s10
            · refine ⟨D2, Zs[j].2.map fun o => bef E' y o, rfl, ?_, _, rfl, ?_⟩
              · rw [List.map_map]
                exact SqL.of e9
              have ea : (Zs[j].2.map fun o => bef E' y o).any id = Zs[j].2.any fun o => bef E' y o := by rw [List.any_map] <;> rfl
              rw [ea]
              have lastI : y ∈ lastN E' Zs[j].2 ↔ (Zs[j].2.any fun o => bef E' y o) = false := by
                unfold lastN
                rw [List.mem_filter, Bool.not_eq_true']
                exact ⟨fun h => h.2, fun h => ⟨ymm, h⟩⟩
              cases hb : Zs[j].2.any fun o => bef E' y o with
              | true =>
                refine iteF ⟨_, _, _, rfl, s8.trans s9, step (P := True) fun h => ?_⟩
                rw [lastI, hb] at h
                cases h
              | false =>
                refine iteT ?_
                have yl : y ∈ lastN E' Zs[j].2 := lastI.mpr hb
                have s59 := s58.trans s9
                have ys9 := s59 _ _ ys5
                refine ⟨_, rfl, Zs[j].1, rfl, ⟨_, SqT.of ys9⟩, fun D hD => ?_⟩
                refine lc_it (walk_tup (K := K) (a := Zs[j].1) (xs := Zs[j].2.map V.str)) (fun i2 H' => Same H9 H' ∧ H' D = some (.lst ((withoutN (Zs[j].2.take i2) y).map V.str))) ⟨same_upd hD, by rw [upd_same, List.take_zero] <;> rfl⟩ (fun i2 H' _ q => SqT.of (q.1 _ _ ys9)) (fun i2 x2 H10 H11 hi2 q yy => ?_) (fun H10 q => ?_)
                · obtain ⟨s10, d10⟩ := q
                  obtain ⟨rfl, hx2⟩ := yy
                  obtain ⟨o, ho, rfl⟩ := strs_at' hx2
                  have et : withoutN (Zs[j].2.take (i2 + 1)) y = withoutN (Zs[j].2.take i2) y ++ if o = y then [] else [o] := by
                    unfold withoutN
                    rw [List.take_add_one, ho, Option.toList_some, List.filter_append]
                    congr 1
                    by_cases hb : o = y
                    · rw [if_pos hb, List.filter_cons, decide_eq_true hb] <;> rfl
                    · rw [if_neg hb, List.filter_cons, decide_eq_false hb] <;> rfl
                  refine ⟨rfl, _, rfl, _, rfl, rfl, _, rfl, ?_⟩
                  have de : decide (V.str o = V.str y) = decide (o = y) := decide_eq_decide.mpr ⟨V.str.inj, congrArg V.str⟩
                  rw [de]
                  by_cases hb : o = y
                  · rw [decide_eq_true hb]
                    refine iteF ⟨s10, ?_⟩
                    rw [et, if_pos hb, List.append_nil]
                    exact d10
                  · rw [decide_eq_false hb]
                    refine iteT ⟨_, rfl, _, d10, small1000 ?_, fun b u e => ?_, ?_⟩
                    · rw [List.length_map]
                      have f1 := without_le (Zs[j].2.take i2) y
                      rw [List.length_take] at f1
                      omega
                    · rw [upd_ne (ne_of_none e hD)]
                      exact s10 _ _ e
                    · rw [upd_same, et, if_neg hb, List.map_append] <;> rfl
                · obtain ⟨s10, d10⟩ := q
                  rw [hm, List.take_length] at d10
                  refine .inl ⟨D, _, rfl, SqL.of d10, fun rt hrt => ?_⟩
                  have s11 : Same H10 _ := same_upd (o := .tup ((withoutN Zs[j].2 y).map V.str)) hrt
                  have rt11 : upd H10 rt (.tup ((withoutN Zs[j].2 y).map V.str)) rt = _ := upd_same
                  have s5B := (s59.trans s10).trans s11
                  have s8B := (s9.trans s10).trans s11
                  generalize upd H10 rt (.tup ((withoutN Zs[j].2 y).map V.str)) = H11 at s11 rt11 s5B s8B
                  have k0B : Ke H H11 := k05.trans (Ke.same s5B)
                  obtain ⟨jz, hjz, ejz⟩ := mem_nz (yn y ymm)
                  have memZ : Z[jz] ∈ Z := List.getElem_mem hjz
                  refine ⟨_, rfl, t, _, 2, _, rfl, rfl, SqT.of (k0B.tup ht), rfl, r, rfl, ⟨_, SqL.of (k0B.lst hr')⟩, fun DD hDD => ?_⟩
                  refine lc_it (walk_list (K := K) (a := r) (xs := prefs Z)) (fun i' H' => Same H11 H' ∧ H' DD = some (.lst (((Z.take i').filter (fun q => decide (q.2.1 = Z[jz].2.1))).map fun q => V.ref q.2.2.1))) ⟨same_upd hDD, by rw [upd_same, List.take_zero] <;> rfl⟩ (fun i' H' _ q => SqL.of (q.1 _ _ (k0B.lst hr'))) (fun i' x' H12 H13 hi' q yy => ?_) (fun H12 q => ?_)
                  · obtain ⟨s12, d12⟩ := q
                    obtain ⟨rfl, hx'⟩ := yy
                    obtain ⟨hiZ, rfl⟩ := prefs_at hx'
                    have mem' : Z[i'] ∈ Z := List.getElem_mem hiZ
                    have et : Z.take (i' + 1) = Z.take i' ++ [Z[i']] := by rw [List.take_add_one, List.getElem?_eq_getElem hiZ] <;> rfl
                    refine ⟨Z[i'].1, _, rfl, SqT.of (s12 _ _ (k0B.tup (hZ _ mem').1)), rfl, _, _, rfl, _, _, rfl, rfl, rfl, _, rfl, _, rfl, rfl, _, rfl, ?_⟩
                    have de : decide (V.str Z[i'].2.1 = V.str y) = decide (Z[i'].2.1 = Z[jz].2.1) := decide_eq_decide.mpr ⟨fun z => by rw [ejz]; exact V.str.inj z, fun z => by rw [z, ejz]⟩
                    rw [de]
                    by_cases c : Z[i'].2.1 = Z[jz].2.1
                    · rw [decide_eq_true c]
                      refine iteT ⟨_, rfl, _, d12, small1000 ?_, fun b u e => ?_, ?_⟩
                      · rw [List.length_map]
                        have f1 := List.length_filter_le (fun q : Addr × Str × Addr × Chg => decide (q.2.1 = Z[jz].2.1)) (Z.take i')
                        rw [List.length_take] at f1
                        omega
                      · rw [upd_ne (ne_of_none e hDD)]
                        exact s12 _ _ e
                      · rw [upd_same, et, List.filter_append, List.map_append]
                        have e1 : [Z[i']].filter (fun q => decide (q.2.1 = Z[jz].2.1)) = [Z[i']] := by rw [List.filter_cons_of_pos (by simpa using c)] <;> rfl
                        rw [e1] <;> rfl
                    · rw [decide_eq_false c]
                      refine iteF ⟨s12, ?_⟩
                      rw [et, List.filter_append]
                      have e1 : [Z[i']].filter (fun q => decide (q.2.1 = Z[jz].2.1)) = [] := by rw [List.filter_cons_of_neg (by simpa using c)] <;> rfl
                      rw [e1, List.append_nil]
                      exact d12
                  · obtain ⟨s12, d12⟩ := q
                    rw [prefs_len, List.take_length, find_one ndZ hjz] at d12
                    have s5C := s5B.trans s12
                    have k0C : Ke H H12 := k0B.trans (Ke.same s12)
                    have ch := ok.chgs.chg Z[jz].2 (List.mem_map.mpr ⟨Z[jz], memZ, rfl⟩)
                    refine ⟨DD, _, 0, _, rfl, rfl, SqL.of d12, rfl, ?_⟩
                    refine ⟨_, rfl, _, rfl, _, rfl, _, rfl, (by show 2 ≤ sizeLine; decide), fun k2 hk2 => ?_⟩
                    have s13 : Same H12 _ := same_upd (o := .tup [.ref S[i].1, .ref rt]) hk2
                    have s5D := s5C.trans s13
                    have k13 : KeyAt (upd H12 k2 (.tup [.ref S[i].1, .ref rt])) k2 (S[i].2, withoutN Zs[j].2 y) := ⟨_, _, upd_same, s5D _ _ st5, s13 _ _ (s12 _ _ rt11)⟩
                    have t13 := tx5.ext s5D
                    have k0D : Ke H (upd H12 k2 (.tup [.ref S[i].1, .ref rt])) := k0C.trans (Ke.same s13)
                    generalize upd H12 k2 (.tup [.ref S[i].1, .ref rt]) = H13 at s13 s5D k13 t13 k0D
                    have hq2 : (S[i].2, withoutN Zs[j].2 y) ∈ pairsOf (S.map (·.2)) (gNames.take m) := mem_pairs.mpr ⟨stm, without_sets (by omega) (by omega) ym y⟩
                    obtain ⟨e2', he2⟩ := eoa _ hq2
                    obtain ⟨em2, ek2⟩ := find_key he2
                    obtain ⟨v1, v2⟩ := eo.val e2' em2
                    have fits : Fits e2'.2.2.2.length Z[jz].2.2.2 := fun z hz => by rw [v2]; exact ch.2 z hz
                    refine ⟨d, xs, k2, _, e2', rfl, rfl, t13, k13, he2, Z[jz].2.2.1, e2'.2.2.1, Z[jz].2.2.2, e2'.2.2.2, rfl, (hZ _ memZ).2.ke k0D, ch.1, (fun z => by cases z), t13.vals e2' em2, fits, by rw [v2]; have := ok.n3; omega, fun H14 r14 s14 e14 => ?_⟩
                    have s5E := s5D.trans s14
                    refine ⟨_, rfl, _, rfl, _, rfl, (by show 2 ≤ sizeLine; decide), fun k3 hk3 => ?_⟩
                    have s15 : Same H14 _ := same_upd (o := .tup [.ref S[i].1, .ref Zs[j].1]) hk3
                    have s5F := s5E.trans s15
                    have k15 : KeyAt (upd H14 k3 (.tup [.ref S[i].1, .ref Zs[j].1])) k3 (S[i].2, Zs[j].2) := ⟨_, _, upd_same, s5F _ _ st5, s5F _ _ ys5⟩
                    have t15 := tx5.ext s5F
                    have e15 := s15 _ _ e14
                    have s8F : Same H8' (upd H14 k3 (.tup [.ref S[i].1, .ref Zs[j].1])) := (((s8B.trans s12).trans s13).trans s14).trans s15
                    generalize upd H14 k3 (.tup [.ref S[i].1, .ref Zs[j].1]) = H15 at s15 s5F k15 t15 e15 s8F
                    refine ⟨d, xs, k3, _, e, rfl, rfl, t15, k15, he, dT _, dT e.2.2.2, dp_T e15, dp_T (t15.vals e em), shp_T _, shp_T _, _, rfl, ?_⟩
                    rw [eqv_T]
                    have cg : chgOf (ncs Z) y = Z[jz].2.2.2 := by rw [← ejz]; exact chg_nz ndZ hjz
                    have eqI : (Z[jz].2.2.2.app e2'.2.2.2 = e.2.2.2) ↔ ((chgOf (ncs Z) y).app (valN xs (S[i].2, withoutN Zs[j].2 y)) = valN xs (S[i].2, Zs[j].2)) := by rw [cg, val_of he2, val_of he]
                    by_cases v : Z[jz].2.2.2.app e2'.2.2.2 = e.2.2.2
                    · rw [decide_eq_true v]
                      exact iteF ⟨_, _, _, rfl, s8.trans s8F, step (P := True) fun _ => eqI.mp v⟩
                    · rw [decide_eq_false v]
                      refine iteT ?_
                      refine no hq ?_ (ExtN.tr x05 (ExtN.of s5F)) (Tabs.ext s5F tb5)
                      rw [rB, if_neg ne, List.all_eq_false]
                      exact ⟨y, yl, fun z => v (eqI.mpr (of_decide_eq_true z))⟩
          · obtain ⟨w5, w7, w9, rfl, s8, al8⟩ := q
            rw [hm, List.take_length] at al8
            refine ⟨_, _, _, _, rfl, (s5.trans s6).trans s8, fun y hy => ?_⟩
            rw [List.take_add_one, yj] at hy
            rcases List.mem_append.mp hy with z | z
            · exact al5 y z
            · obtain rfl := List.mem_singleton.mp z
              rw [rB, if_neg ne, List.all_eq_true]
              exact fun y hy => decide_eq_true (al8 y (last_mem hy) hy)
      · obtain ⟨v4', v5', v7', v9', rfl, s5, al5⟩ := q
        rw [lZs, lc, List.take_length] at al5
        refine ⟨_, _, _, _, _, rfl, ExtN.tr x04 (ExtN.of s5), Tabs.ext s5 tb4, fun q hq => ?_⟩
        rw [pairs_sets (by rw [List.length_map]; exact hiS), Ai] at hq
        rcases List.mem_append.mp hq with z | z
        · exact al2 q z
        · obtain ⟨y, hy, rfl⟩ := List.mem_map.mp z
          exact al5 y hy
    · obtain ⟨v3, v4, v5, v7, v9, rfl, e2, tb2, al2⟩ := q
      rw [lS, ← List.length_map (f := fun p : Addr × List Int => p.2), List.take_length] at al2
      have := kk _ e2 tb2
      rw [List.all_eq_true.mpr al2] at this
      exact this
end
end OP
namespace OP
open PySem PySem.Spec PyProof.Rows GenW L2 LamX
theorem app_store {n : Nat} {L : Ncs} (ok : ChgsOk n L) : ∀ (ys : List Str), (∀ y ∈ ys, y ∈ names L) → ∀ xs : List Int, StoreOk xs → xs.length = n → StoreOk (appAll L ys xs) ∧ (appAll L ys xs).length = n
  | [], _, xs, sx, hn => ⟨sx, hn⟩
  | y :: ys, h, xs, sx, hn => by
    obtain ⟨j, hj, rfl⟩ := mem_names (h y List.mem_cons_self)
    have ch := ok.chg _ (List.getElem_mem hj)
    have ap := Chg.app_ok ch.1 sx (fun z hz => by rw [hn]; exact ch.2 z hz)
    show StoreOk (appAll L ys ((chgOf L L[j].1).app xs)) ∧ (appAll L ys ((chgOf L L[j].1).app xs)).length = n
    rw [chgOf_at ok.nd hj]
    exact app_store ok ys (fun z hz => h z (List.mem_cons_of_mem _ hz)) _ ap.1 (ap.2.trans hn)
theorem chg_twin {L M : Ncs} (e : nc M = nc L) (ndM : (names M).Nodup) (nd : (names L).Nodup) {y : Str} (h : y ∈ names L) : chgOf M y = chgOf L y := by
  obtain ⟨j, hj, rfl⟩ := mem_names h
  obtain ⟨hm, g1, g2⟩ := nc_at e hj
  rw [chgOf_at nd hj, ← g1, chgOf_at ndM hm, g2]
theorem right_twin {L M : Ncs} (e : nc M = nc L) (ndM : (names M).Nodup) (nd : (names L).Nodup) (E : Ents) (xs : List Ent) {A : List (List Int)} {ns : List Str} (sub : ∀ ys ∈ setsOf ns, ∀ y ∈ ys, y ∈ names L) : (pairsOf A ns).all (rightB M E xs) = (pairsOf A ns).all (rightB L E xs) := by
  have key : ∀ q ∈ pairsOf A ns, rightB M E xs q = rightB L E xs q := fun q hq => by
    obtain ⟨_, m2⟩ := mem_pairs.mp hq
    unfold rightB
    split
    · rfl
    · rw [Bool.eq_iff_iff, List.all_eq_true, List.all_eq_true]
      refine forall_congr' fun y => imp_congr_right fun hy => ?_
      rw [chg_twin e ndM nd (sub _ m2 y (last_mem hy))]
  rw [Bool.eq_iff_iff, List.all_eq_true, List.all_eq_true]
  exact forall_congr' fun q => imp_congr_right fun hq => by rw [key q hq]
theorem pairs_nodup {ns : List Str} (hn : (setsOf ns).Nodup) : ∀ {A : List (List Int)}, A.Nodup → (pairsOf A ns).Nodup
  | [], _ => List.nodup_nil
  | a :: A, nd => by
    obtain ⟨n1, n2⟩ := List.nodup_cons.mp nd
    show ((setsOf ns).map (fun y => (a, y)) ++ pairsOf A ns).Nodup
    refine List.nodup_append.mpr ⟨?_, pairs_nodup hn n2, fun x hx y hy e => ?_⟩
    · exact List.Pairwise.map _ (fun u v z q => z (Prod.mk.inj q).2) hn
    · obtain ⟨u, _, rfl⟩ := List.mem_map.mp hx
      rw [← e] at hy
      exact n1 (mem_pairs.mp hy).1
theorem gsets_nd : ∀ m, m ≤ 4 → (setsOf (gNames.take m)).Nodup := by decide +kernel
theorem find_some {xs : List Ent} {q : TK} (h : q ∈ xs.map (·.1)) : ∃ e, findN xs q = some e := by
  cases e : findN xs q with
  | some x => exact ⟨x, rfl⟩
  | none => exact absurd h (findN_none.mp (by rw [e] <;> rfl))
/-- the entries of a table of ends -/
theorem ents_ok {n : Nat} {S : Sts} {L : Ncs} {E : Ents} {xs : List Ent} (ok : WOk n S L) (al : AllowOk L E) (kx : xs.map (·.1) = pairsOf (S.map (·.2)) (names L)) (vx : ∀ x ∈ xs, ∃ o ∈ allowN E 4 x.1.2, x.2.2.2 = appAll L o x.1.1) : EntsOk n S L xs := by
  have key : ∀ x ∈ xs, x.1 ∈ pairsOf (S.map (·.2)) (names L) := fun x hx => by rw [← kx]; exact List.mem_map.mpr ⟨x, hx, rfl⟩
  refine ⟨key, fun x hx => ?_, fun q hq => find_some (by rw [kx]; exact hq), by rw [← kx, List.length_map]⟩
  obtain ⟨o, ho, e⟩ := vx x hx
  obtain ⟨m1, m2⟩ := mem_pairs.mp (key x hx)
  obtain ⟨so, hso, eso⟩ := List.mem_map.mp m1
  obtain ⟨sok, sln⟩ := ok.sts.each so hso
  rw [eso] at sok sln
  rw [e]
  exact app_store ok.chgs o (al.ord _ m2 o ho).mem _ sok sln
theorem EntsOk.by {n : Nat} {S : Sts} {L M : Ncs} {xs : List Ent} (e : names M = names L) (h : EntsOk n S L xs) : EntsOk n S M xs := ⟨by rw [e]; exact h.key, h.val, by rw [e]; exact h.all, by rw [e]; exact h.len⟩
theorem EntsOk.rev {n : Nat} {S : Sts} {L : Ncs} {xs : List Ent} (h : EntsOk n S L xs) : EntsOk n S L xs.reverse := by
  refine ⟨fun x hx => h.key x (List.mem_reverse.mp hx), fun x hx => h.val x (List.mem_reverse.mp hx), fun q hq => find_some ?_, by rw [List.length_reverse]; exact h.len⟩
  obtain ⟨e, he⟩ := h.all q hq
  obtain ⟨em, ek⟩ := find_key he
  exact List.mem_map.mpr ⟨e, List.mem_reverse.mpr em, ek⟩
theorem EntsOk.put {n : Nat} {S : Sts} {L : Ncs} {xs : List Ent} {q : TK} {k a : Addr} {zs : List Int} (h : EntsOk n S L xs) (hq : q ∈ pairsOf (S.map (·.2)) (names L)) (hz : StoreOk zs ∧ zs.length = n) : EntsOk n S L (putN xs q k a zs) := by
  obtain ⟨e, he⟩ := h.all q hq
  have ks : (putN xs q k a zs).map (·.1) = xs.map (·.1) := by rw [putN_keys, he] <;> rfl
  refine ⟨fun x hx => ?_, fun x hx => ?_, fun q' hq' => find_some ?_, ?_⟩
  · have : x.1 ∈ xs.map (·.1) := by rw [← ks]; exact List.mem_map.mpr ⟨x, hx, rfl⟩
    obtain ⟨y, hy, ey⟩ := List.mem_map.mp this
    rw [← ey]
    exact h.key y hy
  · rcases putN_mem hx with ⟨y, hy, _, _, e3 | ⟨_, e3⟩⟩ | rfl
    · rw [e3]; exact h.val y hy
    · rw [e3]; exact hz
    · exact hz
  · obtain ⟨e', he'⟩ := h.all q' hq'
    obtain ⟨em, ek⟩ := find_key he'
    rw [ks]
    exact List.mem_map.mpr ⟨e', em, ek⟩
  · rw [← h.len, ← List.length_map (f := fun x : Ent => x.1), ks, List.length_map]
theorem PrAt.rev {H : Hp} {ts : List Addr} {xs : List Ent} (h : PrAt H ts xs) : PrAt H ts.reverse xs.reverse := by
  unfold PrAt at h ⊢
  induction h with
  | nil => exact .nil
  | cons a b ih =>
    rw [List.reverse_cons, List.reverse_cons]
    exact Paired.snoc ih a
section
variable {D : Addr} {H H' H2 : Hp}
theorem Kn.upd (k : Kn D H H') {l : Addr} {x : HO} (hl : H l = none) (n : l ≠ D) : Kn D H (upd H' l x) := by
  refine ⟨k.a, k.b.upd n, fun a u na m e => ?_⟩
  rw [upd_ne (ne_of_none e hl)]
  exact k.k a u na m e
theorem Kn.same (k : Kn D H H') (s : Same H' H2) : Kn D H H2 := k.trans (Kd.of k.b s).n
theorem Kn.refl (d : StD D H) : Kn D H H := (Kd.refl d).n
theorem Kn.dT (k : Kn D H H') {x : Addr} {kv : List (List Key × V)} (h : H x = some (.dT kv)) : H' x = some (.dT kv) := k.at (fun _ z => by cases z) (fun _ z => by cases z) h
theorem TabAt.kn {P : Program} {w : PySem.World} {d : Addr} {xs : List Ent} (k : Kn D H H') (h : TabAt P w H d xs) : TabAt P w H' d xs :=
  ⟨k.at (fun _ z => by cases z) (fun _ z => by cases z) h.tab, h.sys, fun x hx => (h.keys x hx).keep fun b ys q => k.tup q, fun x hx => k.tup (h.vals x hx), h.nd, h.few⟩
theorem Kn.new (k : Kn D H H') {x : Addr} (h : H' x = none) (hn : ∀ ps, H x ≠ some (.tbl ps)) : H x = none := by
  cases e : H x with
  | none => rfl
  | some u =>
    by_cases xd : x = D
    · obtain ⟨ns, z⟩ := k.b
      rw [xd, z] at h
      cases h
    · rw [k.k x u xd (fun ps z => hn ps (by rw [e, z])) e] at h
      cases h
end
/-- store[:slot] + (value,) + store[slot + 1:], the value drawn -/
theorem repl_kd (K : PySem.W.Frag) {D : Addr} {tm : TE} {σ : L2.St} {H : Hp} {Q : VK} {a : Addr} {xs : List Int} {i : Nat} {p q : Nat} (hp : σ[p]? = some (some (.ref a))) (hq : σ[q]? = some (some (.int i))) (hD : StD D H)
    (ha : H a = some (.tup (xs.map V.int))) (h3 : xs.length ≤ 8) (hi : i < xs.length) (hm : ∀ H1 (Q' : VK), Kd D H H1 → (∀ v H2, Kd D H1 H2 → 0 ≤ v → v ≤ 7 → Q' (.int v) H2) → tm σ H1 Q') (k : ∀ r' v H', Kd D H H' → 0 ≤ v → v ≤ 7 → H' r' = some (.tup ((xs.set i v).map V.int)) → Q (.ref r') H') :
    tOp (rCatA K) (tOp (rCatA K) (tSl (rSlA K) (tVar p) tNoPart (tPart (tVar q))) (tTup (tCons tm tNil))) (tSl (rSlA K) (tVar p) (tPart (tOp (rI0 fun i j => .int (i + j)) (tVar q) (tC (.int 1)))) tNoPart) σ H Q := by
  refine ⟨_, hp, _, hq, i, rfl, a, _, rfl, SqT.of ha, fun z => ?_, fun _ p1 hp1 => ?_⟩
  · rw [HT.sIx_nat, List.length_map, Nat.min_eq_left (Nat.le_of_lt hi)] at z
    omega
  rw [cut_lo hi]
  have s1 : Same H _ := same_upd (o := .tup ((xs.take i).map V.int)) hp1
  refine hm _ _ (Kd.of hD s1) fun n H2 k2 n0 n7 => ⟨(by show 1 ≤ sizeLine; decide), fun t ht => ?_⟩
  have k12 : Kd D H H2 := (Kd.of hD s1).trans k2
  have p2 : H2 p1 = some (.tup ((xs.take i).map V.int)) := k2.tup upd_same
  have s2 : Same H2 _ := same_upd (o := .tup [V.int n]) ht
  have hp2 : upd H2 t (.tup [V.int n]) p1 = some (.tup ((xs.take i).map V.int)) := s2 _ _ p2
  have e1 : ((xs.take i).map V.int).length + [V.int n].length ≤ sizeLine := by
    rw [List.length_map, List.length_take]
    exact Nat.le_trans (show _ ≤ 9 from by simp; omega) (by decide)
  have fin : ∀ (r2 : Addr) (H3 : Hp), Same H2 H3 → H3 r2 = some (.tup ((xs.take i ++ [n]).map V.int)) → tSl (rSlA K) (tVar p) (tPart (tOp (rI0 fun i j => .int (i + j)) (tVar q) (tC (.int 1)))) tNoPart σ H3 (fun y H4 => rCatA K (.ref r2) y H4 Q) := by
    intro r2 H3 s3 e3
    refine ⟨_, hp, _, hq, _, _, rfl, rfl, _, rfl, a, _, rfl, SqT.of (s3 _ _ (k12.tup ha)), fun z => ?_, fun _ p2 hp2' => ?_⟩
    · have z1 := z.1
      rw [show ((i : Int) + 1) = ((i + 1 : Nat) : Int) from rfl, HT.sIx_nat, List.length_map] at z1
      omega
    rw [show ((i : Int) + 1) = ((i + 1 : Nat) : Int) from rfl, cut_hi (Nat.succ_le_of_lt hi)]
    have e4 : upd H3 p2 (.tup ((xs.drop (i + 1)).map V.int)) r2 = some (.tup ((xs.take i ++ [n]).map V.int)) := by rw [upd_ne (ne_of_none e3 hp2')]; exact e3
    have s4 := s3.push (o := .tup ((xs.drop (i + 1)).map V.int)) hp2'
    refine ⟨r2, p2, _, _, rfl, rfl, SqT.of e4, SqT.of upd_same, ?_, fun z => ?_, fun _ z => ?_, fun _ _ p3 hp3 => ?_⟩
    · rw [List.length_map, List.length_map, List.length_append, List.length_take, List.length_drop]
      exact Nat.le_trans (show _ ≤ 20 from by simp; omega) (by decide)
    · have := congrArg List.length z
      simp at this
    · refine k r2 n _ (k12.same s4) n0 n7 ?_
      have z2 : xs.drop (i + 1) = [] := List.map_eq_nil_iff.mp z
      rw [set_cut hi, show xs.take i ++ n :: xs.drop (i + 1) = xs.take i ++ [n] by rw [z2]]
      exact e4
    · refine k p3 n _ (k12.same (s4.push hp3)) n0 n7 ?_
      rw [upd_same, set_cut hi, ← List.map_append, List.append_assoc] <;> rfl
  refine ⟨p1, t, _, _, rfl, rfl, SqT.of hp2, SqT.of upd_same, e1, fun z => ?_, fun _ z => ?_, fun _ _ p3 hp3 => ?_⟩
  · have z2 : xs.take i = [] := List.map_eq_nil_iff.mp z
    exact fin t _ s2 (by rw [z2]; exact upd_same)
  · cases z
  · refine fin p3 _ (s2.push hp3) ?_
    rw [upd_same, List.map_append] <;> rfl
theorem set_store {xs : List Int} {i : Nat} {v : Int} (h : StoreOk xs) (h0 : 0 ≤ v) (h7 : v ≤ 7) : StoreOk (xs.set i v) := by
  refine ⟨by rw [List.length_set]; exact h.lo, by rw [List.length_set]; exact h.hi, fun x hx => ?_⟩
  rcases List.mem_or_eq_of_mem_set hx with z | z
  · exact h.each x z
  · rw [z]; exact ⟨h0, h7⟩
/-! ### a reading in place of another that follows from it -/
theorem pe_imp {X : Cx} {e : Expr} {t t2 : TE} (h : PE X e t) (f : ∀ σ H Q, t2 σ H Q → t σ H Q) : PE X e t2 := ⟨fun pins s σ H Q I q => h.run pins s σ H Q I (f σ H Q q)⟩
theorem pt_imp {X : Cx} {e : Expr} {t t2 : TT} (h : PT X e t) (f : ∀ σ H Q, t2 σ H Q → t σ H Q) : PT X e t2 := ⟨fun pins s σ H Q I q => h.run pins s σ H Q I (f σ H Q q)⟩
theorem pol_nil {ns : List Str} (nd : ns.Nodup) : PolOk [] ns := ⟨fun e he => (by cases he), cyc_fwd nd (fun a b h => by cases h) 4 ns fun z hz => hz, by decide⟩
/-- a drawn policy, or the empty one -/
def tPol : TE := fun σ H Q => ∃ (D nl : Addr) (i : Int) (ns : List Str), σ[1]? = some (some (.ref D)) ∧ σ[4]? = some (some (.ref nl)) ∧ σ[5]? = some (some (.int i)) ∧ StD D H ∧ H nl = some (.lst (ns.map V.str)) ∧ ns.Nodup ∧ 2 ≤ ns.length ∧ ns.length ≤ 4 ∧
  ∀ H2 pd E, Kd D H H2 → H2 pd = some (.dT (pol E)) → PolOk E ns → Q (.ref pd) H2
/-- a policy that is enough has these ends -/
def tEnds (P : Program) (w : PySem.World) (K : PySem.W.Frag) : TT := fun σ H Q => ∃ (p pd tb : Addr) (n : Nat) (S : Sts) (M : Ncs) (E : Ents) (xs : List Ent), σ[3]? = some (some (.ref p)) ∧ σ[6]? = some (some (.ref pd)) ∧ σ[7]? = some (some (.ref tb)) ∧ WorldAt K H p n S M ∧ WOk n S M ∧ H pd = some (.dT (pol E)) ∧ PolOk E (names M) ∧ AllowOk M E ∧ (pairsOf (S.map (·.2)) (names M)).Nodup ∧ TabAt P w H tb xs ∧ EntsOk n S M xs ∧
  ((splitM M E (pairsOf (S.map (·.2)) (names M))).isNone = true → ∀ q ∈ pairsOf (S.map (·.2)) (names M), valN xs q = endM M E q) ∧ ∀ H', Same H H' → Q false H'
end OP
namespace OP
open PySem PySem.Spec PyProof.Rows GenW L2 LamX
theorem nodup_rev {α : Type} {xs : List α} (h : xs.Nodup) : xs.reverse.Nodup := List.pairwise_reverse.mpr (List.Pairwise.imp (fun z => Ne.symm z) h)
theorem bl_same {a b : Bool} (h : a = b) : decide (V.bl a = V.bl b) = true := decide_eq_true (by rw [h])
section
variable {P : Program} {w : PySem.World} {K : PySem.W.Frag} {mg : Str → Option Value} {base : Heap}
theorem ends_go {σ : L2.St} {H : Hp} {Q : Bool → Hp → Prop} (h : tEnds P w K σ H Q) : tAnd (tB (tCall (spEnough K) [] E0 (tCons (tVar 3) (tCons (tVar 6) tNil)))) (tTest (tOp (rNeN P w) (tCall (spEnds P w K) [] E0 (tCons (tVar 3) (tCons (tVar 6) tNil))) (tVar 7))) σ H Q := by
  obtain ⟨p, pd, tb, n, S, M, E, xs, h3, h6, h7, W, ok, hpd, po, al, pnd, tx, eo, same, kk⟩ := h
  refine ⟨_, h3, _, h6, p, pd, n, S, M, E, rfl, W, ok, ok.chgs.nd, hpd, po, al, fun H1 s1 => ⟨_, rfl, ?_⟩⟩
  cases hb : (splitM M E (pairsOf (S.map (·.2)) (names M))).isNone with
  | false => exact iteF (kk _ s1)
  | true =>
    refine iteT ⟨_, h3, _, h6, p, pd, n, S, M, E, rfl, W.ext s1, ok, s1 _ _ hpd, po, al, Option.isNone_iff_eq_none.mp hb, pnd, fun H2 r ys s2 _ t2 c2 => ?_⟩
    have s12 := s1.trans s2
    refine ⟨_, h7, r, tb, ys, xs, rfl, rfl, t2, tx.ext s12, ?_, fun y hy => ?_, false, rfl, kk _ s12⟩
    · have := congrArg List.length c2
      unfold tc at this
      rw [List.length_map, List.length_map] at this
      rw [this, eo.len]
    · have hm : (y.1, y.2.2.2) ∈ tc ys := List.mem_map.mpr ⟨y, hy, rfl⟩
      rw [c2] at hm
      obtain ⟨q, hq, e⟩ := List.mem_map.mp hm
      injection e with e1 e2
      obtain ⟨x, hx⟩ := eo.all q hq
      refine ⟨x, by rw [← e1]; exact hx, ?_⟩
      rw [← e2, ← val_of hx]
      exact same hb q hq
theorem pol_go {σ : L2.St} {H : Hp} {Q : VK} (h : tPol σ H Q) : tIf (tTest (tOp (rI0 fun i j => V.bl (decide (j < i))) (tVar 5) (tC (V.int 0)))) (tCall (spDPol K) [] E0 (tCons (tVar 1) (tCons (tVar 4) tNil))) tDNewT σ H Q := by
  obtain ⟨D, nl, i, ns, h1, h4, h5, hD, hnl, nd, l1, l2, kk⟩ := h
  refine ⟨_, h5, _, _, rfl, rfl, _, rfl, ?_⟩
  by_cases c : (0 : Int) < i
  · rw [decide_eq_true c]
    exact iteT ⟨_, h1, _, h4, D, nl, ns, rfl, hD, hnl, nd, l1, l2, fun H' r E k _ e po => kk _ r E k e po⟩
  · rw [decide_eq_false c]
    exact iteF fun p hp => kk _ p [] (Kd.of hD (same_upd hp)) upd_same (pol_nil nd)
def spLaw (K : PySem.W.Frag) (Pt : Addr) : Sp := fun vs H Q _ => ∃ (a : Addr) (ns : List Int), vs = [.ref a] ∧ SqL K H a (ns.map V.int) ∧ Tabs [(Pt, lamQ)] H ∧ ∀ H', Q (.bl true) H'
abbrev nLaw : List Str := ["_law_script", "_law_draws", "_law_plan", "_law_built_here", "_law_names_here", "_law_turn", "_law_policy", "_law_table_here", "_law_turned", "_law_more", "_law_spot", "_law_store", "_law_slot"]
theorem sc_law : FnScope nLaw ["_law_script"] (defScope s_law) := ⟨rfl, rfl, rfl, by decide +kernel, rfl, by decide +kernel, by decide +kernel⟩
theorem fn_law (T : Txt K mg) {Pt : Addr} (LT : LamTab K mg base Pt) {fd : FuncData} (FL : Fun K "law" "law" s_law (a_law K) fd) : FnOk P w K mg base CX0 13 (a_law K) fd ["_law_script"] (spLaw K Pt) := by
  have GPo : Ok P w K mg base (a__law_pool K) _ 4 (spPool K) := ok_pool T
  have GDW : Ok P w K mg base (a__law_drawn_world K) _ 3 spDW := ok_dw T
  have GB : Ok P w K mg base (a__law_built K) _ 9 (spBuilt K) := ok_built T
  have GNm : Ok P w K mg base (a__law_names K) _ 1 (spLNames K) := ok_lnames T
  have GDP : Ok P w K mg base (a__law_drawn_policy K) _ 2 (spDPol K) := ok_dpol T
  have GTb : Ok P w K mg base (a__law_table K) _ 6 (spLTab P w K Pt) := ok_ltab T LT
  have GIs : Ok P w K mg base (a__law_is_table K) _ 6 (spLIs P w K Pt) := ok_lis T LT
  have GT : Ok P w K mg base (a_is_table K) _ 7 (spTable P w K) := ok_table T
  have GEn : Ok P w K mg base (a_is_enough K) _ 9 (spEnough K) := ok_enough T
  have GE : Ok P w K mg base (a_ends K) _ 10 (spEnds P w K) := ok_ends T
  have GK : Ok P w K mg base (a__law_take K) _ 1 spTake := ok_take T
  refine FL.ok sc_law (fun vs H Q E h => ?_) (fun cdv A outer s0 H vs Q E hr h => ?_)
  · obtain ⟨a, ns, rfl, _⟩ := h
    rfl
  · obtain ⟨a, ns, rfl, ha, tabs, kk⟩ := h
    have rm : ∀ {k : Nat}, k ≤ 12 → Room k _ := fun h => hr.mono h
    have r1 : Room 1 _ := rm (by decide)
    have r2 : Room 2 _ := rm (by decide)
    have r3 : Room 3 _ := rm (by decide)
    have r4 : Room 4 _ := rm (by decide)
    have r6 : Room 6 _ := rm (by decide)
    have r7 : Room 7 _ := rm (by decide)
    have r9 : Room 9 _ := rm (by decide)
    have r10 : Room 10 _ := rm (by decide)
    refine ⟨_, (pss_cons (ps_set (i := 0) sc_law.nd rfl (Or.inl rfl) (pe_slice sl_list (pv 0) po_none (po_some pe_int)))
      (pss_cons (ps_set (i := 1) sc_law.nd rfl (Or.inl rfl) (pe_c GPo r4 T.g__law_pool (pa_cons (pv 0) (pa_cons (pe_tup (pa_cons pe_int (pa_cons pe_int pa_nil))) pa_nil))))
      (pss_cons (ps_set (i := 2) sc_law.nd rfl (Or.inl rfl) (pe_c GDW r3 T.g__law_drawn_world (pa_cons (pv 1) (pa_cons pe_int pa_nil))))
      (pss_cons (ps_par rfl sc_law.nd (i := 3) (j := 4) rfl rfl (by decide) rfl rfl (pa_cons (pe_c GB r9 T.g__law_built (pa_cons (pv 2) pa_nil)) (pa_cons (pe_c GNm r1 T.g__law_names (pa_cons (pv 2) pa_nil)) pa_nil)) (by rfl))
      (pss_cons (ps_for PassesOwn.never rfl (pi_range1 (by rfl) T.z_range (pa_cons pe_int pa_nil)) (pg_name (i := 5) sc_law.nd rfl (Or.inl rfl)) (pss_cons (ps_set (i := 6) sc_law.nd rfl (Or.inl rfl) (pe_imp (t2 := tPol) (pe_ifExp (pt_cmpR op_gt (pv 5) pe_int (nomark _)) (pe_c GDP r2 T.g__law_drawn_policy (pa_cons (pv 1) (pa_cons (pv 4) pa_nil))) pe_dnewT) (fun σ H Q h => pol_go h)))
      (pss_cons (ps_set (i := 7) sc_law.nd rfl (Or.inl rfl) (pe_c GTb r6 T.g__law_table (pa_cons (pv 2) (pa_cons (pv 6) pa_nil))))
      (pss_cons (ps_if (PW.pt (pw_or (pt_cmpR op_ne (pe_c GT r7 T.g_is_table (pa_cons (pv 3) (pa_cons (pv 6) (pa_cons (pv 7) pa_nil)))) (pe_c GEn r9 T.g_is_enough (pa_cons (pv 3) (pa_cons (pv 6) pa_nil))) (nomark _)) (pw_or1 (pt_cmpR op_ne (pe_c GEn r9 T.g_is_enough (pa_cons (pv 3) (pa_cons (pv 6) pa_nil))) (pe_c GIs r6 T.g__law_is_table (pa_cons (pv 2) (pa_cons (pv 6) (pa_cons (pv 7) pa_nil)))) (nomark _))))) (pss_one (ps_ret pe_bl)) pss_nil)
      (pss_cons (ps_if (pt_imp (t2 := tEnds P w K) (PW.pt (pw_and (pt_val (pe_c GEn r9 T.g_is_enough (pa_cons (pv 3) (pa_cons (pv 6) pa_nil)))) (pw_and1 (pt_cmpR (op_neN (room64 hr)) (pe_c GE r10 T.g_ends (pa_cons (pv 3) (pa_cons (pv 6) pa_nil))) (pv 7) (nomark _))))) (fun σ H Q h => ends_go h)) (pss_one (ps_ret pe_bl)) pss_nil)
      (pss_cons (ps_set (i := 8) sc_law.nd rfl (Or.inl rfl) (pe_callTy (call_ndict rfl (room64 hr)) (by rfl) T.z_dict (by decide +kernel) (pa_cons (pe_revL (pe_nitems rfl (pv 7) (by rfl) T.z_list (by decide +kernel))) pa_nil)))
      (pss_one (ps_for PassesOwn.never rfl (pi_range1 (by rfl) T.z_range (pa_cons pe_int pa_nil)) (pg_name (i := 9) sc_law.nd rfl (Or.inl rfl)) (pss_cons (ps_set (i := 10) sc_law.nd rfl (Or.inl rfl) (pe_ix ix_list (pe_callTy (call_nlist rfl) (by rfl) T.z_list (by decide +kernel) (pa_cons (pv 8) pa_nil)) (pe_c GK r1 T.g__law_take (pa_cons (pv 1) (pa_cons (pe_callB call_nlen (by rfl) T.z_len PySem.boot_len (pa_cons (pv 8) pa_nil)) pa_nil))) (fun _ _ => rfl)))
      (pss_cons (ps_par rfl sc_law.nd (i := 11) (j := 12) rfl rfl (by decide) rfl rfl (pa_cons (pe_nget (room64 hr) (pv 8) (pv 10) (fun _ _ => rfl)) (pa_cons (pe_c GK r1 T.g__law_take (pa_cons (pv 1) (pa_cons (pe_ix ix_tup (pv 2) pe_int (fun _ _ => rfl)) pa_nil))) pa_nil)) (by rfl))
      (pss_cons (ps_nput (room64 hr) (pv 8) (pv 10) (pe_op op_catA (pe_op op_catA (pe_slice sl_tupA (pv 11) po_none (po_some (pv 12))) (pe_tup (pa_cons (pe_op op_mod (pe_op op_add (pe_ix ix_tup (pv 11) (pv 12) (fun _ _ => rfl)) (pe_c GK r1 T.g__law_take (pa_cons (pv 1) (pa_cons pe_int pa_nil)))) pe_int) pa_nil))) (pe_slice sl_tupA (pv 11) (po_some (pe_op op_add (pv 12) pe_int)) po_none)) rfl)
      (pss_one (ps_if (pt_cmpR op_ne (pe_c GT r7 T.g_is_table (pa_cons (pv 3) (pa_cons (pv 6) (pa_cons (pv 8) pa_nil)))) (pe_c GIs r6 T.g__law_is_table (pa_cons (pv 2) (pa_cons (pv 6) (pa_cons (pv 8) pa_nil)))) (nomark _)) (pss_one (ps_ret pe_bl)) pss_nil)))))))))))))
      (pss_one (ps_ret pe_bl))))))), ?_⟩
    refine ⟨_, rfl, 63, rfl, a, _, rfl, ha, fun sc hsc => ?_⟩
    obtain ⟨ms, ems⟩ := cut_ints ns none (some 63)
    rw [ems]
    have s1 : Same H _ := same_upd (o := .lst (ms.map V.int)) hsc
    refine ⟨_, rfl, (by show 2 ≤ sizeLine; decide), fun bt hbt => ?_⟩
    have s2 : Same H _ := s1.push (o := .tup [V.int 1000003, V.int 999983]) hbt
    have sq2 : upd (upd H sc (.lst (ms.map V.int))) bt (.tup [V.int 1000003, V.int 999983]) sc = some (.lst (ms.map V.int)) := by rw [upd_ne (ne_of_none upd_same hbt)]; exact upd_same
    refine ⟨sc, bt, ms, rfl, SqL.of sq2, upd_same, fun D H2 s3 st2 => ?_⟩
    have t2 := Tabs.ext (s2.trans s3) tabs
    refine ⟨_, rfl, D, 4, rfl, by decide, by decide, st2, fun H3 t n S Z m k3 PL3 ok S3 m2 m4 nm => ?_⟩
    have m4 : m ≤ 4 := by omega
    have t3 := tabs_kd k3 t2
    refine ⟨_, rfl, t, n, S, Z, rfl, PL3, ok, fun H4 p M s4 W4 eM => ?_⟩
    have z2 : 2 ≤ Z.length := by rw [← ncs_len]; exact ok.chgs.lo
    have z4 : Z.length ≤ 4 := by rw [← ncs_len]; exact ok.chgs.hi
    refine ⟨_, rfl, t, n, S, Z, rfl, PL3.ext s4, z4, fun HB nl s5 hnl => ⟨_, _, rfl, ?_⟩⟩
    have s45 := s4.trans s5
    have PL := PL3.ext s45
    have W := W4.ext s5
    have tB := Tabs.ext s45 t3
    have stB : StD D HB := k3.b.ext s45
    clear PL3 W4 t3 t2 k3 s45 s5 s4 s3 sq2 s2 s1 tabs ha
    have okM := ok.twin eM
    have nML : names M = names (ncs Z) := by rw [nc_names, eM, ← nc_names]
    have nM : names M = gNames.take m := by rw [nML, nm]
    have nd := ok.chgs.nd
    have ndM := okM.chgs.nd
    have ndg : (gNames.take m).Nodup := by rw [← nm]; exact nd
    have lgm : (gNames.take m).length = m := by
      rw [List.length_take]
      show min m 4 = m
      omega
    have ngm : gNames.take m ≠ [] := ne_of_len (n := 1) (by omega)
    rw [nm] at hnl
    have pnd : (pairsOf (S.map (·.2)) (gNames.take m)).Nodup := pairs_nodup (gsets_nd m m4) ok.sts.nd
    have subs : ∀ ys ∈ setsOf (gNames.take m), ∀ y ∈ ys, y ∈ names (ncs Z) := fun ys h y hy => by
      rw [nm]
      exact (sets_sub (by omega) (by omega) h).subset hy
    refine ⟨4, rfl, by decide, by decide, ?_⟩
    refine for_range (fun i σ H' => ∃ v5 v6 v7 v8 v9 v10 v11 v12, σ = [some (.ref sc), some (.ref D), some (.ref t), some (.ref p), some (.ref nl), v5, v6, v7, v8, v9, v10, v11, v12] ∧ Kn D HB H' ∧ Tabs [(Pt, lamQ)] H')
      ⟨_, _, _, _, _, _, _, _, rfl, Kn.refl stB, tB⟩ (fun i σ H1 hi q => ?_) fun σ H1 q => ?_
    · obtain ⟨v5, v6, v7, v8, v9, v10, v11, v12, rfl, k1, tb1⟩ := q
      refine ⟨D, nl, _, gNames.take m, rfl, rfl, rfl, k1.b, k1.strs ngm hnl, ndg, by omega, by omega, fun H2 pd E' kd2 hpd po => ?_⟩
      have k2 := k1.trans kd2.n
      have tb2 := tabs_kd kd2 tb1
      have PL2 := PL.kn ok k2
      have W2 := W.kn okM k2
      have poM : PolOk E' (names M) := by rw [nM]; exact po
      have alM := allow_ok okM poM
      have alZ := allow_ok ok (by rw [nm]; exact po)
      refine ⟨_, rfl, _, rfl, t, pd, n, m, S, Z, E', rfl, PL2, ok, m2, m4, nm, hpd, po, pnd, tb2, fun H3 tb xs x3 tb3 _ t3 kx vx => ?_⟩
      have k3 := k2.trans (Kn.of k2.b x3)
      have hpd3 : H3 pd = some (.dT (pol E')) := (Ke.of x3).dT hpd
      have PL3 := PL.kn ok k3
      have W3 := W.kn okM k3
      have eoZ : EntsOk n S (ncs Z) xs := ents_ok ok alZ (by rw [nm]; exact kx) vx
      have eoM : EntsOk n S M xs := eoZ.by nML
      have hT : ∀ q ∈ pairsOf (S.map (·.2)) (names M), ∃ o ∈ allowN E' 4 q.2, valN xs q = appAll M o q.1 := fun q hq => by
        obtain ⟨e, he⟩ := eoM.all q hq
        obtain ⟨em, ek⟩ := find_key he
        obtain ⟨o, ho, eo'⟩ := vx e em
        rw [ek] at ho eo'
        refine ⟨o, ho, ?_⟩
        rw [val_of he, eo']
        refine (app_twin eM ndM nd o (fun y hy => ?_) q.1).symm
        rw [← nML]
        exact (alM.ord q.2 (mem_pairs.mp hq).2 o ho).mem y hy
      have lM : (names M).length = m := by rw [nM, lgm]
      have te : (pairsOf (S.map (·.2)) (names M)).all (rightB M E' xs) = (splitM M E' (pairsOf (S.map (·.2)) (names M))).isNone := table_enough poM.irr ndM (by omega) (by omega) alM.some hT
      have tw : (pairsOf (S.map (·.2)) (names M)).all (rightB M E' xs) = (pairsOf (S.map (·.2)) (gNames.take m)).all (rightB (ncs Z) E' xs) := by
        rw [nM]
        exact right_twin eM ndM nd E' xs subs
      refine ⟨_, rfl, _, rfl, _, rfl, p, pd, tb, n, S, M, E', xs, rfl, W3, okM, hpd3, poM, t3, eoM, fun H4 s4 => ?_⟩
      refine ⟨_, rfl, _, rfl, p, pd, n, S, M, E', rfl, W3.ext s4, okM, ndM, s4 _ _ hpd3, poM, alM, fun H5 s5 => ⟨rfl, _, rfl, ?_⟩⟩
      rw [bl_same te]
      refine iteF ?_
      have s45 := s4.trans s5
      refine ⟨_, rfl, _, rfl, p, pd, n, S, M, E', rfl, W3.ext s45, okM, ndM, s45 _ _ hpd3, poM, alM, fun H6 s6 => ?_⟩
      have s46 := s45.trans s6
      refine ⟨_, rfl, _, rfl, _, rfl, t, pd, tb, n, m, S, Z, E', xs, rfl, PL3.ext s46, ok, m2, m4, nm, s46 _ _ hpd3, t3.ext s46, eoZ, Tabs.ext s46 tb3, fun H7 x7 tb7 => ⟨rfl, _, rfl, ?_⟩⟩
      rw [bl_same (te.symm.trans tw)]
      refine iteF ?_
      have x37 : ExtN H3 H7 := ExtN.tr (ExtN.of s46) x7
      have k7 := k3.trans (Kn.of k3.b x37)
      have hpd7 := (Ke.of x37).dT hpd3
      have t7 := t3.exn x37
      refine ⟨p, pd, tb, n, S, M, E', xs, rfl, rfl, rfl, W.kn okM k7, okM, hpd7, poM, alM, by rw [nM]; exact pnd, t7, eoM, (fun hn q hq => ends_same hn hT hq), fun H8 s8 => iteF ?_⟩
      have k8 := k7.same s8
      have t8 := t7.ext s8
      have tb8 := Tabs.ext s8 tb7
      have hpd8 := s8 _ _ hpd7
      refine ⟨_, rfl, tb, xs, rfl, t8, fun H9 lp ts s9 _ l9 pr9 => ⟨lp, _, rfl, SqL.of l9, fun lr hlr => ?_⟩⟩
      have s9 : Same H8 H9 := s9
      have s10 : Same H9 _ := same_upd (o := .lst (ts.map V.ref).reverse) hlr
      have l10 : upd H9 lr (.lst (ts.map V.ref).reverse) lr = some (.lst (ts.reverse.map V.ref)) := by rw [upd_same, List.map_reverse]
      have s810 := s9.trans s10
      have k10 := k8.same s810
      have tb10 := Tabs.ext s810 tb8
      have t10 := t8.ext s810
      have hpd10 := s810 _ _ hpd8
      have pr10 : PrAt (upd H9 lr (.lst (ts.map V.ref).reverse)) ts.reverse xs.reverse := PrAt.rev (Paired.mapP pr9 fun a b z => s10 _ _ z)
      generalize upd H9 lr (.lst (ts.map V.ref).reverse) = Hb at s10 l10 s810 k10 tb10 t10 hpd10 pr10
      refine ⟨lr, ts.reverse, xs.reverse, rfl, l10, pr10, (fun x hx => t10.keys x (List.mem_reverse.mp hx)), (by rw [List.map_reverse]; exact nodup_rev t10.nd), (by rw [List.length_reverse]; exact t10.few), fun td htd tsys => ?_⟩
      have s11 : Same Hb _ := same_upd (o := TabO P w td xs.reverse) htd
      have t11 : TabAt P w (upd Hb td (TabO P w td xs.reverse)) td xs.reverse := ⟨upd_same, tsys, (fun x hx => (t10.keys x (List.mem_reverse.mp hx)).ext s11), (fun x hx => s11 _ _ (t10.vals x (List.mem_reverse.mp hx))), (by rw [List.map_reverse]; exact nodup_rev t10.nd), (by rw [List.length_reverse]; exact t10.few)⟩
      have tdD : td ≠ D := k10.b.new htd
      refine ⟨4, rfl, by decide, by decide, ?_⟩
      refine for_range (fun i2 σ H' => ∃ v9 v10 v11 v12 ts', σ = [some (.ref sc), some (.ref D), some (.ref t), some (.ref p), some (.ref nl), some (.int (0 + (i : Nat))), some (.ref pd), some (.ref tb), some (.ref td), v9, v10, v11, v12] ∧ Kn D Hb H' ∧ Tabs [(Pt, lamQ)] H' ∧ TabAt P w H' td ts' ∧ EntsOk n S (ncs Z) ts')
        ⟨_, _, _, _, xs.reverse, rfl, (Kn.refl k10.b).same s11, Tabs.ext s11 tb10, t11, eoZ.rev⟩ (fun i2 σ G1 hi2 q => ?_) fun σ G1 q => ?_
      · obtain ⟨v9, v10, v11, v12, us, rfl, kb1, tg1, tu1, eu⟩ := q
        have lu : us.length = (pairsOf (S.map (·.2)) (gNames.take m)).length := by rw [eu.len, nm]
        have lu1 : 1 ≤ us.length := by
          obtain ⟨st, hst⟩ := List.exists_mem_of_ne_nil _ (ne_of_len ok.sts.lo)
          have : (st.2, ([] : List Str)) ∈ pairsOf (S.map (·.2)) (gNames.take m) := mem_pairs.mpr ⟨List.mem_map.mpr ⟨st, hst, rfl⟩, sub_sets (by omega) (by omega) (List.nil_sublist _)⟩
          rw [lu]
          exact List.length_pos_of_mem this
        have lu2 : us.length ≤ 128 := by
          rw [lu]
          exact pairs_len (by omega) (by omega) (by rw [List.length_map]; exact ok.sts.hi)
        refine ⟨_, rfl, td, us, rfl, tu1, fun ll hll => ?_⟩
        have s2 : Same G1 _ := same_upd (o := .lst (us.map fun x => V.ref x.2.1)) hll
        have e2 : upd G1 ll (.lst (us.map fun x => V.ref x.2.1)) ll = some (.lst (us.map fun x => V.ref x.2.1)) := upd_same
        have kb2 := kb1.same s2
        have tg2 := Tabs.ext s2 tg1
        have tu2 := tu1.ext s2
        have llD : ll ≠ D := kb1.b.new hll
        generalize upd G1 ll (.lst (us.map fun x => V.ref x.2.1)) = G2 at s2 e2 kb2 tg2 tu2
        refine ⟨_, rfl, _, rfl, td, us, rfl, tu2, D, _, rfl, by omega, kb2.b, fun G3 kd3 v3 a3 b3 => ?_⟩
        have kb3 := kb2.trans kd3.n
        have tg3 := tabs_kd kd3 tg2
        have tu3 := tu2.kn kd3.n
        have e3 := kd3.k _ _ llD e2
        have lmu : (us.map fun x => V.ref x.2.1).length = us.length := List.length_map ..
        obtain ⟨hv, av⟩ := at_in (xs := us.map fun x => V.ref x.2.1) a3 (by rw [lmu]; exact b3)
        have hvu : v3.toNat < us.length := by rw [← lmu]; exact hv
        rw [List.getElem_map] at av
        have mu : us[v3.toNat] ∈ us := List.getElem_mem hvu
        refine ⟨ll, _, v3, _, rfl, rfl, SqL.of e3, av, ?_⟩
        have hq := eu.key _ mu
        obtain ⟨e, he⟩ := eu.all _ hq
        obtain ⟨em, ek⟩ := find_key he
        obtain ⟨v1, v2⟩ := eu.val e em
        have kx3 := tu3.keys _ mu
        refine ⟨_, rfl, _, rfl, td, us, us[v3.toNat].2.1, us[v3.toNat].1, e, rfl, rfl, tu3, kx3, he, ?_⟩
        have PG3 := PL.kn ok (k10.trans kb3)
        obtain ⟨⟨l, r, ht, _, _⟩, _, _⟩ := id PG3
        have n1 := ok.n1
        have n3 := ok.n3
        refine ⟨_, rfl, _, rfl, t, _, 0, _, rfl, rfl, SqT.of ht, rfl, D, (n : Int), rfl, by omega, kb3.b, fun G4 kd4 v4 a4 b4 => ⟨_, _, rfl, ?_⟩⟩
        obtain ⟨sl, rfl⟩ : ∃ j : Nat, v4 = (j : Int) := ⟨v4.toNat, by omega⟩
        have kb4 := kb3.trans kd4.n
        have tg4 := tabs_kd kd4 tg3
        have tu4 := tu3.kn kd4.n
        have kx4 := tu4.keys _ mu
        have ve4 := tu4.vals e em
        have hsl : sl < e.2.2.2.length := by omega
        refine repl_kd K (D := D) (xs := e.2.2.2) (i := sl) (p := 11) (q := 12) rfl rfl kb4.b ve4 (by omega) hsl (fun G5 Q' kd5 kq => ?_) fun r6 v6 G6 kd6 z0 z7 e6 => ?_
        · have at5 : atI (e.2.2.2.map V.int) (sl : Int) = some (V.int e.2.2.2[sl]) := by
            obtain ⟨h1, h2⟩ := at_in (xs := e.2.2.2.map V.int) (i := (sl : Int)) (by omega) (by rw [List.length_map]; omega)
            rw [List.getElem_map] at h2
            exact h2
          refine ⟨_, rfl, _, rfl, e.2.2.1, _, (sl : Int), _, rfl, rfl, SqT.of (kd5.tup ve4), at5, _, rfl, D, 3, rfl, by decide, kd5.b, fun G6 kd6 v a b => ?_⟩
          exact ⟨_, _, rfl, rfl, _, _, rfl, rfl, (by show (0 : Int) < 8; decide), kq _ _ kd6 (Int.emod_nonneg _ (by decide)) (by have := Int.emod_lt_of_pos (e.2.2.2[sl] + v) (show (0 : Int) < 8 by decide); omega)⟩
        · have kb6 := kb4.trans kd6.n
          have tg6 := tabs_kd kd6 tg4
          have tu6 := tu4.kn kd6.n
          have kx6 := tu6.keys _ mu
          have few : us.length < 200 := by omega
          refine ⟨_, rfl, _, rfl, td, us, us[v3.toNat].2.1, us[v3.toNat].1, r6, _, rfl, rfl, rfl, tu6, kx6, e6, few, ?_⟩
          have tu7 := tu6.put kx6 e6 few
          have tg7 : Tabs [(Pt, lamQ)] (upd G6 td (TabO P w td (putN us us[v3.toNat].1 us[v3.toNat].2.1 r6 (e.2.2.2.set sl v6)))) := Tabs.off tu6.tab tg6
          have kb7 : Kn D Hb (upd G6 td (TabO P w td (putN us us[v3.toNat].1 us[v3.toNat].2.1 r6 (e.2.2.2.set sl v6)))) := kb6.upd htd tdD
          have eu7 : EntsOk n S (ncs Z) (putN us us[v3.toNat].1 us[v3.toNat].2.1 r6 (e.2.2.2.set sl v6)) := eu.put hq ⟨set_store v1 z0 z7, by rw [List.length_set]; exact v2⟩
          have k07 := k10.trans kb7
          have W7 := W.kn okM k07
          have PL7 := PL.kn ok k07
          have hpd7' := kb7.dT hpd10
          refine ⟨_, rfl, _, rfl, _, rfl, p, pd, td, n, S, M, E', _, rfl, W7, okM, hpd7', poM, tu7, eu7.by nML, fun G8 s8' => ?_⟩
          refine ⟨_, rfl, _, rfl, _, rfl, t, pd, td, n, m, S, Z, E', _, rfl, PL7.ext s8', ok, m2, m4, nm, s8' _ _ hpd7', tu7.ext s8', eu7, Tabs.ext s8' tg7, fun G9 x9 tg9 => ⟨rfl, _, rfl, ?_⟩⟩
          have tw9 : (pairsOf (S.map (·.2)) (names M)).all (rightB M E' (putN us us[v3.toNat].1 us[v3.toNat].2.1 r6 (e.2.2.2.set sl v6))) = (pairsOf (S.map (·.2)) (gNames.take m)).all (rightB (ncs Z) E' (putN us us[v3.toNat].1 us[v3.toNat].2.1 r6 (e.2.2.2.set sl v6))) := by
            rw [nM]
            exact right_twin eM ndM nd E' _ subs
          rw [bl_same tw9]
          have x79 : ExtN _ G9 := ExtN.tr (ExtN.of s8') x9
          exact iteF ⟨_, _, _, _, _, rfl, kb7.trans (Kn.of kb7.b x79), tg9, tu7.exn x79, eu7⟩
      · obtain ⟨v9, v10, v11, v12, us, rfl, kb1, tg1, tu1, eu⟩ := q
        exact ⟨_, _, _, _, _, _, _, _, rfl, k10.trans kb1, tg1⟩
    · exact kk _
end
end OP
namespace OP
open PySem PySem.Spec PyProof.Rows L2
def d_Put_init : He5.DefA := ⟨fun K => a_Put_init K, "__init__", "Put.__init__", defArgs s_Put_init, defBody s_Put_init, defScope s_Put_init, [], []⟩
def d_Put_eq : He5.DefA := ⟨fun K => a_Put_eq K, "__eq__", "Put.__eq__", defArgs s_Put_eq, defBody s_Put_eq, defScope s_Put_eq, [], []⟩
def d_Put_slots : He5.DefA := ⟨fun K => a_Put_slots K, "slots", "Put.slots", defArgs s_Put_slots, defBody s_Put_slots, defScope s_Put_slots, [], []⟩
def d_Put_apply : He5.DefA := ⟨fun K => a_Put_apply K, "apply", "Put.apply", defArgs s_Put_apply, defBody s_Put_apply, defScope s_Put_apply, [], []⟩
def d_Move_init : He5.DefA := ⟨fun K => a_Move_init K, "__init__", "Move.__init__", defArgs s_Move_init, defBody s_Move_init, defScope s_Move_init, [], []⟩
def d_Move_eq : He5.DefA := ⟨fun K => a_Move_eq K, "__eq__", "Move.__eq__", defArgs s_Move_eq, defBody s_Move_eq, defScope s_Move_eq, [], []⟩
def d_Move_slots : He5.DefA := ⟨fun K => a_Move_slots K, "slots", "Move.slots", defArgs s_Move_slots, defBody s_Move_slots, defScope s_Move_slots, [], []⟩
def d_Move_apply : He5.DefA := ⟨fun K => a_Move_apply K, "apply", "Move.apply", defArgs s_Move_apply, defBody s_Move_apply, defScope s_Move_apply, [], []⟩
def d_Add_init : He5.DefA := ⟨fun K => a_Add_init K, "__init__", "Add.__init__", defArgs s_Add_init, defBody s_Add_init, defScope s_Add_init, [], []⟩
def d_Add_eq : He5.DefA := ⟨fun K => a_Add_eq K, "__eq__", "Add.__eq__", defArgs s_Add_eq, defBody s_Add_eq, defScope s_Add_eq, [], []⟩
def d_Add_slots : He5.DefA := ⟨fun K => a_Add_slots K, "slots", "Add.slots", defArgs s_Add_slots, defBody s_Add_slots, defScope s_Add_slots, [], []⟩
def d_Add_apply : He5.DefA := ⟨fun K => a_Add_apply K, "apply", "Add.apply", defArgs s_Add_apply, defBody s_Add_apply, defScope s_Add_apply, [], []⟩
def d_AddSlot_init : He5.DefA := ⟨fun K => a_AddSlot_init K, "__init__", "AddSlot.__init__", defArgs s_AddSlot_init, defBody s_AddSlot_init, defScope s_AddSlot_init, [], []⟩
def d_AddSlot_eq : He5.DefA := ⟨fun K => a_AddSlot_eq K, "__eq__", "AddSlot.__eq__", defArgs s_AddSlot_eq, defBody s_AddSlot_eq, defScope s_AddSlot_eq, [], []⟩
def d_AddSlot_slots : He5.DefA := ⟨fun K => a_AddSlot_slots K, "slots", "AddSlot.slots", defArgs s_AddSlot_slots, defBody s_AddSlot_slots, defScope s_AddSlot_slots, [], []⟩
def d_AddSlot_apply : He5.DefA := ⟨fun K => a_AddSlot_apply K, "apply", "AddSlot.apply", defArgs s_AddSlot_apply, defBody s_AddSlot_apply, defScope s_AddSlot_apply, [], []⟩
def d_Raise_init : He5.DefA := ⟨fun K => a_Raise_init K, "__init__", "Raise.__init__", defArgs s_Raise_init, defBody s_Raise_init, defScope s_Raise_init, [], []⟩
def d_Raise_eq : He5.DefA := ⟨fun K => a_Raise_eq K, "__eq__", "Raise.__eq__", defArgs s_Raise_eq, defBody s_Raise_eq, defScope s_Raise_eq, [], []⟩
def d_Raise_slots : He5.DefA := ⟨fun K => a_Raise_slots K, "slots", "Raise.slots", defArgs s_Raise_slots, defBody s_Raise_slots, defScope s_Raise_slots, [], []⟩
def d_Raise_apply : He5.DefA := ⟨fun K => a_Raise_apply K, "apply", "Raise.apply", defArgs s_Raise_apply, defBody s_Raise_apply, defScope s_Raise_apply, [], []⟩
def d_Lower_init : He5.DefA := ⟨fun K => a_Lower_init K, "__init__", "Lower.__init__", defArgs s_Lower_init, defBody s_Lower_init, defScope s_Lower_init, [], []⟩
def d_Lower_eq : He5.DefA := ⟨fun K => a_Lower_eq K, "__eq__", "Lower.__eq__", defArgs s_Lower_eq, defBody s_Lower_eq, defScope s_Lower_eq, [], []⟩
def d_Lower_slots : He5.DefA := ⟨fun K => a_Lower_slots K, "slots", "Lower.slots", defArgs s_Lower_slots, defBody s_Lower_slots, defScope s_Lower_slots, [], []⟩
def d_Lower_apply : He5.DefA := ⟨fun K => a_Lower_apply K, "apply", "Lower.apply", defArgs s_Lower_apply, defBody s_Lower_apply, defScope s_Lower_apply, [], []⟩
def d_If_init : He5.DefA := ⟨fun K => a_If_init K, "__init__", "If.__init__", defArgs s_If_init, defBody s_If_init, defScope s_If_init, [], []⟩
def d_If_eq : He5.DefA := ⟨fun K => a_If_eq K, "__eq__", "If.__eq__", defArgs s_If_eq, defBody s_If_eq, defScope s_If_eq, [], []⟩
def d_If_slots : He5.DefA := ⟨fun K => a_If_slots K, "slots", "If.slots", defArgs s_If_slots, defBody s_If_slots, defScope s_If_slots, [], []⟩
def d_If_apply : He5.DefA := ⟨fun K => a_If_apply K, "apply", "If.apply", defArgs s_If_apply, defBody s_If_apply, defScope s_If_apply, [], []⟩
def d_is_number : He5.DefA := ⟨fun K => a_is_number K, "is_number", "is_number", defArgs s_is_number, defBody s_is_number, defScope s_is_number, [], []⟩
def d_is_store : He5.DefA := ⟨fun K => a_is_store K, "is_store", "is_store", defArgs s_is_store, defBody s_is_store, defScope s_is_store, [], []⟩
def d_check_slot : He5.DefA := ⟨fun K => a_check_slot K, "check_slot", "check_slot", defArgs s_check_slot, defBody s_check_slot, defScope s_check_slot, [], []⟩
def d_check_value : He5.DefA := ⟨fun K => a_check_value K, "check_value", "check_value", defArgs s_check_value, defBody s_check_value, defScope s_check_value, [], []⟩
def d_check_store : He5.DefA := ⟨fun K => a_check_store K, "check_store", "check_store", defArgs s_check_store, defBody s_check_store, defScope s_check_store, [], []⟩
def d_replaced : He5.DefA := ⟨fun K => a_replaced K, "replaced", "replaced", defArgs s_replaced, defBody s_replaced, defScope s_replaced, [], []⟩
def d_World_init : He5.DefA := ⟨fun K => a_World_init K, "__init__", "World.__init__", defArgs s_World_init, defBody s_World_init, defScope s_World_init, [], []⟩
def d_World_eq : He5.DefA := ⟨fun K => a_World_eq K, "__eq__", "World.__eq__", defArgs s_World_eq, defBody s_World_eq, defScope s_World_eq, [], []⟩
def d_World_slots : He5.DefA := ⟨fun K => a_World_slots K, "slots", "World.slots", defArgs s_World_slots, defBody s_World_slots, defScope s_World_slots, [], []⟩
def d_World_stores : He5.DefA := ⟨fun K => a_World_stores K, "stores", "World.stores", defArgs s_World_stores, defBody s_World_stores, defScope s_World_stores, [], []⟩
def d_World_names : He5.DefA := ⟨fun K => a_World_names K, "names", "World.names", defArgs s_World_names, defBody s_World_names, defScope s_World_names, [], []⟩
def d_World_change : He5.DefA := ⟨fun K => a_World_change K, "change", "World.change", defArgs s_World_change, defBody s_World_change, defScope s_World_change, [], []⟩
def d_World_end : He5.DefA := ⟨fun K => a_World_end K, "end", "World.end", defArgs s_World_end, defBody s_World_end, defScope s_World_end, [], []⟩
def d_World_sets : He5.DefA := ⟨fun K => a_World_sets K, "sets", "World.sets", defArgs s_World_sets, defBody s_World_sets, defScope s_World_sets, [], []⟩
def d_check_world : He5.DefA := ⟨fun K => a_check_world K, "check_world", "check_world", defArgs s_check_world, defBody s_check_world, defScope s_check_world, [], []⟩
def d_is_known : He5.DefA := ⟨fun K => a_is_known K, "is_known", "is_known", defArgs s_is_known, defBody s_is_known, defScope s_is_known, [], []⟩
def d_is_order : He5.DefA := ⟨fun K => a_is_order K, "is_order", "is_order", defArgs s_is_order, defBody s_is_order, defScope s_is_order, [], []⟩
def d_is_set : He5.DefA := ⟨fun K => a_is_set K, "is_set", "is_set", defArgs s_is_set, defBody s_is_set, defScope s_is_set, [], []⟩
def d_is_store_of : He5.DefA := ⟨fun K => a_is_store_of K, "is_store_of", "is_store_of", defArgs s_is_store_of, defBody s_is_store_of, defScope s_is_store_of, [], []⟩
def d_is_start : He5.DefA := ⟨fun K => a_is_start K, "is_start", "is_start", defArgs s_is_start, defBody s_is_start, defScope s_is_start, [], []⟩
def d_are_initial_stores : He5.DefA := ⟨fun K => a_are_initial_stores K, "are_initial_stores", "are_initial_stores", defArgs s_are_initial_stores, defBody s_are_initial_stores, defScope s_are_initial_stores, [], []⟩
def d_check_changes : He5.DefA := ⟨fun K => a_check_changes K, "check_changes", "check_changes", defArgs s_check_changes, defBody s_check_changes, defScope s_check_changes, [], []⟩
def d_is_name : He5.DefA := ⟨fun K => a_is_name K, "is_name", "is_name", defArgs s_is_name, defBody s_is_name, defScope s_is_name, [], []⟩
def d_uses_only : He5.DefA := ⟨fun K => a_uses_only K, "uses_only", "uses_only", defArgs s_uses_only, defBody s_uses_only, defScope s_uses_only, [], []⟩
def d_one_larger : He5.DefA := ⟨fun K => a_one_larger K, "one_larger", "one_larger", defArgs s_one_larger, defBody s_one_larger, defScope s_one_larger, [], []⟩
def d_is_enough : He5.DefA := ⟨fun K => a_is_enough K, "is_enough", "is_enough", defArgs s_is_enough, defBody s_is_enough, defScope s_is_enough, [], []⟩
def d_ends : He5.DefA := ⟨fun K => a_ends K, "ends", "ends", defArgs s_ends, defBody s_ends, defScope s_ends, [], []⟩
def d_is_table : He5.DefA := ⟨fun K => a_is_table K, "is_table", "is_table", defArgs s_is_table, defBody s_is_table, defScope s_is_table, [], []⟩
def d_check_policy : He5.DefA := ⟨fun K => a_check_policy K, "check_policy", "check_policy", defArgs s_check_policy, defBody s_check_policy, defScope s_check_policy, [], []⟩
def d_is_pair : He5.DefA := ⟨fun K => a_is_pair K, "is_pair", "is_pair", defArgs s_is_pair, defBody s_is_pair, defScope s_is_pair, [], []⟩
def d_has_cycle : He5.DefA := ⟨fun K => a_has_cycle K, "has_cycle", "has_cycle", defArgs s_has_cycle, defBody s_has_cycle, defScope s_has_cycle, [], []⟩
def d_free_names : He5.DefA := ⟨fun K => a_free_names K, "free_names", "free_names", defArgs s_free_names, defBody s_free_names, defScope s_free_names, [], []⟩
def d_last_names : He5.DefA := ⟨fun K => a_last_names K, "last_names", "last_names", defArgs s_last_names, defBody s_last_names, defScope s_last_names, [], []⟩
def d_without : He5.DefA := ⟨fun K => a_without K, "without", "without", defArgs s_without, defBody s_without, defScope s_without, [], []⟩
def d_allowed_orders : He5.DefA := ⟨fun K => a_allowed_orders K, "allowed_orders", "allowed_orders", defArgs s_allowed_orders, defBody s_allowed_orders, defScope s_allowed_orders, [], []⟩
def d_stores_and_sets : He5.DefA := ⟨fun K => a_stores_and_sets K, "stores_and_sets", "stores_and_sets", defArgs s_stores_and_sets, defBody s_stores_and_sets, defScope s_stores_and_sets, [], []⟩
def d_find_split : He5.DefA := ⟨fun K => a_find_split K, "find_split", "find_split", defArgs s_find_split, defBody s_find_split, defScope s_find_split, [], []⟩
def d_split_of : He5.DefA := ⟨fun K => a_split_of K, "split_of", "split_of", defArgs s_split_of, defBody s_split_of, defScope s_split_of, [], []⟩
def d_check_enough : He5.DefA := ⟨fun K => a_check_enough K, "check_enough", "check_enough", defArgs s_check_enough, defBody s_check_enough, defScope s_check_enough, [], []⟩
def d_check_table : He5.DefA := ⟨fun K => a_check_table K, "check_table", "check_table", defArgs s_check_table, defBody s_check_table, defScope s_check_table, [], []⟩
def d_is_table_key : He5.DefA := ⟨fun K => a_is_table_key K, "is_table_key", "is_table_key", defArgs s_is_table_key, defBody s_is_table_key, defScope s_is_table_key, [], []⟩
def d_is_right_end : He5.DefA := ⟨fun K => a_is_right_end K, "is_right_end", "is_right_end", defArgs s_is_right_end, defBody s_is_right_end, defScope s_is_right_end, [], []⟩
def d__law_draw : He5.DefA := ⟨fun K => a__law_draw K, "_law_draw", "_law_draw", defArgs s__law_draw, defBody s__law_draw, defScope s__law_draw, [], []⟩
def d__law_cell_at : He5.DefA := ⟨fun K => a__law_cell_at K, "_law_cell_at", "_law_cell_at", defArgs s__law_cell_at, defBody s__law_cell_at, defScope s__law_cell_at, [], []⟩
def d__law_digits : He5.DefA := ⟨fun K => a__law_digits K, "_law_digits", "_law_digits", defArgs s__law_digits, defBody s__law_digits, defScope s__law_digits, [], []⟩
def d__law_take : He5.DefA := ⟨fun K => a__law_take K, "_law_take", "_law_take", defArgs s__law_take, defBody s__law_take, defScope s__law_take, [], []⟩
def d__law_pool : He5.DefA := ⟨fun K => a__law_pool K, "_law_pool", "_law_pool", defArgs s__law_pool, defBody s__law_pool, defScope s__law_pool, [], []⟩
def d__law_plain : He5.DefA := ⟨fun K => a__law_plain K, "_law_plain", "_law_plain", defArgs s__law_plain, defBody s__law_plain, defScope s__law_plain, [], []⟩
def d__law_drawn_world : He5.DefA := ⟨fun K => a__law_drawn_world K, "_law_drawn_world", "_law_drawn_world", defArgs s__law_drawn_world, defBody s__law_drawn_world, defScope s__law_drawn_world, [], []⟩
def d__law_change : He5.DefA := ⟨fun K => a__law_change K, "_law_change", "_law_change", defArgs s__law_change, defBody s__law_change, defScope s__law_change, [], []⟩
def d__law_built : He5.DefA := ⟨fun K => a__law_built K, "_law_built", "_law_built", defArgs s__law_built, defBody s__law_built, defScope s__law_built, [], []⟩
def d__law_done : He5.DefA := ⟨fun K => a__law_done K, "_law_done", "_law_done", defArgs s__law_done, defBody s__law_done, defScope s__law_done, [], []⟩
def d__law_end : He5.DefA := ⟨fun K => a__law_end K, "_law_end", "_law_end", defArgs s__law_end, defBody s__law_end, defScope s__law_end, [], []⟩
def d__law_names : He5.DefA := ⟨fun K => a__law_names K, "_law_names", "_law_names", defArgs s__law_names, defBody s__law_names, defScope s__law_names, [], []⟩
def d__law_sets : He5.DefA := ⟨fun K => a__law_sets K, "_law_sets", "_law_sets", defArgs s__law_sets, defBody s__law_sets, defScope s__law_sets, [], []⟩
def d__law_orders : He5.DefA := ⟨fun K => a__law_orders K, "_law_orders", "_law_orders", defArgs s__law_orders, defBody s__law_orders, defScope s__law_orders, [], []⟩
def d__law_allowed : He5.DefA := ⟨fun K => a__law_allowed K, "_law_allowed", "_law_allowed", defArgs s__law_allowed, defBody s__law_allowed, defScope s__law_allowed, [], []⟩
def d__law_drawn_policy : He5.DefA := ⟨fun K => a__law_drawn_policy K, "_law_drawn_policy", "_law_drawn_policy", defArgs s__law_drawn_policy, defBody s__law_drawn_policy, defScope s__law_drawn_policy, [], []⟩
def d__law_is_table : He5.DefA := ⟨fun K => a__law_is_table K, "_law_is_table", "_law_is_table", defArgs s__law_is_table, defBody s__law_is_table, defScope s__law_is_table, [], []⟩
def d__law_table : He5.DefA := ⟨fun K => a__law_table K, "_law_table", "_law_table", defArgs s__law_table, defBody s__law_table, defScope s__law_table, [], []⟩
def d_law : He5.DefA := ⟨fun K => a_law K, "law", "law", defArgs s_law, defBody s_law, defScope s_law, [], []⟩
def fn : List He5.DefA := [d_Put_init, d_Put_eq, d_Put_slots, d_Put_apply, d_Move_init, d_Move_eq, d_Move_slots, d_Move_apply, d_Add_init, d_Add_eq, d_Add_slots, d_Add_apply, d_AddSlot_init, d_AddSlot_eq, d_AddSlot_slots, d_AddSlot_apply, d_Raise_init, d_Raise_eq, d_Raise_slots, d_Raise_apply, d_Lower_init, d_Lower_eq, d_Lower_slots, d_Lower_apply, d_If_init, d_If_eq, d_If_slots, d_If_apply, d_is_number, d_is_store, d_check_slot, d_check_value, d_check_store, d_replaced, d_World_init, d_World_eq, d_World_slots, d_World_stores, d_World_names, d_World_change, d_World_end, d_World_sets, d_check_world, d_is_known, d_is_order, d_is_set, d_is_store_of, d_is_start, d_are_initial_stores, d_check_changes, d_is_name, d_uses_only, d_one_larger, d_is_enough, d_ends, d_is_table, d_check_policy, d_is_pair, d_has_cycle, d_free_names, d_last_names, d_without, d_allowed_orders, d_stores_and_sets, d_find_split, d_split_of, d_check_enough, d_check_table, d_is_table_key, d_is_right_end, d__law_draw, d__law_cell_at, d__law_digits, d__law_take, d__law_pool, d__law_plain, d__law_drawn_world, d__law_change, d__law_built, d__law_done, d__law_end, d__law_names, d__law_sets, d__law_orders, d__law_allowed, d__law_drawn_policy, d__law_is_table, d__law_table, d_law]
def fa : List He.Fa := [.glo "Change", .glo "Put", .glo "Move", .glo "Add", .glo "AddSlot", .glo "Raise", .glo "Lower", .glo "If", .glo "is_number", .glo "is_store", .glo "check_slot", .glo "check_value", .glo "check_store", .glo "replaced", .glo "World", .glo "check_world", .glo "is_known", .glo "is_order", .glo "is_set", .glo "is_store_of", .glo "is_start", .glo "are_initial_stores", .glo "check_changes", .glo "is_name", .glo "uses_only", .glo "one_larger", .glo "is_enough", .glo "ends", .glo "is_table", .glo "check_policy", .glo "is_pair", .glo "has_cycle", .glo "free_names", .glo "last_names", .glo "without", .glo "allowed_orders", .glo "stores_and_sets", .glo "find_split", .glo "split_of", .glo "check_enough", .glo "check_table", .glo "is_table_key", .glo "is_right_end", .glo "_law_draw", .glo "_law_cell_at", .glo "_law_digits", .glo "_law_take", .glo "_law_pool", .glo "_law_plain", .glo "_law_drawn_world", .glo "_law_change", .glo "_law_built", .glo "_law_done", .glo "_law_end", .glo "_law_names", .glo "_law_sets", .glo "_law_orders", .glo "_law_allowed", .glo "_law_drawn_policy", .glo "_law_is_table", .glo "_law_table", .glo "law", .int "MOST_SLOTS" 3, .int "MOST_LETTERS" 8, .int "MOST_STORES" 8, .int "LEAST_CHANGES" 2, .int "MOST_CHANGES" 4, .str "LETTERS" "abcdefghijklmnopqrstuvwxyz", .free "isinstance", .free "int", .free "bool", .free "tuple", .free "list", .free "dict", .free "str", .free "set", .free "len", .free "all", .free "any", .free "sorted", .free "max", .free "min", .free "range", .free "abs", .free "sum", .free "enumerate", .cls "Put", .mkr "Put", .noat "Put" "slot", .noat "Put" "value", .meth "Put" "__eq__", .meth "Put" "apply", .cls "Move", .mkr "Move", .noat "Move" "slot", .noat "Move" "source", .meth "Move" "__eq__", .meth "Move" "apply", .cls "Add", .mkr "Add", .noat "Add" "slot", .noat "Add" "value", .meth "Add" "__eq__", .meth "Add" "apply", .cls "AddSlot", .mkr "AddSlot", .noat "AddSlot" "slot", .noat "AddSlot" "source", .meth "AddSlot" "__eq__", .meth "AddSlot" "apply", .cls "Raise", .mkr "Raise", .noat "Raise" "slot", .noat "Raise" "value", .meth "Raise" "__eq__", .meth "Raise" "apply", .cls "Lower", .mkr "Lower", .noat "Lower" "slot", .noat "Lower" "value", .meth "Lower" "__eq__", .meth "Lower" "apply", .cls "If", .mkr "If", .noat "If" "slot", .noat "If" "value", .noat "If" "inner", .meth "If" "__eq__", .meth "If" "apply", .cls "World", .mkr "World", .noat "World" "width", .noat "World" "starts", .noat "World" "made", .meth "World" "change", .meth "World" "end", .meth "World" "sets"]
def propB (K : PySem.W.Frag) (C : Addr) (f : Str) : Bool := He.eqO (PySem.W.findIn K (.ref C) f) (some (some (.ref (He.ma K C f)))) && (He.eqO (PySem.W.specialIn K (.ref (He.ma K C f)) "__get__") (some (some (.builtin "property.__get__"))) &&
  (decide (PySem.W.takesIn K (.ref (He.ma K C f)) = some true) && (match PySem.W.recIn K (He.ma K C f) "property" with
    | some (.ref _ :: _) => true
    | _ => false)))
theorem prop_ok {K : PySem.W.Frag} {C : Addr} {f : Str} (h : propB K C f = true) : PropOf K C f (He.ma K C f) (He5.wf K C "property" f) := by
  obtain ⟨h1, h⟩ := He.ba h
  obtain ⟨h2, h⟩ := He.ba h
  obtain ⟨h3, h4⟩ := He.ba h
  refine ⟨He.eqO_ok h1, He.eqO_ok h2, of_decide_eq_true h3, ?_⟩
  unfold He5.wf
  split at h4
  · rename_i g r e
    exact ⟨r, by rw [e]⟩
  · cases h4
def modB (K : PySem.W.Frag) (C : Addr) : Bool := PySem.W.readsIn K C (.type "type") && (He.eqO (PySem.W.specialIn K (.ref C) "__getattribute__") (some (some (.builtin "type.__getattribute__"))) && (match PySem.W.findCls K (.ref C) (.type "type") "MODULUS" with
  | some (.val (.int i _)) => decide (i = 8)
  | _ => false))
theorem mod_ok {K : PySem.W.Frag} {C : Addr} (h : modB K C = true) : ∃ u, ClX.CRead K C (.type "type") ∧ ClX.CVal K C (.type "type") "MODULUS" (.int 8) u := by
  obtain ⟨h1, h⟩ := He.ba h
  obtain ⟨h2, h3⟩ := He.ba h
  split at h3
  · rename_i i t e
    obtain rfl := of_decide_eq_true h3
    exact ⟨_, ⟨h1, He.eqO_ok h2⟩, e, ⟨_, rfl⟩⟩
  · cases h3
theorem own_ok {K : PySem.W.Frag} {C : Addr} (c : Cls K C) (h : (He.eqO (PySem.W.specialIn K (.builtin "object.__class__") "__get__") (some (some (.builtin "getset_descriptor.__get__"))) && decide (PySem.W.takesIn K (.builtin "object.__class__") = some true)) = true)
    (h2 : (He.eqO (PySem.W.findIn K (.ref C) "__class__") (some (some (.builtin "object.__class__"))) && decide (PySem.W.mroIn K C (.type "object") = some true)) = true) : Own K C := by
  obtain ⟨a1, a2⟩ := He.ba h
  obtain ⟨b1, b2⟩ := He.ba h2
  exact ⟨c, He.eqO_ok b1, He.eqO_ok a1, of_decide_eq_true a2, of_decide_eq_true b2⟩
def exs (K : PySem.W.Frag) : List Bool := [(He.eqO (PySem.W.specialIn K (.builtin "object.__class__") "__get__") (some (some (.builtin "getset_descriptor.__get__"))) && decide (PySem.W.takesIn K (.builtin "object.__class__") = some true)),
  (He.eqO (PySem.W.findIn K (.ref (c_Put K)) "__class__") (some (some (.builtin "object.__class__"))) && decide (PySem.W.mroIn K (c_Put K) (.type "object") = some true)),
  propB K (c_Put K) "slots",
  (He.eqO (PySem.W.findIn K (.ref (c_Move K)) "__class__") (some (some (.builtin "object.__class__"))) && decide (PySem.W.mroIn K (c_Move K) (.type "object") = some true)),
  propB K (c_Move K) "slots",
  (He.eqO (PySem.W.findIn K (.ref (c_Add K)) "__class__") (some (some (.builtin "object.__class__"))) && decide (PySem.W.mroIn K (c_Add K) (.type "object") = some true)),
  propB K (c_Add K) "slots",
  (He.eqO (PySem.W.findIn K (.ref (c_AddSlot K)) "__class__") (some (some (.builtin "object.__class__"))) && decide (PySem.W.mroIn K (c_AddSlot K) (.type "object") = some true)),
  propB K (c_AddSlot K) "slots",
  (He.eqO (PySem.W.findIn K (.ref (c_Raise K)) "__class__") (some (some (.builtin "object.__class__"))) && decide (PySem.W.mroIn K (c_Raise K) (.type "object") = some true)),
  propB K (c_Raise K) "slots",
  (He.eqO (PySem.W.findIn K (.ref (c_Lower K)) "__class__") (some (some (.builtin "object.__class__"))) && decide (PySem.W.mroIn K (c_Lower K) (.type "object") = some true)),
  propB K (c_Lower K) "slots",
  (He.eqO (PySem.W.findIn K (.ref (c_If K)) "__class__") (some (some (.builtin "object.__class__"))) && decide (PySem.W.mroIn K (c_If K) (.type "object") = some true)),
  propB K (c_If K) "slots",
  (He.eqO (PySem.W.findIn K (.ref (c_World K)) "__class__") (some (some (.builtin "object.__class__"))) && decide (PySem.W.mroIn K (c_World K) (.type "object") = some true)),
  propB K (c_World K) "slots",
  propB K (c_World K) "stores",
  propB K (c_World K) "names",
  decide (PySem.W.kitOne K (.ref (c_Put K)) (.ref (c_Change K)) = some true),
  decide (PySem.W.kitOne K (.ref (c_Put K)) (.ref (c_If K)) = some false),
  decide (PySem.W.kitOne K (.ref (c_Move K)) (.ref (c_Change K)) = some true),
  decide (PySem.W.kitOne K (.ref (c_Move K)) (.ref (c_If K)) = some false),
  decide (PySem.W.kitOne K (.ref (c_Add K)) (.ref (c_Change K)) = some true),
  decide (PySem.W.kitOne K (.ref (c_Add K)) (.ref (c_If K)) = some false),
  decide (PySem.W.kitOne K (.ref (c_AddSlot K)) (.ref (c_Change K)) = some true),
  decide (PySem.W.kitOne K (.ref (c_AddSlot K)) (.ref (c_If K)) = some false),
  decide (PySem.W.kitOne K (.ref (c_Raise K)) (.ref (c_Change K)) = some true),
  decide (PySem.W.kitOne K (.ref (c_Raise K)) (.ref (c_If K)) = some false),
  decide (PySem.W.kitOne K (.ref (c_Lower K)) (.ref (c_Change K)) = some true),
  decide (PySem.W.kitOne K (.ref (c_Lower K)) (.ref (c_If K)) = some false),
  decide (PySem.W.kitOne K (.ref (c_If K)) (.ref (c_Change K)) = some true),
  modB K (c_Change K)]
abbrev tf : List He.Defn := [("_law_sets", none)]
/-! ### the hook: facts, defs, more of the classes, the table of one def -/
structure SaysO (h : Heap) (K : PySem.W.Frag) : Prop where
  a : He5.SaysA fa fn K
  more : (exs K).all id = true
  hd : ∀ p ∈ tf, PySem.W.codeHdIn K (He.cT K p).1 (He.cT K p).2 = true
  out : ∀ p ∈ tf, K.lookup (He.cT K p).2 = none
  empty : ∀ p ∈ tf, h.get? (He.cT K p).2 = some { cls := .none, data := .fields #[] }
def addrs : List Addr := [3, 6, 4, 24, 37, 57, 69, 81, 93, 105, 117, 129, 163, 206, 247, 298, 339, 380, 421, 462, 471, 476, 483, 490, 495, 502, 567, 578, 585, 590, 595, 602, 609, 614, 621, 626, 631, 636, 643, 650, 657, 664, 671, 676, 681, 686, 691, 696, 703, 710, 717, 724, 731, 738, 743, 750, 757, 764, 771, 778, 785, 790, 797, 804, 811, 816, 821, 826, 831, 836, 843, 848, 853, 860, 0, 23, 36, 56, 68, 80, 92, 104, 116, 128, 162, 205, 246, 297, 338, 379, 420, 461, 470, 475, 482, 489, 494, 501, 566, 577, 584, 589, 594, 601, 608, 613, 620, 625, 630, 635, 642, 649, 656, 663, 670, 675, 680, 685, 690, 695, 702, 709, 716, 723, 730, 737, 742, 749, 756, 763, 770, 777, 784, 789, 796, 803, 810, 815, 820, 825, 830, 835, 842, 847, 852, 859, 22, 25, 35, 54, 55, 67, 79, 91, 103, 115, 127, 145, 153, 160, 161, 164, 165, 181, 188, 196, 203, 204, 222, 229, 237, 244, 245, 263, 272, 280, 288, 295, 296, 314, 321, 329, 336, 337, 355, 362, 370, 377, 378, 396, 403, 411, 418, 419, 437, 444, 452, 459, 460, 465, 467, 468, 469, 472, 474, 477, 479, 480, 481, 484, 486, 487, 488, 491, 493, 496, 498, 499, 500, 514, 521, 529, 537, 545, 552, 559, 564, 565, 568, 569, 572, 574, 575, 576, 579, 581, 582, 583, 586, 588, 591, 593, 596, 598, 599, 600, 603, 605, 606, 607, 610, 612, 615, 617, 618, 619, 622, 624, 627, 629, 632, 634, 637, 639, 640, 641, 644, 646, 647, 648, 651, 653, 654, 655, 658, 660, 661, 662, 665, 667, 668, 669, 672, 674, 677, 679, 682, 684, 687, 689, 692, 694, 697, 699, 700, 701, 704, 706, 707, 708, 711, 713, 714, 715, 718, 720, 721, 722, 725, 727, 728, 729, 732, 734, 735, 736, 739, 741, 744, 746, 747, 748, 751, 753, 754, 755, 758, 760, 761, 762, 765, 767, 768, 769, 772, 774, 775, 776, 779, 781, 782, 783, 786, 788, 791, 793, 794, 795, 798, 800, 801, 802, 805, 807, 808, 809, 812, 814, 817, 819, 822, 824, 827, 829, 832, 834, 837, 839, 840, 841, 844, 846, 849, 851, 854, 856, 857, 858, 53, 47, 144, 152, 159, 180, 187, 195, 202, 221, 228, 236, 243, 262, 270, 271, 279, 287, 294, 313, 320, 328, 335, 354, 361, 369, 376, 395, 402, 410, 417, 436, 443, 451, 458, 513, 520, 528, 536, 544, 551, 558, 563, 48, 50, 51, 52, 139, 141, 142, 143, 151, 154, 156, 157, 158, 175, 177, 178, 179, 182, 184, 185, 186, 194, 197, 199, 200, 201, 216, 218, 219, 220, 223, 225, 226, 227, 235, 238, 240, 241, 242, 257, 259, 260, 261, 269, 273, 274, 276, 277, 278, 286, 289, 291, 292, 293, 308, 310, 311, 312, 315, 317, 318, 319, 327, 330, 332, 333, 334, 349, 351, 352, 353, 356, 358, 359, 360, 368, 371, 373, 374, 375, 390, 392, 393, 394, 397, 399, 400, 401, 409, 412, 414, 415, 416, 431, 433, 434, 435, 438, 440, 441, 442, 450, 453, 455, 456, 457, 510, 512, 515, 517, 518, 519, 527, 535, 543, 546, 548, 549, 550, 553, 555, 556, 557, 560, 562, 2]
def frO (g : Addr → Option Obj) : PySem.W.Frag := He.frT g addrs
def obsO (g : Addr → Option Obj) : He.AlD × Bool := (He5.obsA fa fn (frO g), (exs (frO g)).all id && He.tabsB g tf (frO g))
theorem saysO_of {h : Heap} (e : obsO h.get? = (He5.valA fn, true)) : SaysO h (frO h.get?) := by
  have e1 : He5.obsA fa fn (frO h.get?) = He5.valA fn := congrArg (fun z : He.AlD × Bool => z.1) e
  have e2 : ((exs (frO h.get?)).all id && He.tabsB h.get? tf (frO h.get?)) = true := congrArg (fun z : He.AlD × Bool => z.2) e
  obtain ⟨h1, h2⟩ := He.ba e2
  have key : ∀ p ∈ tf, PySem.W.codeHdIn (frO h.get?) (He.cT (frO h.get?) p).1 (He.cT (frO h.get?) p).2 = true ∧ ∃ o, h.get? (He.cT (frO h.get?) p).2 = some o ∧ He.emptyTab o = true := fun p hp => by
    obtain ⟨h3, h4⟩ := He.ba (List.all_eq_true.mp h2 p hp)
    refine ⟨h3, ?_⟩
    cases q : h.get? (He.cT (frO h.get?) p).2 with
    | none => rw [q] at h4; cases h4
    | some o => rw [q] at h4; exact ⟨o, rfl, h4⟩
  refine ⟨e1, h1, fun p hp => (key p hp).1, fun p hp => ?_, fun p hp => ?_⟩
  · obtain ⟨_, o, q, z⟩ := key p hp
    exact He.frT_none q z
  · obtain ⟨_, o, q, z⟩ := key p hp
    rw [q, He.emptyTab_eq z]
def hookO : PySem.W.Hook where
  α := He.AlD × Bool
  obs := fun s => obsO s.heap.get?
  val := fun _ => (He5.valA fn, true)
  says := fun _ h => ∃ K : PySem.W.Frag, K.In h ∧ SaysO h K
  of := fun _ _ e => ⟨_, He.frT_in, saysO_of e⟩
  keeps := fun _ _ _ ⟨K, hK, c⟩ k => ⟨K, PySem.W.Frag.In.keeps hK k, ⟨c.a, c.more, c.hd, c.out, fun p hp => k _ _ (c.empty p hp)⟩⟩
theorem SaysO.ex {h : Heap} {K : PySem.W.Frag} (c : SaysO h K) (i : Nat) {b : Bool} (hb : (exs K)[i]? = some b := by rfl) : b = true := List.all_eq_true.mp c.more b (List.mem_of_getElem? hb)
theorem txt_of {h : Heap} {K : PySem.W.Frag} {mg : Str → Option Value} (X : K.In h) (G : h.Ns mainGlobals mg) (s : SaysO h K) : Txt K mg := by
  have c := s.a
  have e := fun (i : Nat) {b : Bool} (hb : (exs K)[i]? = some b) => s.ex i hb
  exact {
    f_Put_init := by obtain ⟨fd, F⟩ := c.def_ 0; exact ⟨fd, He5.fun_of F⟩
    f_Put_eq := by obtain ⟨fd, F⟩ := c.def_ 1; exact ⟨fd, He5.fun_of F⟩
    f_Put_slots := by obtain ⟨fd, F⟩ := c.def_ 2; exact ⟨fd, He5.fun_of F⟩
    f_Put_apply := by obtain ⟨fd, F⟩ := c.def_ 3; exact ⟨fd, He5.fun_of F⟩
    f_Move_init := by obtain ⟨fd, F⟩ := c.def_ 4; exact ⟨fd, He5.fun_of F⟩
    f_Move_eq := by obtain ⟨fd, F⟩ := c.def_ 5; exact ⟨fd, He5.fun_of F⟩
    f_Move_slots := by obtain ⟨fd, F⟩ := c.def_ 6; exact ⟨fd, He5.fun_of F⟩
    f_Move_apply := by obtain ⟨fd, F⟩ := c.def_ 7; exact ⟨fd, He5.fun_of F⟩
    f_Add_init := by obtain ⟨fd, F⟩ := c.def_ 8; exact ⟨fd, He5.fun_of F⟩
    f_Add_eq := by obtain ⟨fd, F⟩ := c.def_ 9; exact ⟨fd, He5.fun_of F⟩
    f_Add_slots := by obtain ⟨fd, F⟩ := c.def_ 10; exact ⟨fd, He5.fun_of F⟩
    f_Add_apply := by obtain ⟨fd, F⟩ := c.def_ 11; exact ⟨fd, He5.fun_of F⟩
    f_AddSlot_init := by obtain ⟨fd, F⟩ := c.def_ 12; exact ⟨fd, He5.fun_of F⟩
    f_AddSlot_eq := by obtain ⟨fd, F⟩ := c.def_ 13; exact ⟨fd, He5.fun_of F⟩
    f_AddSlot_slots := by obtain ⟨fd, F⟩ := c.def_ 14; exact ⟨fd, He5.fun_of F⟩
    f_AddSlot_apply := by obtain ⟨fd, F⟩ := c.def_ 15; exact ⟨fd, He5.fun_of F⟩
    f_Raise_init := by obtain ⟨fd, F⟩ := c.def_ 16; exact ⟨fd, He5.fun_of F⟩
    f_Raise_eq := by obtain ⟨fd, F⟩ := c.def_ 17; exact ⟨fd, He5.fun_of F⟩
    f_Raise_slots := by obtain ⟨fd, F⟩ := c.def_ 18; exact ⟨fd, He5.fun_of F⟩
    f_Raise_apply := by obtain ⟨fd, F⟩ := c.def_ 19; exact ⟨fd, He5.fun_of F⟩
    f_Lower_init := by obtain ⟨fd, F⟩ := c.def_ 20; exact ⟨fd, He5.fun_of F⟩
    f_Lower_eq := by obtain ⟨fd, F⟩ := c.def_ 21; exact ⟨fd, He5.fun_of F⟩
    f_Lower_slots := by obtain ⟨fd, F⟩ := c.def_ 22; exact ⟨fd, He5.fun_of F⟩
    f_Lower_apply := by obtain ⟨fd, F⟩ := c.def_ 23; exact ⟨fd, He5.fun_of F⟩
    f_If_init := by obtain ⟨fd, F⟩ := c.def_ 24; exact ⟨fd, He5.fun_of F⟩
    f_If_eq := by obtain ⟨fd, F⟩ := c.def_ 25; exact ⟨fd, He5.fun_of F⟩
    f_If_slots := by obtain ⟨fd, F⟩ := c.def_ 26; exact ⟨fd, He5.fun_of F⟩
    f_If_apply := by obtain ⟨fd, F⟩ := c.def_ 27; exact ⟨fd, He5.fun_of F⟩
    f_is_number := by obtain ⟨fd, F⟩ := c.def_ 28; exact ⟨fd, He5.fun_of F⟩
    f_is_store := by obtain ⟨fd, F⟩ := c.def_ 29; exact ⟨fd, He5.fun_of F⟩
    f_check_slot := by obtain ⟨fd, F⟩ := c.def_ 30; exact ⟨fd, He5.fun_of F⟩
    f_check_value := by obtain ⟨fd, F⟩ := c.def_ 31; exact ⟨fd, He5.fun_of F⟩
    f_check_store := by obtain ⟨fd, F⟩ := c.def_ 32; exact ⟨fd, He5.fun_of F⟩
    f_replaced := by obtain ⟨fd, F⟩ := c.def_ 33; exact ⟨fd, He5.fun_of F⟩
    f_World_init := by obtain ⟨fd, F⟩ := c.def_ 34; exact ⟨fd, He5.fun_of F⟩
    f_World_eq := by obtain ⟨fd, F⟩ := c.def_ 35; exact ⟨fd, He5.fun_of F⟩
    f_World_slots := by obtain ⟨fd, F⟩ := c.def_ 36; exact ⟨fd, He5.fun_of F⟩
    f_World_stores := by obtain ⟨fd, F⟩ := c.def_ 37; exact ⟨fd, He5.fun_of F⟩
    f_World_names := by obtain ⟨fd, F⟩ := c.def_ 38; exact ⟨fd, He5.fun_of F⟩
    f_World_change := by obtain ⟨fd, F⟩ := c.def_ 39; exact ⟨fd, He5.fun_of F⟩
    f_World_end := by obtain ⟨fd, F⟩ := c.def_ 40; exact ⟨fd, He5.fun_of F⟩
    f_World_sets := by obtain ⟨fd, F⟩ := c.def_ 41; exact ⟨fd, He5.fun_of F⟩
    f_check_world := by obtain ⟨fd, F⟩ := c.def_ 42; exact ⟨fd, He5.fun_of F⟩
    f_is_known := by obtain ⟨fd, F⟩ := c.def_ 43; exact ⟨fd, He5.fun_of F⟩
    f_is_order := by obtain ⟨fd, F⟩ := c.def_ 44; exact ⟨fd, He5.fun_of F⟩
    f_is_set := by obtain ⟨fd, F⟩ := c.def_ 45; exact ⟨fd, He5.fun_of F⟩
    f_is_store_of := by obtain ⟨fd, F⟩ := c.def_ 46; exact ⟨fd, He5.fun_of F⟩
    f_is_start := by obtain ⟨fd, F⟩ := c.def_ 47; exact ⟨fd, He5.fun_of F⟩
    f_are_initial_stores := by obtain ⟨fd, F⟩ := c.def_ 48; exact ⟨fd, He5.fun_of F⟩
    f_check_changes := by obtain ⟨fd, F⟩ := c.def_ 49; exact ⟨fd, He5.fun_of F⟩
    f_is_name := by obtain ⟨fd, F⟩ := c.def_ 50; exact ⟨fd, He5.fun_of F⟩
    f_uses_only := by obtain ⟨fd, F⟩ := c.def_ 51; exact ⟨fd, He5.fun_of F⟩
    f_one_larger := by obtain ⟨fd, F⟩ := c.def_ 52; exact ⟨fd, He5.fun_of F⟩
    f_is_enough := by obtain ⟨fd, F⟩ := c.def_ 53; exact ⟨fd, He5.fun_of F⟩
    f_ends := by obtain ⟨fd, F⟩ := c.def_ 54; exact ⟨fd, He5.fun_of F⟩
    f_is_table := by obtain ⟨fd, F⟩ := c.def_ 55; exact ⟨fd, He5.fun_of F⟩
    f_check_policy := by obtain ⟨fd, F⟩ := c.def_ 56; exact ⟨fd, He5.fun_of F⟩
    f_is_pair := by obtain ⟨fd, F⟩ := c.def_ 57; exact ⟨fd, He5.fun_of F⟩
    f_has_cycle := by obtain ⟨fd, F⟩ := c.def_ 58; exact ⟨fd, He5.fun_of F⟩
    f_free_names := by obtain ⟨fd, F⟩ := c.def_ 59; exact ⟨fd, He5.fun_of F⟩
    f_last_names := by obtain ⟨fd, F⟩ := c.def_ 60; exact ⟨fd, He5.fun_of F⟩
    f_without := by obtain ⟨fd, F⟩ := c.def_ 61; exact ⟨fd, He5.fun_of F⟩
    f_allowed_orders := by obtain ⟨fd, F⟩ := c.def_ 62; exact ⟨fd, He5.fun_of F⟩
    f_stores_and_sets := by obtain ⟨fd, F⟩ := c.def_ 63; exact ⟨fd, He5.fun_of F⟩
    f_find_split := by obtain ⟨fd, F⟩ := c.def_ 64; exact ⟨fd, He5.fun_of F⟩
    f_split_of := by obtain ⟨fd, F⟩ := c.def_ 65; exact ⟨fd, He5.fun_of F⟩
    f_check_enough := by obtain ⟨fd, F⟩ := c.def_ 66; exact ⟨fd, He5.fun_of F⟩
    f_check_table := by obtain ⟨fd, F⟩ := c.def_ 67; exact ⟨fd, He5.fun_of F⟩
    f_is_table_key := by obtain ⟨fd, F⟩ := c.def_ 68; exact ⟨fd, He5.fun_of F⟩
    f_is_right_end := by obtain ⟨fd, F⟩ := c.def_ 69; exact ⟨fd, He5.fun_of F⟩
    f__law_draw := by obtain ⟨fd, F⟩ := c.def_ 70; exact ⟨fd, He5.fun_of F⟩
    f__law_cell_at := by obtain ⟨fd, F⟩ := c.def_ 71; exact ⟨fd, He5.fun_of F⟩
    f__law_digits := by obtain ⟨fd, F⟩ := c.def_ 72; exact ⟨fd, He5.fun_of F⟩
    f__law_take := by obtain ⟨fd, F⟩ := c.def_ 73; exact ⟨fd, He5.fun_of F⟩
    f__law_pool := by obtain ⟨fd, F⟩ := c.def_ 74; exact ⟨fd, He5.fun_of F⟩
    f__law_plain := by obtain ⟨fd, F⟩ := c.def_ 75; exact ⟨fd, He5.fun_of F⟩
    f__law_drawn_world := by obtain ⟨fd, F⟩ := c.def_ 76; exact ⟨fd, He5.fun_of F⟩
    f__law_change := by obtain ⟨fd, F⟩ := c.def_ 77; exact ⟨fd, He5.fun_of F⟩
    f__law_built := by obtain ⟨fd, F⟩ := c.def_ 78; exact ⟨fd, He5.fun_of F⟩
    f__law_done := by obtain ⟨fd, F⟩ := c.def_ 79; exact ⟨fd, He5.fun_of F⟩
    f__law_end := by obtain ⟨fd, F⟩ := c.def_ 80; exact ⟨fd, He5.fun_of F⟩
    f__law_names := by obtain ⟨fd, F⟩ := c.def_ 81; exact ⟨fd, He5.fun_of F⟩
    f__law_sets := by obtain ⟨fd, F⟩ := c.def_ 82; exact ⟨fd, He5.fun_of F⟩
    f__law_orders := by obtain ⟨fd, F⟩ := c.def_ 83; exact ⟨fd, He5.fun_of F⟩
    f__law_allowed := by obtain ⟨fd, F⟩ := c.def_ 84; exact ⟨fd, He5.fun_of F⟩
    f__law_drawn_policy := by obtain ⟨fd, F⟩ := c.def_ 85; exact ⟨fd, He5.fun_of F⟩
    f__law_is_table := by obtain ⟨fd, F⟩ := c.def_ 86; exact ⟨fd, He5.fun_of F⟩
    f__law_table := by obtain ⟨fd, F⟩ := c.def_ 87; exact ⟨fd, He5.fun_of F⟩
    f_law := by obtain ⟨fd, F⟩ := c.def_ 88; exact ⟨fd, He5.fun_of F⟩
    g_Change := He.glo_ok X G (c.fact 0)
    g_Put := He.glo_ok X G (c.fact 1)
    g_Move := He.glo_ok X G (c.fact 2)
    g_Add := He.glo_ok X G (c.fact 3)
    g_AddSlot := He.glo_ok X G (c.fact 4)
    g_Raise := He.glo_ok X G (c.fact 5)
    g_Lower := He.glo_ok X G (c.fact 6)
    g_If := He.glo_ok X G (c.fact 7)
    g_is_number := He.glo_ok X G (c.fact 8)
    g_is_store := He.glo_ok X G (c.fact 9)
    g_check_slot := He.glo_ok X G (c.fact 10)
    g_check_value := He.glo_ok X G (c.fact 11)
    g_check_store := He.glo_ok X G (c.fact 12)
    g_replaced := He.glo_ok X G (c.fact 13)
    g_World := He.glo_ok X G (c.fact 14)
    g_check_world := He.glo_ok X G (c.fact 15)
    g_is_known := He.glo_ok X G (c.fact 16)
    g_is_order := He.glo_ok X G (c.fact 17)
    g_is_set := He.glo_ok X G (c.fact 18)
    g_is_store_of := He.glo_ok X G (c.fact 19)
    g_is_start := He.glo_ok X G (c.fact 20)
    g_are_initial_stores := He.glo_ok X G (c.fact 21)
    g_check_changes := He.glo_ok X G (c.fact 22)
    g_is_name := He.glo_ok X G (c.fact 23)
    g_uses_only := He.glo_ok X G (c.fact 24)
    g_one_larger := He.glo_ok X G (c.fact 25)
    g_is_enough := He.glo_ok X G (c.fact 26)
    g_ends := He.glo_ok X G (c.fact 27)
    g_is_table := He.glo_ok X G (c.fact 28)
    g_check_policy := He.glo_ok X G (c.fact 29)
    g_is_pair := He.glo_ok X G (c.fact 30)
    g_has_cycle := He.glo_ok X G (c.fact 31)
    g_free_names := He.glo_ok X G (c.fact 32)
    g_last_names := He.glo_ok X G (c.fact 33)
    g_without := He.glo_ok X G (c.fact 34)
    g_allowed_orders := He.glo_ok X G (c.fact 35)
    g_stores_and_sets := He.glo_ok X G (c.fact 36)
    g_find_split := He.glo_ok X G (c.fact 37)
    g_split_of := He.glo_ok X G (c.fact 38)
    g_check_enough := He.glo_ok X G (c.fact 39)
    g_check_table := He.glo_ok X G (c.fact 40)
    g_is_table_key := He.glo_ok X G (c.fact 41)
    g_is_right_end := He.glo_ok X G (c.fact 42)
    g__law_draw := He.glo_ok X G (c.fact 43)
    g__law_cell_at := He.glo_ok X G (c.fact 44)
    g__law_digits := He.glo_ok X G (c.fact 45)
    g__law_take := He.glo_ok X G (c.fact 46)
    g__law_pool := He.glo_ok X G (c.fact 47)
    g__law_plain := He.glo_ok X G (c.fact 48)
    g__law_drawn_world := He.glo_ok X G (c.fact 49)
    g__law_change := He.glo_ok X G (c.fact 50)
    g__law_built := He.glo_ok X G (c.fact 51)
    g__law_done := He.glo_ok X G (c.fact 52)
    g__law_end := He.glo_ok X G (c.fact 53)
    g__law_names := He.glo_ok X G (c.fact 54)
    g__law_sets := He.glo_ok X G (c.fact 55)
    g__law_orders := He.glo_ok X G (c.fact 56)
    g__law_allowed := He.glo_ok X G (c.fact 57)
    g__law_drawn_policy := He.glo_ok X G (c.fact 58)
    g__law_is_table := He.glo_ok X G (c.fact 59)
    g__law_table := He.glo_ok X G (c.fact 60)
    g_law := He.glo_ok X G (c.fact 61)
    i_MOST_SLOTS := He.int_ok X G (c.fact 62)
    i_MOST_LETTERS := He.int_ok X G (c.fact 63)
    i_MOST_STORES := He.int_ok X G (c.fact 64)
    i_LEAST_CHANGES := He.int_ok X G (c.fact 65)
    i_MOST_CHANGES := He.int_ok X G (c.fact 66)
    letters := He.str_ok X G (c.fact 67)
    z_isinstance := He.free_ok X G (c.fact 68)
    z_int := He.free_ok X G (c.fact 69)
    z_bool := He.free_ok X G (c.fact 70)
    z_tuple := He.free_ok X G (c.fact 71)
    z_list := He.free_ok X G (c.fact 72)
    z_dict := He.free_ok X G (c.fact 73)
    z_str := He.free_ok X G (c.fact 74)
    z_set := He.free_ok X G (c.fact 75)
    z_len := He.free_ok X G (c.fact 76)
    z_all := He.free_ok X G (c.fact 77)
    z_any := He.free_ok X G (c.fact 78)
    z_sorted := He.free_ok X G (c.fact 79)
    z_max := He.free_ok X G (c.fact 80)
    z_min := He.free_ok X G (c.fact 81)
    z_range := He.free_ok X G (c.fact 82)
    z_abs := He.free_ok X G (c.fact 83)
    z_sum := He.free_ok X G (c.fact 84)
    z_enumerate := He.free_ok X G (c.fact 85)
    o_Put := own_ok (He.cls_ok (c.fact 86)) (s.ex 0) (s.ex 1)
    mk_Put := He.mkr_ok (c.fact 87)
    n_Put_slot := He.noat_ok (c.fact 88)
    n_Put_value := He.noat_ok (c.fact 89)
    m_Put_eq := He.meth_ok (c.fact 90)
    m_Put_apply := He.meth_ok (c.fact 91)
    p_Put_slots := prop_ok (s.ex 2)
    o_Move := own_ok (He.cls_ok (c.fact 92)) (s.ex 0) (s.ex 3)
    mk_Move := He.mkr_ok (c.fact 93)
    n_Move_slot := He.noat_ok (c.fact 94)
    n_Move_source := He.noat_ok (c.fact 95)
    m_Move_eq := He.meth_ok (c.fact 96)
    m_Move_apply := He.meth_ok (c.fact 97)
    p_Move_slots := prop_ok (s.ex 4)
    o_Add := own_ok (He.cls_ok (c.fact 98)) (s.ex 0) (s.ex 5)
    mk_Add := He.mkr_ok (c.fact 99)
    n_Add_slot := He.noat_ok (c.fact 100)
    n_Add_value := He.noat_ok (c.fact 101)
    m_Add_eq := He.meth_ok (c.fact 102)
    m_Add_apply := He.meth_ok (c.fact 103)
    p_Add_slots := prop_ok (s.ex 6)
    o_AddSlot := own_ok (He.cls_ok (c.fact 104)) (s.ex 0) (s.ex 7)
    mk_AddSlot := He.mkr_ok (c.fact 105)
    n_AddSlot_slot := He.noat_ok (c.fact 106)
    n_AddSlot_source := He.noat_ok (c.fact 107)
    m_AddSlot_eq := He.meth_ok (c.fact 108)
    m_AddSlot_apply := He.meth_ok (c.fact 109)
    p_AddSlot_slots := prop_ok (s.ex 8)
    o_Raise := own_ok (He.cls_ok (c.fact 110)) (s.ex 0) (s.ex 9)
    mk_Raise := He.mkr_ok (c.fact 111)
    n_Raise_slot := He.noat_ok (c.fact 112)
    n_Raise_value := He.noat_ok (c.fact 113)
    m_Raise_eq := He.meth_ok (c.fact 114)
    m_Raise_apply := He.meth_ok (c.fact 115)
    p_Raise_slots := prop_ok (s.ex 10)
    o_Lower := own_ok (He.cls_ok (c.fact 116)) (s.ex 0) (s.ex 11)
    mk_Lower := He.mkr_ok (c.fact 117)
    n_Lower_slot := He.noat_ok (c.fact 118)
    n_Lower_value := He.noat_ok (c.fact 119)
    m_Lower_eq := He.meth_ok (c.fact 120)
    m_Lower_apply := He.meth_ok (c.fact 121)
    p_Lower_slots := prop_ok (s.ex 12)
    o_If := own_ok (He.cls_ok (c.fact 122)) (s.ex 0) (s.ex 13)
    mk_If := He.mkr_ok (c.fact 123)
    n_If_slot := He.noat_ok (c.fact 124)
    n_If_value := He.noat_ok (c.fact 125)
    n_If_inner := He.noat_ok (c.fact 126)
    m_If_eq := He.meth_ok (c.fact 127)
    m_If_apply := He.meth_ok (c.fact 128)
    p_If_slots := prop_ok (s.ex 14)
    o_World := own_ok (He.cls_ok (c.fact 129)) (s.ex 0) (s.ex 15)
    mk_World := He.mkr_ok (c.fact 130)
    n_World_width := He.noat_ok (c.fact 131)
    n_World_starts := He.noat_ok (c.fact 132)
    n_World_made := He.noat_ok (c.fact 133)
    m_World_change := He.meth_ok (c.fact 134)
    m_World_end := He.meth_ok (c.fact 135)
    m_World_sets := He.meth_ok (c.fact 136)
    p_World_slots := prop_ok (s.ex 16)
    p_World_stores := prop_ok (s.ex 17)
    p_World_names := prop_ok (s.ex 18)
    k_Put := of_decide_eq_true (s.ex 19)
    kIf_Put := of_decide_eq_true (s.ex 20)
    k_Move := of_decide_eq_true (s.ex 21)
    kIf_Move := of_decide_eq_true (s.ex 22)
    k_Add := of_decide_eq_true (s.ex 23)
    kIf_Add := of_decide_eq_true (s.ex 24)
    k_AddSlot := of_decide_eq_true (s.ex 25)
    kIf_AddSlot := of_decide_eq_true (s.ex 26)
    k_Raise := of_decide_eq_true (s.ex 27)
    kIf_Raise := of_decide_eq_true (s.ex 28)
    k_Lower := of_decide_eq_true (s.ex 29)
    kIf_Lower := of_decide_eq_true (s.ex 30)
    k_If := of_decide_eq_true (s.ex 31)
    modulus := mod_ok (s.ex 32)
  }
abbrev R : PySem.W.OpenRow := PySem.W.OpenLaw.row PySem.Challenge.rw_orderpairs_k03_whole_tables
def ob (s : PySem.W.SharedT) : He.AlD × Bool := obsO (HandSHeadRun.getT s)
theorem ob_eq (s : PySem.W.SharedT) : ob s = hookO.obs s.abs := by
  have e : HandSHeadRun.getT s = s.abs.heap.get? := funext (HandSHeadRun.getT_eq s)
  unfold ob
  rw [e] <;> rfl
def loose0 : List Str := [("__name__" : Str), ("OrderError" : Str), ("BadChange" : Str), ("BadWorld" : Str), ("BadName" : Str), ("BadStore" : Str), ("BadOrder" : Str), ("BadPolicy" : Str), ("NotEnough" : Str), ("BadTable" : Str), ("MOST_SLOTS" : Str), ("Change" : Str)]
def loose1 : List Str := [("Put" : Str), ("Move" : Str), ("Add" : Str), ("AddSlot" : Str), ("Raise" : Str), ("Lower" : Str), ("If" : Str), ("is_number" : Str), ("is_store" : Str), ("check_slot" : Str), ("check_value" : Str), ("check_store" : Str)]
def loose2 : List Str := [("replaced" : Str), ("LETTERS" : Str), ("MOST_LETTERS" : Str), ("MOST_STORES" : Str), ("LEAST_CHANGES" : Str), ("MOST_CHANGES" : Str), ("World" : Str), ("check_world" : Str), ("is_known" : Str), ("is_order" : Str), ("is_set" : Str), ("is_store_of" : Str)]
def loose3 : List Str := [("is_start" : Str), ("are_initial_stores" : Str), ("check_changes" : Str), ("is_name" : Str), ("uses_only" : Str), ("one_larger" : Str), ("is_enough" : Str), ("ends" : Str), ("is_table" : Str), ("check_policy" : Str), ("is_pair" : Str), ("has_cycle" : Str)]
def loose4 : List Str := [("free_names" : Str), ("last_names" : Str), ("without" : Str), ("allowed_orders" : Str), ("stores_and_sets" : Str), ("find_split" : Str), ("split_of" : Str), ("check_enough" : Str), ("check_table" : Str), ("is_table_key" : Str), ("is_right_end" : Str), ("_law_draw" : Str)]
def loose5 : List Str := [("_law_cell_at" : Str), ("_law_digits" : Str), ("_law_take" : Str), ("_law_pool" : Str), ("_law_plain" : Str), ("_law_drawn_world" : Str), ("_law_change" : Str), ("_law_built" : Str), ("_law_done" : Str), ("_law_end" : Str), ("_law_names" : Str), ("_law_sets" : Str)]
def loose6 : List Str := [("_law_orders" : Str), ("_law_allowed" : Str), ("_law_drawn_policy" : Str), ("_law_is_table" : Str), ("_law_table" : Str)]
def loose : List Str := loose0 ++ loose1 ++ loose2 ++ loose3 ++ loose4 ++ loose5 ++ loose6
end OP
namespace OP
open PySem PySem.Spec PyProof.Rows L2
theorem run (w : World) : HandSHeadRun.RunEq R (PySem.W.view R.prog [81]) hookO ob 30000 loose w := by
  intro os
  kernel_rfl
end OP
namespace OP
open PySem PySem.Spec PyProof.Rows L2 LamX
theorem law_at {w : World} {K : PySem.W.Frag} {h : Heap} {mg : Str → Option Value} {f : Addr} (X : K.In h) (G : h.Ns mainGlobals mg) (hfa : mg ("law" : Str) = some (.ref f)) (s : SaysO h K) : LawAtS PySem.Challenge.rw_orderpairs_k03_whole_tables w K CX0 13 63 "_law_script" mg f h := by
  have T := txt_of X G s
  have e := hfa.symm.trans T.g_law
  obtain rfl : f = a_law K := Value.ref.inj (Option.some.inj e)
  have ps : (("_law_sets", none) : He.Defn) ∈ tf := List.mem_singleton.mpr rfl
  obtain ⟨fd, FS⟩ := T.f__law_sets
  obtain ⟨oc, od, kV, doc, pm, an, cdv, ct, osl, rfl, lk, hcd⟩ := FS.ex
  obtain ⟨c, rfl⟩ := He.codeIn_ref hcd
  have ec : He.codeOf K ("_law_sets", none) = c := He.codeOf_eq lk rfl
  obtain ⟨fdl, FL⟩ := T.f_law
  obtain ⟨oc2, od2, kV2, doc2, pm2, an2, cdv2, ct2, osl2, rfl, lk2, hcd2⟩ := id FL.ex
  refine ⟨PySem.W.fnOf "law" "law" (defArgs s_law) (defBody s_law) (defScope s_law) .none kV2 doc2 pm2 an2 cdv2 ct2, tf.map (He.cT K), spLaw K (He.cT K ("_law_sets", none)).2, fun p hp => ?_, fun p hp => ?_, fun p hp => ?_, fun s v => .of_eq rfl, fun H a ns _ _ hH hS => ⟨a, ns, rfl, hS, fun q hq => ?_, fun _ => rfl⟩, fun base X' G' hT => ?_⟩
  · obtain ⟨d, hd, rfl⟩ := List.mem_map.mp hp
    exact s.empty d hd
  · obtain ⟨d, hd, rfl⟩ := List.mem_map.mp hp
    exact s.out d hd
  · obtain ⟨d, hd, rfl⟩ := List.mem_map.mp hp
    exact PySem.W.codeHd_of_K X (s.hd d hd)
  · obtain rfl := List.mem_singleton.mp hq
    exact TabS.nil (hH _ (List.mem_map.mpr ⟨_, ps, rfl⟩))
  · refine fn_law T ⟨⟨oc, od, kV, doc, pm, an, ct, osl, c, lk, hcd, ?_⟩, FS.kp⟩ FL
    have z := hT (He.cT K ("_law_sets", none)) (List.mem_map.mpr ⟨_, ps, rfl⟩)
    have e1 : (He.cT K ("_law_sets", none)).1 = c := ec
    rw [e1] at z
    exact z
end OP
open PySem PySem.W PySem.Calls PyProof.Rows
theorem PySem.Challenge.cw_orderpairs_k03_whole_tables_holds : PySem.Challenge.rw_orderpairs_k03_whole_tables.Holds := by
  w_on; o_law
  refine HandSHeadRun.head_any (r := OpenLaw.row PySem.Challenge.rw_orderpairs_k03_whole_tables) (q := view (OpenLaw.row PySem.Challenge.rw_orderpairs_k03_whole_tables).prog [81]) (H := OP.hookO) (ob := OP.ob) (M := 30000) (loose := OP.loose) (d := HandSHeadRun.topDef (OpenLaw.row PySem.Challenge.rw_orderpairs_k03_whole_tables).prog 81) (kwd := []) OP.ob_eq
    (by kernel_rfl) (fun s => by kernel_rfl) OP.run (by kernel_rfl) (by kernel_rfl) (by kernel_rfl) (by rfl) (by first | assumption | decide +kernel) (by decide +kernel) ⟨rfl, rfl, rfl, rfl, rfl, by decide +kernel⟩ ?hw ?hc
  case hw => w_witness2
  case hc =>
    refine LamX.walk_ofTsE (l := PySem.Challenge.rw_orderpairs_k03_whole_tables) (n := 63) (k := 13) (x := "_law_script") (CX := fun _ => L2.CX0) rfl (by decide) (by kernel_rfl) ⟨rfl, by decide, by decide⟩ ?F (fun _ _ _ _ _ z => z)
    intro w mg fa h Y G hmg0
    obtain ⟨K, KX, c⟩ := Y
    have hmg : mg ("law" : PySem.Str) = some (.ref fa) := by
      have e : (HandSHeadRun.topDef (OpenLaw.row PySem.Challenge.rw_orderpairs_k03_whole_tables).prog 81).name = ("law" : PySem.Str) := by kernel_rfl
      rw [← e]
      exact hmg0
    exact ⟨K, KX, OP.law_at KX G hmg c⟩
