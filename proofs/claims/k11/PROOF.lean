import PyProof.Rows.All
import Wide.All
import OpenK.AllK
import Wide.FinOn
import KE.KStateDown
import HandS.ForMost
import HandS.ForExc
import HandS.Defaults
import HandS.Wide
import HandS.IsInst
import HandS.Property
import HandS.ClsMeth
import HandS.TupAny
import HandS.TupSets
import HandS.SetKeys
import HandS.OwnEq
import HandS.Strs
import HandS.Conv
import HandS.Flow
import HandS.DictComp
import HandS.HeadHook1
import HandS.HeadHook2
import HandS.HeadNt
import HandS.Head0
import HandS.Head1
import HandS.Head2
import HandS.HeadEnd
import HandS.HeadHook3
import HandS.HeadHook4
import HandS.HeadWalk
import HandS.Set
import HandS.SetFor
import HandS.Walk
import HandS.List
import PyProof.ListOps
import HandS.GenBody
import HandS.GenYield
import HandS.GenCall
import HandS.GenList
import PyProof.ForAny
import KE.KEqDict
import KE.KDictWalk
import HandS.Style
import HandS.Deep
import KE.SortKeyHeap
import KE.KSortKey
import HandS.Lambda
import HandS.SortKw
import HandS.CallLocal
import PyProof.InstNe
import KE.KDictPairs
import KE.KDictKeyed
import KE.KMinKey
import HandS.EndTab
import HandS.NestedK
import PySem.Challenge.RW_orderpairs_k11_whole_replicas
set_option Elab.async false
set_option linter.all false
set_option maxRecDepth 100000
set_option maxHeartbeats 0
namespace OP
open PySem PySem.Spec PyProof.Rows L2
def top (i : Nat) : Stmt := PySem.Challenge.pw_orderpairs_k11_whole_replicas.main.body.getD i (.Pass ⟨0, 0, 0, 0⟩)
abbrev s__wall : Stmt := top 0
abbrev a__wall (K : PySem.W.Frag) : Addr := He.ga K "_wall"
abbrev s_Put_init : Stmt := inClass (top 13) 0
abbrev a_Put_init (K : PySem.W.Frag) : Addr := He.ma K (He.ga K "Put") "__init__"
abbrev s_Put_eq : Stmt := inClass (top 13) 1
abbrev a_Put_eq (K : PySem.W.Frag) : Addr := He.ma K (He.ga K "Put") "__eq__"
abbrev s_Put_slots : Stmt := inClass (top 13) 2
abbrev a_Put_slots (K : PySem.W.Frag) : Addr := He5.wf K (He.ga K "Put") "property" "slots"
abbrev s_Put_apply : Stmt := inClass (top 13) 3
abbrev a_Put_apply (K : PySem.W.Frag) : Addr := He.ma K (He.ga K "Put") "apply"
abbrev s_Move_init : Stmt := inClass (top 14) 0
abbrev a_Move_init (K : PySem.W.Frag) : Addr := He.ma K (He.ga K "Move") "__init__"
abbrev s_Move_eq : Stmt := inClass (top 14) 1
abbrev a_Move_eq (K : PySem.W.Frag) : Addr := He.ma K (He.ga K "Move") "__eq__"
abbrev s_Move_slots : Stmt := inClass (top 14) 2
abbrev a_Move_slots (K : PySem.W.Frag) : Addr := He5.wf K (He.ga K "Move") "property" "slots"
abbrev s_Move_apply : Stmt := inClass (top 14) 3
abbrev a_Move_apply (K : PySem.W.Frag) : Addr := He.ma K (He.ga K "Move") "apply"
abbrev s_Add_init : Stmt := inClass (top 15) 0
abbrev a_Add_init (K : PySem.W.Frag) : Addr := He.ma K (He.ga K "Add") "__init__"
abbrev s_Add_eq : Stmt := inClass (top 15) 2
abbrev a_Add_eq (K : PySem.W.Frag) : Addr := He.ma K (He.ga K "Add") "__eq__"
abbrev s_Add_slots : Stmt := inClass (top 15) 3
abbrev a_Add_slots (K : PySem.W.Frag) : Addr := He5.wf K (He.ga K "Add") "property" "slots"
abbrev s_Add_apply : Stmt := inClass (top 15) 4
abbrev a_Add_apply (K : PySem.W.Frag) : Addr := He.ma K (He.ga K "Add") "apply"
abbrev s_AddSlot_init : Stmt := inClass (top 16) 0
abbrev a_AddSlot_init (K : PySem.W.Frag) : Addr := He.ma K (He.ga K "AddSlot") "__init__"
abbrev s_AddSlot_eq : Stmt := inClass (top 16) 1
abbrev a_AddSlot_eq (K : PySem.W.Frag) : Addr := He.ma K (He.ga K "AddSlot") "__eq__"
abbrev s_AddSlot_slots : Stmt := inClass (top 16) 2
abbrev a_AddSlot_slots (K : PySem.W.Frag) : Addr := He5.wf K (He.ga K "AddSlot") "property" "slots"
abbrev s_AddSlot_apply : Stmt := inClass (top 16) 3
abbrev a_AddSlot_apply (K : PySem.W.Frag) : Addr := He.ma K (He.ga K "AddSlot") "apply"
abbrev s_Raise_init : Stmt := inClass (top 17) 0
abbrev a_Raise_init (K : PySem.W.Frag) : Addr := He.ma K (He.ga K "Raise") "__init__"
abbrev s_Raise_eq : Stmt := inClass (top 17) 1
abbrev a_Raise_eq (K : PySem.W.Frag) : Addr := He.ma K (He.ga K "Raise") "__eq__"
abbrev s_Raise_slots : Stmt := inClass (top 17) 2
abbrev a_Raise_slots (K : PySem.W.Frag) : Addr := He5.wf K (He.ga K "Raise") "property" "slots"
abbrev s_Raise_apply : Stmt := inClass (top 17) 3
abbrev a_Raise_apply (K : PySem.W.Frag) : Addr := He.ma K (He.ga K "Raise") "apply"
abbrev s_Lower_init : Stmt := inClass (top 18) 0
abbrev a_Lower_init (K : PySem.W.Frag) : Addr := He.ma K (He.ga K "Lower") "__init__"
abbrev s_Lower_eq : Stmt := inClass (top 18) 1
abbrev a_Lower_eq (K : PySem.W.Frag) : Addr := He.ma K (He.ga K "Lower") "__eq__"
abbrev s_Lower_slots : Stmt := inClass (top 18) 2
abbrev a_Lower_slots (K : PySem.W.Frag) : Addr := He5.wf K (He.ga K "Lower") "property" "slots"
abbrev s_Lower_apply : Stmt := inClass (top 18) 3
abbrev a_Lower_apply (K : PySem.W.Frag) : Addr := He.ma K (He.ga K "Lower") "apply"
abbrev s_If_init : Stmt := inClass (top 19) 0
abbrev a_If_init (K : PySem.W.Frag) : Addr := He.ma K (He.ga K "If") "__init__"
abbrev s_If_eq : Stmt := inClass (top 19) 1
abbrev a_If_eq (K : PySem.W.Frag) : Addr := He.ma K (He.ga K "If") "__eq__"
abbrev s_If_slots : Stmt := inClass (top 19) 2
abbrev a_If_slots (K : PySem.W.Frag) : Addr := He5.wf K (He.ga K "If") "property" "slots"
abbrev s_If_apply : Stmt := inClass (top 19) 3
abbrev a_If_apply (K : PySem.W.Frag) : Addr := He.ma K (He.ga K "If") "apply"
abbrev s_is_number : Stmt := top 20
abbrev a_is_number (K : PySem.W.Frag) : Addr := He.ga K "is_number"
abbrev s_is_store : Stmt := top 21
abbrev a_is_store (K : PySem.W.Frag) : Addr := He.ga K "is_store"
abbrev s_check_slot : Stmt := top 22
abbrev a_check_slot (K : PySem.W.Frag) : Addr := He.ga K "check_slot"
abbrev s_check_value : Stmt := top 23
abbrev a_check_value (K : PySem.W.Frag) : Addr := He.ga K "check_value"
abbrev s_check_store : Stmt := top 24
abbrev a_check_store (K : PySem.W.Frag) : Addr := He.ga K "check_store"
abbrev s_replaced : Stmt := top 25
abbrev a_replaced (K : PySem.W.Frag) : Addr := He.ga K "replaced"
abbrev s_World_init : Stmt := inClass (top 32) 0
abbrev a_World_init (K : PySem.W.Frag) : Addr := He.ma K (He.ga K "World") "__init__"
abbrev s_World_eq : Stmt := inClass (top 32) 1
abbrev a_World_eq (K : PySem.W.Frag) : Addr := He.ma K (He.ga K "World") "__eq__"
abbrev s_World_slots : Stmt := inClass (top 32) 2
abbrev a_World_slots (K : PySem.W.Frag) : Addr := He5.wf K (He.ga K "World") "property" "slots"
abbrev s_World_stores : Stmt := inClass (top 32) 3
abbrev a_World_stores (K : PySem.W.Frag) : Addr := He5.wf K (He.ga K "World") "property" "stores"
abbrev s_World_names : Stmt := inClass (top 32) 4
abbrev a_World_names (K : PySem.W.Frag) : Addr := He5.wf K (He.ga K "World") "property" "names"
abbrev s_World_change : Stmt := inClass (top 32) 5
abbrev a_World_change (K : PySem.W.Frag) : Addr := He.ma K (He.ga K "World") "change"
abbrev s_World_end : Stmt := inClass (top 32) 6
abbrev a_World_end (K : PySem.W.Frag) : Addr := He.ma K (He.ga K "World") "end"
abbrev s_World_sets : Stmt := inClass (top 32) 7
abbrev a_World_sets (K : PySem.W.Frag) : Addr := He.ma K (He.ga K "World") "sets"
abbrev s_check_world : Stmt := top 33
abbrev a_check_world (K : PySem.W.Frag) : Addr := He.ga K "check_world"
abbrev s_is_known : Stmt := top 34
abbrev a_is_known (K : PySem.W.Frag) : Addr := He.ga K "is_known"
abbrev s_is_order : Stmt := top 35
abbrev a_is_order (K : PySem.W.Frag) : Addr := He.ga K "is_order"
abbrev s_is_store_of : Stmt := top 36
abbrev a_is_store_of (K : PySem.W.Frag) : Addr := He.ga K "is_store_of"
abbrev s_is_start : Stmt := top 37
abbrev a_is_start (K : PySem.W.Frag) : Addr := He.ga K "is_start"
abbrev s_are_initial_stores : Stmt := top 38
abbrev a_are_initial_stores (K : PySem.W.Frag) : Addr := He.ga K "are_initial_stores"
abbrev s_check_changes : Stmt := top 39
abbrev a_check_changes (K : PySem.W.Frag) : Addr := He.ga K "check_changes"
abbrev s_is_name : Stmt := top 40
abbrev a_is_name (K : PySem.W.Frag) : Addr := He.ga K "is_name"
abbrev s_uses_only : Stmt := top 41
abbrev a_uses_only (K : PySem.W.Frag) : Addr := He.ga K "uses_only"
abbrev s_check_policy : Stmt := top 43
abbrev a_check_policy (K : PySem.W.Frag) : Addr := He.ga K "check_policy"
abbrev s_is_pair : Stmt := top 44
abbrev a_is_pair (K : PySem.W.Frag) : Addr := He.ga K "is_pair"
abbrev s_has_cycle : Stmt := top 45
abbrev a_has_cycle (K : PySem.W.Frag) : Addr := He.ga K "has_cycle"
abbrev s_free_names : Stmt := top 46
abbrev a_free_names (K : PySem.W.Frag) : Addr := He.ga K "free_names"
abbrev s_without : Stmt := top 47
abbrev a_without (K : PySem.W.Frag) : Addr := He.ga K "without"
abbrev s_allowed_orders : Stmt := top 48
abbrev a_allowed_orders (K : PySem.W.Frag) : Addr := He.ga K "allowed_orders"
abbrev s_Replica_init : Stmt := inClass (top 50) 0
abbrev a_Replica_init (K : PySem.W.Frag) : Addr := He.ma K (He.ga K "Replica") "__init__"
abbrev s_Replica_at : Stmt := inClass (top 50) 1
abbrev a_Replica_at (K : PySem.W.Frag) : Addr := He5.wf K (He.ga K "Replica") "classmethod" "at"
abbrev s_Replica_received : Stmt := inClass (top 50) 2
abbrev a_Replica_received (K : PySem.W.Frag) : Addr := He5.wf K (He.ga K "Replica") "property" "received"
abbrev s_Replica_order : Stmt := inClass (top 50) 3
abbrev a_Replica_order (K : PySem.W.Frag) : Addr := He5.wf K (He.ga K "Replica") "property" "order"
abbrev s_Replica_store : Stmt := inClass (top 50) 4
abbrev a_Replica_store (K : PySem.W.Frag) : Addr := He5.wf K (He.ga K "Replica") "property" "store"
abbrev s_Replica_work : Stmt := inClass (top 50) 5
abbrev a_Replica_work (K : PySem.W.Frag) : Addr := He5.wf K (He.ga K "Replica") "property" "work"
abbrev s_Replica_receive : Stmt := inClass (top 50) 6
abbrev a_Replica_receive (K : PySem.W.Frag) : Addr := He.ma K (He.ga K "Replica") "receive"
abbrev s_Replica_lacking : Stmt := inClass (top 50) 7
abbrev a_Replica_lacking (K : PySem.W.Frag) : Addr := He.ma K (He.ga K "Replica") "lacking"
abbrev s_Replica_sync : Stmt := inClass (top 50) 8
abbrev a_Replica_sync (K : PySem.W.Frag) : Addr := He.ma K (He.ga K "Replica") "sync"
abbrev s_check_alike : Stmt := top 51
abbrev a_check_alike (K : PySem.W.Frag) : Addr := He.ga K "check_alike"
abbrev s_order_of : Stmt := top 52
abbrev a_order_of (K : PySem.W.Frag) : Addr := He.ga K "order_of"
abbrev s_common_length : Stmt := top 53
abbrev a_common_length (K : PySem.W.Frag) : Addr := He.ga K "common_length"
abbrev s_work_of : Stmt := top 55
abbrev a_work_of (K : PySem.W.Frag) : Addr := He.ga K "work_of"
abbrev s_hardest : Stmt := top 56
abbrev a_hardest (K : PySem.W.Frag) : Addr := He.ga K "hardest"
abbrev s_works : Stmt := top 57
abbrev a_works (K : PySem.W.Frag) : Addr := He.ga K "works"
abbrev s_arrivals_with_work : Stmt := top 58
abbrev a_arrivals_with_work (K : PySem.W.Frag) : Addr := He.ga K "arrivals_with_work"
abbrev s__law_cell_at : Stmt := top 60
abbrev a__law_cell_at (K : PySem.W.Frag) : Addr := He.ga K "_law_cell_at"
abbrev s__law_draw : Stmt := top 61
abbrev a__law_draw (K : PySem.W.Frag) : Addr := He.ga K "_law_draw"
abbrev s__law_number : Stmt := top 62
abbrev a__law_number (K : PySem.W.Frag) : Addr := He.ga K "_law_number"
abbrev s__law_next : Stmt := top 63
abbrev a__law_next (K : PySem.W.Frag) : Addr := He.ga K "_law_next"
abbrev s__law_pick : Stmt := top 64
abbrev a__law_pick (K : PySem.W.Frag) : Addr := He.ga K "_law_pick"
abbrev s__law_change : Stmt := top 65
abbrev a__law_change (K : PySem.W.Frag) : Addr := He.ga K "_law_change"
abbrev s__law_made : Stmt := top 66
abbrev a__law_made (K : PySem.W.Frag) : Addr := He.ga K "_law_made"
abbrev s__law_after : Stmt := top 67
abbrev a__law_after (K : PySem.W.Frag) : Addr := He.ga K "_law_after"
abbrev s__law_drawn : Stmt := top 68
abbrev a__law_drawn (K : PySem.W.Frag) : Addr := He.ga K "_law_drawn"
abbrev s__law_world : Stmt := top 69
abbrev a__law_world (K : PySem.W.Frag) : Addr := He.ga K "_law_world"
abbrev s__law_sets : Stmt := top 70
abbrev a__law_sets (K : PySem.W.Frag) : Addr := He.ga K "_law_sets"
abbrev s__law_orders : Stmt := top 71
abbrev a__law_orders (K : PySem.W.Frag) : Addr := He.ga K "_law_orders"
abbrev s__law_end : Stmt := top 72
abbrev a__law_end (K : PySem.W.Frag) : Addr := He.ga K "_law_end"
abbrev s__law_split : Stmt := top 73
abbrev a__law_split (K : PySem.W.Frag) : Addr := He.ga K "_law_split"
abbrev s__law_policies : Stmt := top 74
abbrev a__law_policies (K : PySem.W.Frag) : Addr := He.ga K "_law_policies"
abbrev s__law_policy : Stmt := top 75
abbrev a__law_policy (K : PySem.W.Frag) : Addr := He.ga K "_law_policy"
abbrev s__law_line : Stmt := top 76
abbrev a__law_line (K : PySem.W.Frag) : Addr := He.ga K "_law_line"
abbrev s__law_work : Stmt := top 77
abbrev a__law_work (K : PySem.W.Frag) : Addr := He.ga K "_law_work"
abbrev s__law_replica_right : Stmt := top 78
abbrev a__law_replica_right (K : PySem.W.Frag) : Addr := He.ga K "_law_replica_right"
abbrev s__law_refused : Stmt := top 79
abbrev a__law_refused (K : PySem.W.Frag) : Addr := He.ga K "_law_refused"
abbrev s__law_drawn_names : Stmt := top 80
abbrev a__law_drawn_names (K : PySem.W.Frag) : Addr := He.ga K "_law_drawn_names"
abbrev s__law_two_right : Stmt := top 81
abbrev a__law_two_right (K : PySem.W.Frag) : Addr := He.ga K "_law_two_right"
abbrev s__law_one_right : Stmt := top 82
abbrev a__law_one_right (K : PySem.W.Frag) : Addr := He.ga K "_law_one_right"
abbrev s_law : Stmt := top 83
abbrev a_law (K : PySem.W.Frag) : Addr := He.ga K "law"
abbrev c_Put (K : PySem.W.Frag) : Addr := He.ga K "Put"
abbrev c_Move (K : PySem.W.Frag) : Addr := He.ga K "Move"
abbrev c_Add (K : PySem.W.Frag) : Addr := He.ga K "Add"
abbrev c_AddSlot (K : PySem.W.Frag) : Addr := He.ga K "AddSlot"
abbrev c_Raise (K : PySem.W.Frag) : Addr := He.ga K "Raise"
abbrev c_Lower (K : PySem.W.Frag) : Addr := He.ga K "Lower"
abbrev c_If (K : PySem.W.Frag) : Addr := He.ga K "If"
abbrev c_World (K : PySem.W.Frag) : Addr := He.ga K "World"
abbrev c_Change (K : PySem.W.Frag) : Addr := He.ga K "Change"
abbrev c_Replica (K : PySem.W.Frag) : Addr := He.ga K "Replica"
/-- the facts that an own class must keep so that isinstance looks at its instances -/
structure Own (K : PySem.W.Frag) (C : Addr) : Prop where
  cl : Cls K C
  ha : PySem.W.findIn K (.ref C) "__class__" = some (some (.builtin "object.__class__"))
  hn : PySem.W.specialIn K (.builtin "object.__class__") "__get__" = some (some (.builtin "getset_descriptor.__get__"))
  htk : PySem.W.takesIn K (.builtin "object.__class__") = some true
  hm : PySem.W.mroIn K C (.type "object") = some true
theorem Own.ty {K : PySem.W.Frag} {C : Addr} (o : Own K C) {H : Hp} {a dx : Addr} {fs : List (Str × V)} (e : H a = some (.ins C dx fs)) : TyX K H (.ref a) (.ref C) := .base (.ins e o.cl o.ha o.hn o.htk o.hm)
/-- what the top has left -/
structure Txt (K : PySem.W.Frag) (mg : Str → Option Value) : Prop where
  f__wall : ∃ fd, Fun K "_wall" "_wall" s__wall (a__wall K) fd
  f_Put_init : ∃ fd, Fun K "__init__" "Put.__init__" s_Put_init (a_Put_init K) fd
  f_Put_eq : ∃ fd, Fun K "__eq__" "Put.__eq__" s_Put_eq (a_Put_eq K) fd
  f_Put_slots : ∃ fd, Fun K "slots" "Put.slots" s_Put_slots (a_Put_slots K) fd
  f_Put_apply : ∃ fd, Fun K "apply" "Put.apply" s_Put_apply (a_Put_apply K) fd
  f_Move_init : ∃ fd, Fun K "__init__" "Move.__init__" s_Move_init (a_Move_init K) fd
  f_Move_eq : ∃ fd, Fun K "__eq__" "Move.__eq__" s_Move_eq (a_Move_eq K) fd
  f_Move_slots : ∃ fd, Fun K "slots" "Move.slots" s_Move_slots (a_Move_slots K) fd
  f_Move_apply : ∃ fd, Fun K "apply" "Move.apply" s_Move_apply (a_Move_apply K) fd
  f_Add_init : ∃ fd, Fun K "__init__" "Add.__init__" s_Add_init (a_Add_init K) fd
  f_Add_eq : ∃ fd, Fun K "__eq__" "Add.__eq__" s_Add_eq (a_Add_eq K) fd
  f_Add_slots : ∃ fd, Fun K "slots" "Add.slots" s_Add_slots (a_Add_slots K) fd
  f_Add_apply : ∃ fd, Fun K "apply" "Add.apply" s_Add_apply (a_Add_apply K) fd
  f_AddSlot_init : ∃ fd, Fun K "__init__" "AddSlot.__init__" s_AddSlot_init (a_AddSlot_init K) fd
  f_AddSlot_eq : ∃ fd, Fun K "__eq__" "AddSlot.__eq__" s_AddSlot_eq (a_AddSlot_eq K) fd
  f_AddSlot_slots : ∃ fd, Fun K "slots" "AddSlot.slots" s_AddSlot_slots (a_AddSlot_slots K) fd
  f_AddSlot_apply : ∃ fd, Fun K "apply" "AddSlot.apply" s_AddSlot_apply (a_AddSlot_apply K) fd
  f_Raise_init : ∃ fd, Fun K "__init__" "Raise.__init__" s_Raise_init (a_Raise_init K) fd
  f_Raise_eq : ∃ fd, Fun K "__eq__" "Raise.__eq__" s_Raise_eq (a_Raise_eq K) fd
  f_Raise_slots : ∃ fd, Fun K "slots" "Raise.slots" s_Raise_slots (a_Raise_slots K) fd
  f_Raise_apply : ∃ fd, Fun K "apply" "Raise.apply" s_Raise_apply (a_Raise_apply K) fd
  f_Lower_init : ∃ fd, Fun K "__init__" "Lower.__init__" s_Lower_init (a_Lower_init K) fd
  f_Lower_eq : ∃ fd, Fun K "__eq__" "Lower.__eq__" s_Lower_eq (a_Lower_eq K) fd
  f_Lower_slots : ∃ fd, Fun K "slots" "Lower.slots" s_Lower_slots (a_Lower_slots K) fd
  f_Lower_apply : ∃ fd, Fun K "apply" "Lower.apply" s_Lower_apply (a_Lower_apply K) fd
  f_If_init : ∃ fd, Fun K "__init__" "If.__init__" s_If_init (a_If_init K) fd
  f_If_eq : ∃ fd, Fun K "__eq__" "If.__eq__" s_If_eq (a_If_eq K) fd
  f_If_slots : ∃ fd, Fun K "slots" "If.slots" s_If_slots (a_If_slots K) fd
  f_If_apply : ∃ fd, Fun K "apply" "If.apply" s_If_apply (a_If_apply K) fd
  f_is_number : ∃ fd, Fun K "is_number" "is_number" s_is_number (a_is_number K) fd
  f_is_store : ∃ fd, Fun K "is_store" "is_store" s_is_store (a_is_store K) fd
  f_check_slot : ∃ fd, Fun K "check_slot" "check_slot" s_check_slot (a_check_slot K) fd
  f_check_value : ∃ fd, Fun K "check_value" "check_value" s_check_value (a_check_value K) fd
  f_check_store : ∃ fd, Fun K "check_store" "check_store" s_check_store (a_check_store K) fd
  f_replaced : ∃ fd, Fun K "replaced" "replaced" s_replaced (a_replaced K) fd
  f_World_init : ∃ fd, Fun K "__init__" "World.__init__" s_World_init (a_World_init K) fd
  f_World_eq : ∃ fd, Fun K "__eq__" "World.__eq__" s_World_eq (a_World_eq K) fd
  f_World_slots : ∃ fd, Fun K "slots" "World.slots" s_World_slots (a_World_slots K) fd
  f_World_stores : ∃ fd, Fun K "stores" "World.stores" s_World_stores (a_World_stores K) fd
  f_World_names : ∃ fd, Fun K "names" "World.names" s_World_names (a_World_names K) fd
  f_World_change : ∃ fd, Fun K "change" "World.change" s_World_change (a_World_change K) fd
  f_World_end : ∃ fd, Fun K "end" "World.end" s_World_end (a_World_end K) fd
  f_World_sets : ∃ fd, Fun K "sets" "World.sets" s_World_sets (a_World_sets K) fd
  f_check_world : ∃ fd, Fun K "check_world" "check_world" s_check_world (a_check_world K) fd
  f_is_known : ∃ fd, Fun K "is_known" "is_known" s_is_known (a_is_known K) fd
  f_is_order : ∃ fd, Fun K "is_order" "is_order" s_is_order (a_is_order K) fd
  f_is_store_of : ∃ fd, Fun K "is_store_of" "is_store_of" s_is_store_of (a_is_store_of K) fd
  f_is_start : ∃ fd, Fun K "is_start" "is_start" s_is_start (a_is_start K) fd
  f_are_initial_stores : ∃ fd, Fun K "are_initial_stores" "are_initial_stores" s_are_initial_stores (a_are_initial_stores K) fd
  f_check_changes : ∃ fd, Fun K "check_changes" "check_changes" s_check_changes (a_check_changes K) fd
  f_is_name : ∃ fd, Fun K "is_name" "is_name" s_is_name (a_is_name K) fd
  f_uses_only : ∃ fd, Fun K "uses_only" "uses_only" s_uses_only (a_uses_only K) fd
  f_check_policy : ∃ fd, Fun K "check_policy" "check_policy" s_check_policy (a_check_policy K) fd
  f_is_pair : ∃ fd, Fun K "is_pair" "is_pair" s_is_pair (a_is_pair K) fd
  f_has_cycle : ∃ fd, Fun K "has_cycle" "has_cycle" s_has_cycle (a_has_cycle K) fd
  f_free_names : ∃ fd, Fun K "free_names" "free_names" s_free_names (a_free_names K) fd
  f_without : ∃ fd, Fun K "without" "without" s_without (a_without K) fd
  f_allowed_orders : ∃ fd, Fun K "allowed_orders" "allowed_orders" s_allowed_orders (a_allowed_orders K) fd
  f_Replica_init : ∃ fd, Fun K "__init__" "Replica.__init__" s_Replica_init (a_Replica_init K) fd
  f_Replica_at : ∃ fd, Fun K "at" "Replica.at" s_Replica_at (a_Replica_at K) fd
  f_Replica_received : ∃ fd, Fun K "received" "Replica.received" s_Replica_received (a_Replica_received K) fd
  f_Replica_order : ∃ fd, Fun K "order" "Replica.order" s_Replica_order (a_Replica_order K) fd
  f_Replica_store : ∃ fd, Fun K "store" "Replica.store" s_Replica_store (a_Replica_store K) fd
  f_Replica_work : ∃ fd, Fun K "work" "Replica.work" s_Replica_work (a_Replica_work K) fd
  f_Replica_receive : ∃ fd, Fun K "receive" "Replica.receive" s_Replica_receive (a_Replica_receive K) fd
  f_Replica_lacking : ∃ fd, Fun K "lacking" "Replica.lacking" s_Replica_lacking (a_Replica_lacking K) fd
  f_Replica_sync : ∃ fd, Fun K "sync" "Replica.sync" s_Replica_sync (a_Replica_sync K) fd
  f_check_alike : ∃ fd, Fun K "check_alike" "check_alike" s_check_alike (a_check_alike K) fd
  f_order_of : ∃ fd, Fun K "order_of" "order_of" s_order_of (a_order_of K) fd
  f_common_length : ∃ fd, Fun K "common_length" "common_length" s_common_length (a_common_length K) fd
  f_work_of : ∃ fd, Fun K "work_of" "work_of" s_work_of (a_work_of K) fd
  f_hardest : ∃ fd, Fun K "hardest" "hardest" s_hardest (a_hardest K) fd
  f_works : ∃ fd, Fun K "works" "works" s_works (a_works K) fd
  f_arrivals_with_work : ∃ fd, Fun K "arrivals_with_work" "arrivals_with_work" s_arrivals_with_work (a_arrivals_with_work K) fd
  f__law_cell_at : ∃ fd, Fun K "_law_cell_at" "_law_cell_at" s__law_cell_at (a__law_cell_at K) fd
  f__law_draw : ∃ fd, Fun K "_law_draw" "_law_draw" s__law_draw (a__law_draw K) fd
  f__law_number : ∃ fd, Fun K "_law_number" "_law_number" s__law_number (a__law_number K) fd
  f__law_next : ∃ fd, Fun K "_law_next" "_law_next" s__law_next (a__law_next K) fd
  f__law_pick : ∃ fd, Fun K "_law_pick" "_law_pick" s__law_pick (a__law_pick K) fd
  f__law_change : ∃ fd, Fun K "_law_change" "_law_change" s__law_change (a__law_change K) fd
  f__law_made : ∃ fd, Fun K "_law_made" "_law_made" s__law_made (a__law_made K) fd
  f__law_after : ∃ fd, Fun K "_law_after" "_law_after" s__law_after (a__law_after K) fd
  f__law_drawn : ∃ fd, Fun K "_law_drawn" "_law_drawn" s__law_drawn (a__law_drawn K) fd
  f__law_world : ∃ fd, Fun K "_law_world" "_law_world" s__law_world (a__law_world K) fd
  f__law_sets : ∃ fd, Fun K "_law_sets" "_law_sets" s__law_sets (a__law_sets K) fd
  f__law_orders : ∃ fd, Fun K "_law_orders" "_law_orders" s__law_orders (a__law_orders K) fd
  f__law_end : ∃ fd, Fun K "_law_end" "_law_end" s__law_end (a__law_end K) fd
  f__law_split : ∃ fd, Fun K "_law_split" "_law_split" s__law_split (a__law_split K) fd
  f__law_policies : ∃ fd, Fun K "_law_policies" "_law_policies" s__law_policies (a__law_policies K) fd
  f__law_policy : ∃ fd, Fun K "_law_policy" "_law_policy" s__law_policy (a__law_policy K) fd
  f__law_line : ∃ fd, Fun K "_law_line" "_law_line" s__law_line (a__law_line K) fd
  f__law_work : ∃ fd, Fun K "_law_work" "_law_work" s__law_work (a__law_work K) fd
  f__law_replica_right : ∃ fd, Fun K "_law_replica_right" "_law_replica_right" s__law_replica_right (a__law_replica_right K) fd
  f__law_refused : ∃ fd, Fun K "_law_refused" "_law_refused" s__law_refused (a__law_refused K) fd
  f__law_drawn_names : ∃ fd, Fun K "_law_drawn_names" "_law_drawn_names" s__law_drawn_names (a__law_drawn_names K) fd
  f__law_two_right : ∃ fd, Fun K "_law_two_right" "_law_two_right" s__law_two_right (a__law_two_right K) fd
  f__law_one_right : ∃ fd, Fun K "_law_one_right" "_law_one_right" s__law_one_right (a__law_one_right K) fd
  f_law : ∃ fd, Fun K "law" "law" s_law (a_law K) fd
  g__wall : mg "_wall" = some (.ref (He.ga K "_wall"))
  g_Change : mg "Change" = some (.ref (He.ga K "Change"))
  g_Put : mg "Put" = some (.ref (He.ga K "Put"))
  g_Move : mg "Move" = some (.ref (He.ga K "Move"))
  g_Add : mg "Add" = some (.ref (He.ga K "Add"))
  g_AddSlot : mg "AddSlot" = some (.ref (He.ga K "AddSlot"))
  g_Raise : mg "Raise" = some (.ref (He.ga K "Raise"))
  g_Lower : mg "Lower" = some (.ref (He.ga K "Lower"))
  g_If : mg "If" = some (.ref (He.ga K "If"))
  g_is_number : mg "is_number" = some (.ref (He.ga K "is_number"))
  g_is_store : mg "is_store" = some (.ref (He.ga K "is_store"))
  g_check_slot : mg "check_slot" = some (.ref (He.ga K "check_slot"))
  g_check_value : mg "check_value" = some (.ref (He.ga K "check_value"))
  g_check_store : mg "check_store" = some (.ref (He.ga K "check_store"))
  g_replaced : mg "replaced" = some (.ref (He.ga K "replaced"))
  g_World : mg "World" = some (.ref (He.ga K "World"))
  g_check_world : mg "check_world" = some (.ref (He.ga K "check_world"))
  g_is_known : mg "is_known" = some (.ref (He.ga K "is_known"))
  g_is_order : mg "is_order" = some (.ref (He.ga K "is_order"))
  g_is_store_of : mg "is_store_of" = some (.ref (He.ga K "is_store_of"))
  g_is_start : mg "is_start" = some (.ref (He.ga K "is_start"))
  g_are_initial_stores : mg "are_initial_stores" = some (.ref (He.ga K "are_initial_stores"))
  g_check_changes : mg "check_changes" = some (.ref (He.ga K "check_changes"))
  g_is_name : mg "is_name" = some (.ref (He.ga K "is_name"))
  g_uses_only : mg "uses_only" = some (.ref (He.ga K "uses_only"))
  g_check_policy : mg "check_policy" = some (.ref (He.ga K "check_policy"))
  g_is_pair : mg "is_pair" = some (.ref (He.ga K "is_pair"))
  g_has_cycle : mg "has_cycle" = some (.ref (He.ga K "has_cycle"))
  g_free_names : mg "free_names" = some (.ref (He.ga K "free_names"))
  g_without : mg "without" = some (.ref (He.ga K "without"))
  g_allowed_orders : mg "allowed_orders" = some (.ref (He.ga K "allowed_orders"))
  g_Replica : mg "Replica" = some (.ref (He.ga K "Replica"))
  g_check_alike : mg "check_alike" = some (.ref (He.ga K "check_alike"))
  g_order_of : mg "order_of" = some (.ref (He.ga K "order_of"))
  g_common_length : mg "common_length" = some (.ref (He.ga K "common_length"))
  g_work_of : mg "work_of" = some (.ref (He.ga K "work_of"))
  g_hardest : mg "hardest" = some (.ref (He.ga K "hardest"))
  g_works : mg "works" = some (.ref (He.ga K "works"))
  g_arrivals_with_work : mg "arrivals_with_work" = some (.ref (He.ga K "arrivals_with_work"))
  g__law_cell_at : mg "_law_cell_at" = some (.ref (He.ga K "_law_cell_at"))
  g__law_draw : mg "_law_draw" = some (.ref (He.ga K "_law_draw"))
  g__law_number : mg "_law_number" = some (.ref (He.ga K "_law_number"))
  g__law_next : mg "_law_next" = some (.ref (He.ga K "_law_next"))
  g__law_pick : mg "_law_pick" = some (.ref (He.ga K "_law_pick"))
  g__law_change : mg "_law_change" = some (.ref (He.ga K "_law_change"))
  g__law_made : mg "_law_made" = some (.ref (He.ga K "_law_made"))
  g__law_after : mg "_law_after" = some (.ref (He.ga K "_law_after"))
  g__law_drawn : mg "_law_drawn" = some (.ref (He.ga K "_law_drawn"))
  g__law_world : mg "_law_world" = some (.ref (He.ga K "_law_world"))
  g__law_sets : mg "_law_sets" = some (.ref (He.ga K "_law_sets"))
  g__law_orders : mg "_law_orders" = some (.ref (He.ga K "_law_orders"))
  g__law_end : mg "_law_end" = some (.ref (He.ga K "_law_end"))
  g__law_split : mg "_law_split" = some (.ref (He.ga K "_law_split"))
  g__law_policies : mg "_law_policies" = some (.ref (He.ga K "_law_policies"))
  g__law_policy : mg "_law_policy" = some (.ref (He.ga K "_law_policy"))
  g__law_line : mg "_law_line" = some (.ref (He.ga K "_law_line"))
  g__law_work : mg "_law_work" = some (.ref (He.ga K "_law_work"))
  g__law_replica_right : mg "_law_replica_right" = some (.ref (He.ga K "_law_replica_right"))
  g__law_refused : mg "_law_refused" = some (.ref (He.ga K "_law_refused"))
  g__law_drawn_names : mg "_law_drawn_names" = some (.ref (He.ga K "_law_drawn_names"))
  g__law_two_right : mg "_law_two_right" = some (.ref (He.ga K "_law_two_right"))
  g__law_one_right : mg "_law_one_right" = some (.ref (He.ga K "_law_one_right"))
  g_law : mg "law" = some (.ref (He.ga K "law"))
  i_MOST_SLOTS : ∃ t, mg "MOST_SLOTS" = some (.int 3 t)
  i_MOST_LETTERS : ∃ t, mg "MOST_LETTERS" = some (.int 8 t)
  i_MOST_STORES : ∃ t, mg "MOST_STORES" = some (.int 8 t)
  i_LEAST_CHANGES : ∃ t, mg "LEAST_CHANGES" = some (.int 2 t)
  i_MOST_CHANGES : ∃ t, mg "MOST_CHANGES" = some (.int 4 t)
  letters : ∃ t, mg "LETTERS" = some (.str "abcdefghijklmnopqrstuvwxyz" t)
  z_isinstance : mg "isinstance" = none
  z_int : mg "int" = none
  z_bool : mg "bool" = none
  z_tuple : mg "tuple" = none
  z_list : mg "list" = none
  z_dict : mg "dict" = none
  z_str : mg "str" = none
  z_set : mg "set" = none
  z_len : mg "len" = none
  z_all : mg "all" = none
  z_any : mg "any" = none
  z_sorted : mg "sorted" = none
  z_max : mg "max" = none
  z_min : mg "min" = none
  z_range : mg "range" = none
  z_abs : mg "abs" = none
  z_sum : mg "sum" = none
  z_enumerate : mg "enumerate" = none
  o_Put : Own K (c_Put K)
  mk_Put : Mk K (c_Put K) (a_Put_init K)
  n_Put_slot : NoAttr K (c_Put K) "slot"
  n_Put_value : NoAttr K (c_Put K) "value"
  m_Put_eq : Meth K (c_Put K) "__eq__" (a_Put_eq K)
  m_Put_apply : Meth K (c_Put K) "apply" (a_Put_apply K)
  p_Put_slots : PropOf K (c_Put K) "slots" (He.ma K (c_Put K) "slots") (a_Put_slots K)
  o_Move : Own K (c_Move K)
  mk_Move : Mk K (c_Move K) (a_Move_init K)
  n_Move_slot : NoAttr K (c_Move K) "slot"
  n_Move_source : NoAttr K (c_Move K) "source"
  m_Move_eq : Meth K (c_Move K) "__eq__" (a_Move_eq K)
  m_Move_apply : Meth K (c_Move K) "apply" (a_Move_apply K)
  p_Move_slots : PropOf K (c_Move K) "slots" (He.ma K (c_Move K) "slots") (a_Move_slots K)
  o_Add : Own K (c_Add K)
  mk_Add : Mk K (c_Add K) (a_Add_init K)
  n_Add_slot : NoAttr K (c_Add K) "slot"
  n_Add_value : NoAttr K (c_Add K) "value"
  m_Add_eq : Meth K (c_Add K) "__eq__" (a_Add_eq K)
  m_Add_apply : Meth K (c_Add K) "apply" (a_Add_apply K)
  p_Add_slots : PropOf K (c_Add K) "slots" (He.ma K (c_Add K) "slots") (a_Add_slots K)
  o_AddSlot : Own K (c_AddSlot K)
  mk_AddSlot : Mk K (c_AddSlot K) (a_AddSlot_init K)
  n_AddSlot_slot : NoAttr K (c_AddSlot K) "slot"
  n_AddSlot_source : NoAttr K (c_AddSlot K) "source"
  m_AddSlot_eq : Meth K (c_AddSlot K) "__eq__" (a_AddSlot_eq K)
  m_AddSlot_apply : Meth K (c_AddSlot K) "apply" (a_AddSlot_apply K)
  p_AddSlot_slots : PropOf K (c_AddSlot K) "slots" (He.ma K (c_AddSlot K) "slots") (a_AddSlot_slots K)
  o_Raise : Own K (c_Raise K)
  mk_Raise : Mk K (c_Raise K) (a_Raise_init K)
  n_Raise_slot : NoAttr K (c_Raise K) "slot"
  n_Raise_value : NoAttr K (c_Raise K) "value"
  m_Raise_eq : Meth K (c_Raise K) "__eq__" (a_Raise_eq K)
  m_Raise_apply : Meth K (c_Raise K) "apply" (a_Raise_apply K)
  p_Raise_slots : PropOf K (c_Raise K) "slots" (He.ma K (c_Raise K) "slots") (a_Raise_slots K)
  o_Lower : Own K (c_Lower K)
  mk_Lower : Mk K (c_Lower K) (a_Lower_init K)
  n_Lower_slot : NoAttr K (c_Lower K) "slot"
  n_Lower_value : NoAttr K (c_Lower K) "value"
  m_Lower_eq : Meth K (c_Lower K) "__eq__" (a_Lower_eq K)
  m_Lower_apply : Meth K (c_Lower K) "apply" (a_Lower_apply K)
  p_Lower_slots : PropOf K (c_Lower K) "slots" (He.ma K (c_Lower K) "slots") (a_Lower_slots K)
  o_If : Own K (c_If K)
  mk_If : Mk K (c_If K) (a_If_init K)
  n_If_slot : NoAttr K (c_If K) "slot"
  n_If_value : NoAttr K (c_If K) "value"
  n_If_inner : NoAttr K (c_If K) "inner"
  m_If_eq : Meth K (c_If K) "__eq__" (a_If_eq K)
  m_If_apply : Meth K (c_If K) "apply" (a_If_apply K)
  p_If_slots : PropOf K (c_If K) "slots" (He.ma K (c_If K) "slots") (a_If_slots K)
  o_World : Own K (c_World K)
  mk_World : Mk K (c_World K) (a_World_init K)
  n_World_width : NoAttr K (c_World K) "width"
  n_World_starts : NoAttr K (c_World K) "starts"
  n_World_made : NoAttr K (c_World K) "made"
  m_World_eq : Meth K (c_World K) "__eq__" (a_World_eq K)
  m_World_change : Meth K (c_World K) "change" (a_World_change K)
  m_World_end : Meth K (c_World K) "end" (a_World_end K)
  m_World_sets : Meth K (c_World K) "sets" (a_World_sets K)
  p_World_slots : PropOf K (c_World K) "slots" (He.ma K (c_World K) "slots") (a_World_slots K)
  p_World_stores : PropOf K (c_World K) "stores" (He.ma K (c_World K) "stores") (a_World_stores K)
  p_World_names : PropOf K (c_World K) "names" (He.ma K (c_World K) "names") (a_World_names K)
  o_Replica : Own K (c_Replica K)
  mk_Replica : Mk K (c_Replica K) (a_Replica_init K)
  n_Replica_world : NoAttr K (c_Replica K) "world"
  n_Replica_policy : NoAttr K (c_Replica K) "policy"
  n_Replica_start : NoAttr K (c_Replica K) "start"
  n_Replica_arrived : NoAttr K (c_Replica K) "arrived"
  n_Replica_applied : NoAttr K (c_Replica K) "applied"
  n_Replica_reached : NoAttr K (c_Replica K) "reached"
  n_Replica_applications : NoAttr K (c_Replica K) "applications"
  m_Replica_receive : Meth K (c_Replica K) "receive" (a_Replica_receive K)
  m_Replica_lacking : Meth K (c_Replica K) "lacking" (a_Replica_lacking K)
  m_Replica_sync : Meth K (c_Replica K) "sync" (a_Replica_sync K)
  p_Replica_received : PropOf K (c_Replica K) "received" (He.ma K (c_Replica K) "received") (a_Replica_received K)
  p_Replica_order : PropOf K (c_Replica K) "order" (He.ma K (c_Replica K) "order") (a_Replica_order K)
  p_Replica_store : PropOf K (c_Replica K) "store" (He.ma K (c_Replica K) "store") (a_Replica_store K)
  p_Replica_work : PropOf K (c_Replica K) "work" (He.ma K (c_Replica K) "work") (a_Replica_work K)
  cm_Replica_at : ClX.CMet K (c_Replica K) (.type "type") "at" (He.ma K (c_Replica K) "at") (a_Replica_at K)
  cr_Replica : ClX.CRead K (c_Replica K) (.type "type")
  k_Put : PySem.W.kitOne K (.ref (c_Put K)) (.ref (c_Change K)) = some true
  kIf_Put : PySem.W.kitOne K (.ref (c_Put K)) (.ref (c_If K)) = some false
  k_Move : PySem.W.kitOne K (.ref (c_Move K)) (.ref (c_Change K)) = some true
  kIf_Move : PySem.W.kitOne K (.ref (c_Move K)) (.ref (c_If K)) = some false
  k_Add : PySem.W.kitOne K (.ref (c_Add K)) (.ref (c_Change K)) = some true
  kIf_Add : PySem.W.kitOne K (.ref (c_Add K)) (.ref (c_If K)) = some false
  k_AddSlot : PySem.W.kitOne K (.ref (c_AddSlot K)) (.ref (c_Change K)) = some true
  kIf_AddSlot : PySem.W.kitOne K (.ref (c_AddSlot K)) (.ref (c_If K)) = some false
  k_Raise : PySem.W.kitOne K (.ref (c_Raise K)) (.ref (c_Change K)) = some true
  kIf_Raise : PySem.W.kitOne K (.ref (c_Raise K)) (.ref (c_If K)) = some false
  k_Lower : PySem.W.kitOne K (.ref (c_Lower K)) (.ref (c_Change K)) = some true
  kIf_Lower : PySem.W.kitOne K (.ref (c_Lower K)) (.ref (c_If K)) = some false
  k_If : PySem.W.kitOne K (.ref (c_If K)) (.ref (c_Change K)) = some true
  kIf_If : PySem.W.kitOne K (.ref (c_If K)) (.ref (c_If K)) = some true
  ne_Put : PySem.W.findIn K (.ref (c_Put K)) "__ne__" = some (some (.builtin "object.__ne__"))
  ne_Move : PySem.W.findIn K (.ref (c_Move K)) "__ne__" = some (some (.builtin "object.__ne__"))
  ne_Add : PySem.W.findIn K (.ref (c_Add K)) "__ne__" = some (some (.builtin "object.__ne__"))
  ne_AddSlot : PySem.W.findIn K (.ref (c_AddSlot K)) "__ne__" = some (some (.builtin "object.__ne__"))
  ne_Raise : PySem.W.findIn K (.ref (c_Raise K)) "__ne__" = some (some (.builtin "object.__ne__"))
  ne_Lower : PySem.W.findIn K (.ref (c_Lower K)) "__ne__" = some (some (.builtin "object.__ne__"))
  ne_If : PySem.W.findIn K (.ref (c_If K)) "__ne__" = some (some (.builtin "object.__ne__"))
  ne_World : PySem.W.findIn K (.ref (c_World K)) "__ne__" = some (some (.builtin "object.__ne__"))
  kk_Put_Move : PySem.W.kitOne K (.ref (c_Put K)) (.ref (c_Move K)) = some false
  sb_Put_Move : PySem.W.subIn K (.ref (c_Put K)) (.ref (c_Move K)) = some false
  kk_Put_Add : PySem.W.kitOne K (.ref (c_Put K)) (.ref (c_Add K)) = some false
  sb_Put_Add : PySem.W.subIn K (.ref (c_Put K)) (.ref (c_Add K)) = some false
  kk_Put_AddSlot : PySem.W.kitOne K (.ref (c_Put K)) (.ref (c_AddSlot K)) = some false
  sb_Put_AddSlot : PySem.W.subIn K (.ref (c_Put K)) (.ref (c_AddSlot K)) = some false
  kk_Put_Raise : PySem.W.kitOne K (.ref (c_Put K)) (.ref (c_Raise K)) = some false
  sb_Put_Raise : PySem.W.subIn K (.ref (c_Put K)) (.ref (c_Raise K)) = some false
  kk_Put_Lower : PySem.W.kitOne K (.ref (c_Put K)) (.ref (c_Lower K)) = some false
  sb_Put_Lower : PySem.W.subIn K (.ref (c_Put K)) (.ref (c_Lower K)) = some false
  kk_Put_If : PySem.W.kitOne K (.ref (c_Put K)) (.ref (c_If K)) = some false
  sb_Put_If : PySem.W.subIn K (.ref (c_Put K)) (.ref (c_If K)) = some false
  kk_Move_Put : PySem.W.kitOne K (.ref (c_Move K)) (.ref (c_Put K)) = some false
  sb_Move_Put : PySem.W.subIn K (.ref (c_Move K)) (.ref (c_Put K)) = some false
  kk_Move_Add : PySem.W.kitOne K (.ref (c_Move K)) (.ref (c_Add K)) = some false
  sb_Move_Add : PySem.W.subIn K (.ref (c_Move K)) (.ref (c_Add K)) = some false
  kk_Move_AddSlot : PySem.W.kitOne K (.ref (c_Move K)) (.ref (c_AddSlot K)) = some false
  sb_Move_AddSlot : PySem.W.subIn K (.ref (c_Move K)) (.ref (c_AddSlot K)) = some false
  kk_Move_Raise : PySem.W.kitOne K (.ref (c_Move K)) (.ref (c_Raise K)) = some false
  sb_Move_Raise : PySem.W.subIn K (.ref (c_Move K)) (.ref (c_Raise K)) = some false
  kk_Move_Lower : PySem.W.kitOne K (.ref (c_Move K)) (.ref (c_Lower K)) = some false
  sb_Move_Lower : PySem.W.subIn K (.ref (c_Move K)) (.ref (c_Lower K)) = some false
  kk_Move_If : PySem.W.kitOne K (.ref (c_Move K)) (.ref (c_If K)) = some false
  sb_Move_If : PySem.W.subIn K (.ref (c_Move K)) (.ref (c_If K)) = some false
  kk_Add_Put : PySem.W.kitOne K (.ref (c_Add K)) (.ref (c_Put K)) = some false
  sb_Add_Put : PySem.W.subIn K (.ref (c_Add K)) (.ref (c_Put K)) = some false
  kk_Add_Move : PySem.W.kitOne K (.ref (c_Add K)) (.ref (c_Move K)) = some false
  sb_Add_Move : PySem.W.subIn K (.ref (c_Add K)) (.ref (c_Move K)) = some false
  kk_Add_AddSlot : PySem.W.kitOne K (.ref (c_Add K)) (.ref (c_AddSlot K)) = some false
  sb_Add_AddSlot : PySem.W.subIn K (.ref (c_Add K)) (.ref (c_AddSlot K)) = some false
  kk_Add_Raise : PySem.W.kitOne K (.ref (c_Add K)) (.ref (c_Raise K)) = some false
  sb_Add_Raise : PySem.W.subIn K (.ref (c_Add K)) (.ref (c_Raise K)) = some false
  kk_Add_Lower : PySem.W.kitOne K (.ref (c_Add K)) (.ref (c_Lower K)) = some false
  sb_Add_Lower : PySem.W.subIn K (.ref (c_Add K)) (.ref (c_Lower K)) = some false
  kk_Add_If : PySem.W.kitOne K (.ref (c_Add K)) (.ref (c_If K)) = some false
  sb_Add_If : PySem.W.subIn K (.ref (c_Add K)) (.ref (c_If K)) = some false
  kk_AddSlot_Put : PySem.W.kitOne K (.ref (c_AddSlot K)) (.ref (c_Put K)) = some false
  sb_AddSlot_Put : PySem.W.subIn K (.ref (c_AddSlot K)) (.ref (c_Put K)) = some false
  kk_AddSlot_Move : PySem.W.kitOne K (.ref (c_AddSlot K)) (.ref (c_Move K)) = some false
  sb_AddSlot_Move : PySem.W.subIn K (.ref (c_AddSlot K)) (.ref (c_Move K)) = some false
  kk_AddSlot_Add : PySem.W.kitOne K (.ref (c_AddSlot K)) (.ref (c_Add K)) = some false
  sb_AddSlot_Add : PySem.W.subIn K (.ref (c_AddSlot K)) (.ref (c_Add K)) = some false
  kk_AddSlot_Raise : PySem.W.kitOne K (.ref (c_AddSlot K)) (.ref (c_Raise K)) = some false
  sb_AddSlot_Raise : PySem.W.subIn K (.ref (c_AddSlot K)) (.ref (c_Raise K)) = some false
  kk_AddSlot_Lower : PySem.W.kitOne K (.ref (c_AddSlot K)) (.ref (c_Lower K)) = some false
  sb_AddSlot_Lower : PySem.W.subIn K (.ref (c_AddSlot K)) (.ref (c_Lower K)) = some false
  kk_AddSlot_If : PySem.W.kitOne K (.ref (c_AddSlot K)) (.ref (c_If K)) = some false
  sb_AddSlot_If : PySem.W.subIn K (.ref (c_AddSlot K)) (.ref (c_If K)) = some false
  kk_Raise_Put : PySem.W.kitOne K (.ref (c_Raise K)) (.ref (c_Put K)) = some false
  sb_Raise_Put : PySem.W.subIn K (.ref (c_Raise K)) (.ref (c_Put K)) = some false
  kk_Raise_Move : PySem.W.kitOne K (.ref (c_Raise K)) (.ref (c_Move K)) = some false
  sb_Raise_Move : PySem.W.subIn K (.ref (c_Raise K)) (.ref (c_Move K)) = some false
  kk_Raise_Add : PySem.W.kitOne K (.ref (c_Raise K)) (.ref (c_Add K)) = some false
  sb_Raise_Add : PySem.W.subIn K (.ref (c_Raise K)) (.ref (c_Add K)) = some false
  kk_Raise_AddSlot : PySem.W.kitOne K (.ref (c_Raise K)) (.ref (c_AddSlot K)) = some false
  sb_Raise_AddSlot : PySem.W.subIn K (.ref (c_Raise K)) (.ref (c_AddSlot K)) = some false
  kk_Raise_Lower : PySem.W.kitOne K (.ref (c_Raise K)) (.ref (c_Lower K)) = some false
  sb_Raise_Lower : PySem.W.subIn K (.ref (c_Raise K)) (.ref (c_Lower K)) = some false
  kk_Raise_If : PySem.W.kitOne K (.ref (c_Raise K)) (.ref (c_If K)) = some false
  sb_Raise_If : PySem.W.subIn K (.ref (c_Raise K)) (.ref (c_If K)) = some false
  kk_Lower_Put : PySem.W.kitOne K (.ref (c_Lower K)) (.ref (c_Put K)) = some false
  sb_Lower_Put : PySem.W.subIn K (.ref (c_Lower K)) (.ref (c_Put K)) = some false
  kk_Lower_Move : PySem.W.kitOne K (.ref (c_Lower K)) (.ref (c_Move K)) = some false
  sb_Lower_Move : PySem.W.subIn K (.ref (c_Lower K)) (.ref (c_Move K)) = some false
  kk_Lower_Add : PySem.W.kitOne K (.ref (c_Lower K)) (.ref (c_Add K)) = some false
  sb_Lower_Add : PySem.W.subIn K (.ref (c_Lower K)) (.ref (c_Add K)) = some false
  kk_Lower_AddSlot : PySem.W.kitOne K (.ref (c_Lower K)) (.ref (c_AddSlot K)) = some false
  sb_Lower_AddSlot : PySem.W.subIn K (.ref (c_Lower K)) (.ref (c_AddSlot K)) = some false
  kk_Lower_Raise : PySem.W.kitOne K (.ref (c_Lower K)) (.ref (c_Raise K)) = some false
  sb_Lower_Raise : PySem.W.subIn K (.ref (c_Lower K)) (.ref (c_Raise K)) = some false
  kk_Lower_If : PySem.W.kitOne K (.ref (c_Lower K)) (.ref (c_If K)) = some false
  sb_Lower_If : PySem.W.subIn K (.ref (c_Lower K)) (.ref (c_If K)) = some false
  kk_If_Put : PySem.W.kitOne K (.ref (c_If K)) (.ref (c_Put K)) = some false
  sb_If_Put : PySem.W.subIn K (.ref (c_If K)) (.ref (c_Put K)) = some false
  kk_If_Move : PySem.W.kitOne K (.ref (c_If K)) (.ref (c_Move K)) = some false
  sb_If_Move : PySem.W.subIn K (.ref (c_If K)) (.ref (c_Move K)) = some false
  kk_If_Add : PySem.W.kitOne K (.ref (c_If K)) (.ref (c_Add K)) = some false
  sb_If_Add : PySem.W.subIn K (.ref (c_If K)) (.ref (c_Add K)) = some false
  kk_If_AddSlot : PySem.W.kitOne K (.ref (c_If K)) (.ref (c_AddSlot K)) = some false
  sb_If_AddSlot : PySem.W.subIn K (.ref (c_If K)) (.ref (c_AddSlot K)) = some false
  kk_If_Raise : PySem.W.kitOne K (.ref (c_If K)) (.ref (c_Raise K)) = some false
  sb_If_Raise : PySem.W.subIn K (.ref (c_If K)) (.ref (c_Raise K)) = some false
  kk_If_Lower : PySem.W.kitOne K (.ref (c_If K)) (.ref (c_Lower K)) = some false
  sb_If_Lower : PySem.W.subIn K (.ref (c_If K)) (.ref (c_Lower K)) = some false
  modulus : ∃ u, ClX.CRead K (c_Change K) (.type "type") ∧ ClX.CVal K (c_Change K) (.type "type") "MODULUS" (.int 8) u
  g_BadName : mg "BadName" = some (.ref (He.ga K "BadName"))
  x_BadName : PySem.W.excIn K (He.ga K "BadName") He.veBase "ValueError.__new__" = true ∧ PySem.W.keepIn K (.ref (He.ga K "BadName")) = true ∧ PySem.W.subIn K (.ref (He.ga K "BadName")) (.type "BaseException") = some true ∧ PySem.W.typeIn K (.ref (He.ga K "BadName")) = some (.type "type")
  e_BadName : PySem.W.exmOne K (.ref (He.ga K "BadName")) (.ref (He.ga K "BadName")) = some true
/-- the def at f keeps the promise sp, by level k; how it binds; that it stays -/
structure Ok (P : Program) (w : World) (K : PySem.W.Frag) (mg : Str → Option Value) (base : Heap) (f : Addr) (ps : List Str) (k : Nat) (sp : Sp) : Prop where
  ex : ∃ fd, FnOk P w K mg base CX0 k f fd ps sp ∧ Binds K fd ps []
  kp : PySem.W.keepIn K (.ref f) = true
section
variable {P : Program} {w : World} {K : PySem.W.Frag} {mg : Str → Option Value} {base : Heap}
theorem ok_of {x qual : Str} {st : Stmt} {f : Addr} {N ps : List Str} {k : Nat} {sp : Sp} (F : ∃ fd, Fun K x qual st f fd) (S : FnScope N ps (defScope st))
    (hb : ∀ (kV doc pm : Value) (an : Option Addr) (cdv ct : Value) (us : List Value), us.length = ps.length → bindArgs (PySem.W.fnOf x qual (defArgs st) (defBody st) (defScope st) .none kV doc pm an cdv ct) ⟨us, []⟩ = pure (ps.zip us))
    (len : ∀ vs H Q E, sp vs H Q E → vs.length = ps.length)
    (body : ∀ (cdv : Value) (A : Around) (outer : List Env) (s : Shared) (H : Hp) (vs : List V) (Q : VK) (E : XK), Room k (A.deeper (envOfC qual (defScope st) s.heap.objs.size f cdv)) → sp vs H Q E →
      ∃ t, PSs (cxOf CX0 P w K mg base N qual (defScope st) f cdv A outer s H E).nox (defBody st) t ∧ t { nx := fun _ H' => Q .non H', rt := Q } (start N vs) H) : Ok P w K mg base f ps (k + 1) sp := by
  obtain ⟨fd, F⟩ := F
  exact ⟨⟨fd, F.ok S len body, F.binds hb⟩, F.kp⟩
theorem Ok.mono {f : Addr} {ps : List Str} {j k : Nat} {sp : Sp} (O : Ok P w K mg base f ps j sp) (h : j ≤ k) : Ok P w K mg base f ps k sp := by
  obtain ⟨⟨fd, G, b⟩, kp⟩ := O
  exact ⟨⟨fd, G.mono h, b⟩, kp⟩
end
section
variable {X : Cx} {x : Str} {p pos apos : Pos} {e o : Expr} {es : List Expr} {t : TA} {ta : TE} {f C : Addr} {ps : List Str} {k : Nat} {sp : Sp}
/-- f(e, ..) -/
theorem pe_c (O : Ok X.prog X.w X.K X.mg X.base f ps k sp) (hr : Room k X.A) (hm : X.mg x = some (.ref f)) (ha : PA X (e :: es) t) (hg : Gl X x := by rfl) (hdb : (x == ("__debug__" : Str)) = false := by decide)
    (he : starEach (e :: es) X.env = (false, eval e X.env) :: starEach es X.env := by rfl) (hpl : (backTo pos (starEach es X.env)).any (·.1) = false := by rfl) :
    PE X (.Call (.Name x p) (e :: es) [] pos) (tCall sp [] E0 t) := by
  obtain ⟨⟨fd, G, b⟩, kp⟩ := O
  exact pe_call G hr hg hm kp b .nil pass0 ha hdb he hpl
/-- C(e, ..) -/
theorem pe_mkc (M : Mk X.K C f) (O : Ok X.prog X.w X.K X.mg X.base f ps k sp) (hr : Room (k + 1) X.A) (hm : X.mg x = some (.ref C)) (ha : PA X (e :: es) t) (hg : Gl X x := by rfl) (hdb : (x == ("__debug__" : Str)) = false := by decide)
    (he : starEach (e :: es) X.env = (false, eval e X.env) :: starEach es X.env := by rfl) (hpl : (backTo pos (starEach es X.env)).any (·.1) = false := by rfl) :
    PE X (.Call (.Name x p) (e :: es) [] pos) (tMake C sp [] E0 t) := by
  obtain ⟨⟨fd, G, b⟩, kp⟩ := O
  exact pe_make M G hr hg hm b .nil pass0 ha hdb he hpl
/-- e.f, a property -/
theorem pe_pr {q : Addr} {nm : Str} (he : PE X e ta) (c : Own X.K C) (hp : PropOf X.K C nm q f) (O : Ok X.prog X.w X.K X.mg X.base f ps k sp) (hr : Room (k + 1) X.A) (hab : attributeBase e nm X.env (eval e X.env) = eval e X.env := by rfl) :
    PE X (.Attribute e nm pos) (tProp C sp [] E0 ta) := by
  obtain ⟨⟨fd, G, b⟩, kp⟩ := O
  exact pe_prop he c.cl hp G hr b .nil pass0 hab
/-- any of some readings -/
theorem pe_any {ι : Sort _} {t : ι → TE} (h : ∀ i, PE X e (t i)) : PE X e (fun σ H Q => ∃ i, t i σ H Q) := ⟨fun pins s σ H Q I ⟨i, q⟩ => (h i).run pins s σ H Q I q⟩
end
/-- C.f, the class a name of the module, its constant known -/
theorem pe_cv {C : Addr} {f x : Str} {v : V} {u : Value} {p pos : Pos} {X : Cx} (K' : PySem.W.Frag) (cr : ClX.CRead K' C (.type "type")) (cv : ClX.CVal K' C (.type "type") f v u) (hm : X.mg x = some (.ref C)) (hK : X.K = K' := by rfl) (hg : Gl X x := by rfl) (hdb : (x == ("__debug__" : Str)) = false := by decide)
    (hb : attributeBase (.Name x p) f X.env (eval (.Name x p) X.env) = eval (.Name x p) X.env := by rfl) : PE X (.Attribute (.Name x p) f pos) (tC v) := by
  subst hK
  refine ⟨fun pins s σ H Q I h => ?_⟩
  exact (ClX.pe_cval (pe_glob (v := .ref C) hg hm rfl hdb) hb).run pins s σ H Q I ⟨C, _, v, u, rfl, cr, cv, h⟩
theorem _root_.L2.Same.tp {K : PySem.W.Frag} {H H' : Hp} {a : Addr} {xs : List V} (e : Same H H') (h : SqT K H a xs) : SqT K H' a xs := SqT.ext h e
theorem same_upd {H : Hp} {p : Addr} {o : HO} (h : H p = none) : Same H (upd H p o) := fun b u e => by rw [upd_ne (ne_of_none e h)]; exact e
theorem _root_.L2.Same.push {H H1 : Hp} {p : Addr} {o : HO} (s : Same H H1) (h : H1 p = none) : Same H (L2.upd H1 p o) := s.trans (same_upd h)
end OP
namespace OP
open PySem PySem.Spec PyProof.Rows L2
def d__wall : He5.DefA := ⟨fun K => a__wall K, "_wall", "_wall", defArgs s__wall, defBody s__wall, defScope s__wall, [], []⟩
def d_Put_init : He5.DefA := ⟨fun K => a_Put_init K, "__init__", "Put.__init__", defArgs s_Put_init, defBody s_Put_init, defScope s_Put_init, [], []⟩
def d_Put_eq : He5.DefA := ⟨fun K => a_Put_eq K, "__eq__", "Put.__eq__", defArgs s_Put_eq, defBody s_Put_eq, defScope s_Put_eq, [], []⟩
def d_Put_slots : He5.DefA := ⟨fun K => a_Put_slots K, "slots", "Put.slots", defArgs s_Put_slots, defBody s_Put_slots, defScope s_Put_slots, [], []⟩
def d_Put_apply : He5.DefA := ⟨fun K => a_Put_apply K, "apply", "Put.apply", defArgs s_Put_apply, defBody s_Put_apply, defScope s_Put_apply, [], []⟩
def d_Move_init : He5.DefA := ⟨fun K => a_Move_init K, "__init__", "Move.__init__", defArgs s_Move_init, defBody s_Move_init, defScope s_Move_init, [], []⟩
def d_Move_eq : He5.DefA := ⟨fun K => a_Move_eq K, "__eq__", "Move.__eq__", defArgs s_Move_eq, defBody s_Move_eq, defScope s_Move_eq, [], []⟩
def d_Move_slots : He5.DefA := ⟨fun K => a_Move_slots K, "slots", "Move.slots", defArgs s_Move_slots, defBody s_Move_slots, defScope s_Move_slots, [], []⟩
def d_Move_apply : He5.DefA := ⟨fun K => a_Move_apply K, "apply", "Move.apply", defArgs s_Move_apply, defBody s_Move_apply, defScope s_Move_apply, [], []⟩
def d_Add_init : He5.DefA := ⟨fun K => a_Add_init K, "__init__", "Add.__init__", defArgs s_Add_init, defBody s_Add_init, defScope s_Add_init, [], []⟩
def d_Add_eq : He5.DefA := ⟨fun K => a_Add_eq K, "__eq__", "Add.__eq__", defArgs s_Add_eq, defBody s_Add_eq, defScope s_Add_eq, [], []⟩
def d_Add_slots : He5.DefA := ⟨fun K => a_Add_slots K, "slots", "Add.slots", defArgs s_Add_slots, defBody s_Add_slots, defScope s_Add_slots, [], []⟩
def d_Add_apply : He5.DefA := ⟨fun K => a_Add_apply K, "apply", "Add.apply", defArgs s_Add_apply, defBody s_Add_apply, defScope s_Add_apply, [], []⟩
def d_AddSlot_init : He5.DefA := ⟨fun K => a_AddSlot_init K, "__init__", "AddSlot.__init__", defArgs s_AddSlot_init, defBody s_AddSlot_init, defScope s_AddSlot_init, [], []⟩
def d_AddSlot_eq : He5.DefA := ⟨fun K => a_AddSlot_eq K, "__eq__", "AddSlot.__eq__", defArgs s_AddSlot_eq, defBody s_AddSlot_eq, defScope s_AddSlot_eq, [], []⟩
def d_AddSlot_slots : He5.DefA := ⟨fun K => a_AddSlot_slots K, "slots", "AddSlot.slots", defArgs s_AddSlot_slots, defBody s_AddSlot_slots, defScope s_AddSlot_slots, [], []⟩
def d_AddSlot_apply : He5.DefA := ⟨fun K => a_AddSlot_apply K, "apply", "AddSlot.apply", defArgs s_AddSlot_apply, defBody s_AddSlot_apply, defScope s_AddSlot_apply, [], []⟩
def d_Raise_init : He5.DefA := ⟨fun K => a_Raise_init K, "__init__", "Raise.__init__", defArgs s_Raise_init, defBody s_Raise_init, defScope s_Raise_init, [], []⟩
def d_Raise_eq : He5.DefA := ⟨fun K => a_Raise_eq K, "__eq__", "Raise.__eq__", defArgs s_Raise_eq, defBody s_Raise_eq, defScope s_Raise_eq, [], []⟩
def d_Raise_slots : He5.DefA := ⟨fun K => a_Raise_slots K, "slots", "Raise.slots", defArgs s_Raise_slots, defBody s_Raise_slots, defScope s_Raise_slots, [], []⟩
def d_Raise_apply : He5.DefA := ⟨fun K => a_Raise_apply K, "apply", "Raise.apply", defArgs s_Raise_apply, defBody s_Raise_apply, defScope s_Raise_apply, [], []⟩
def d_Lower_init : He5.DefA := ⟨fun K => a_Lower_init K, "__init__", "Lower.__init__", defArgs s_Lower_init, defBody s_Lower_init, defScope s_Lower_init, [], []⟩
def d_Lower_eq : He5.DefA := ⟨fun K => a_Lower_eq K, "__eq__", "Lower.__eq__", defArgs s_Lower_eq, defBody s_Lower_eq, defScope s_Lower_eq, [], []⟩
def d_Lower_slots : He5.DefA := ⟨fun K => a_Lower_slots K, "slots", "Lower.slots", defArgs s_Lower_slots, defBody s_Lower_slots, defScope s_Lower_slots, [], []⟩
def d_Lower_apply : He5.DefA := ⟨fun K => a_Lower_apply K, "apply", "Lower.apply", defArgs s_Lower_apply, defBody s_Lower_apply, defScope s_Lower_apply, [], []⟩
def d_If_init : He5.DefA := ⟨fun K => a_If_init K, "__init__", "If.__init__", defArgs s_If_init, defBody s_If_init, defScope s_If_init, [], []⟩
def d_If_eq : He5.DefA := ⟨fun K => a_If_eq K, "__eq__", "If.__eq__", defArgs s_If_eq, defBody s_If_eq, defScope s_If_eq, [], []⟩
def d_If_slots : He5.DefA := ⟨fun K => a_If_slots K, "slots", "If.slots", defArgs s_If_slots, defBody s_If_slots, defScope s_If_slots, [], []⟩
def d_If_apply : He5.DefA := ⟨fun K => a_If_apply K, "apply", "If.apply", defArgs s_If_apply, defBody s_If_apply, defScope s_If_apply, [], []⟩
def d_is_number : He5.DefA := ⟨fun K => a_is_number K, "is_number", "is_number", defArgs s_is_number, defBody s_is_number, defScope s_is_number, [], []⟩
def d_is_store : He5.DefA := ⟨fun K => a_is_store K, "is_store", "is_store", defArgs s_is_store, defBody s_is_store, defScope s_is_store, [], []⟩
def d_check_slot : He5.DefA := ⟨fun K => a_check_slot K, "check_slot", "check_slot", defArgs s_check_slot, defBody s_check_slot, defScope s_check_slot, [], []⟩
def d_check_value : He5.DefA := ⟨fun K => a_check_value K, "check_value", "check_value", defArgs s_check_value, defBody s_check_value, defScope s_check_value, [], []⟩
def d_check_store : He5.DefA := ⟨fun K => a_check_store K, "check_store", "check_store", defArgs s_check_store, defBody s_check_store, defScope s_check_store, [], []⟩
def d_replaced : He5.DefA := ⟨fun K => a_replaced K, "replaced", "replaced", defArgs s_replaced, defBody s_replaced, defScope s_replaced, [], []⟩
def d_World_init : He5.DefA := ⟨fun K => a_World_init K, "__init__", "World.__init__", defArgs s_World_init, defBody s_World_init, defScope s_World_init, [], []⟩
def d_World_eq : He5.DefA := ⟨fun K => a_World_eq K, "__eq__", "World.__eq__", defArgs s_World_eq, defBody s_World_eq, defScope s_World_eq, [], []⟩
def d_World_slots : He5.DefA := ⟨fun K => a_World_slots K, "slots", "World.slots", defArgs s_World_slots, defBody s_World_slots, defScope s_World_slots, [], []⟩
def d_World_stores : He5.DefA := ⟨fun K => a_World_stores K, "stores", "World.stores", defArgs s_World_stores, defBody s_World_stores, defScope s_World_stores, [], []⟩
def d_World_names : He5.DefA := ⟨fun K => a_World_names K, "names", "World.names", defArgs s_World_names, defBody s_World_names, defScope s_World_names, [], []⟩
def d_World_change : He5.DefA := ⟨fun K => a_World_change K, "change", "World.change", defArgs s_World_change, defBody s_World_change, defScope s_World_change, [], []⟩
def d_World_end : He5.DefA := ⟨fun K => a_World_end K, "end", "World.end", defArgs s_World_end, defBody s_World_end, defScope s_World_end, [], []⟩
def d_World_sets : He5.DefA := ⟨fun K => a_World_sets K, "sets", "World.sets", defArgs s_World_sets, defBody s_World_sets, defScope s_World_sets, [], []⟩
def d_check_world : He5.DefA := ⟨fun K => a_check_world K, "check_world", "check_world", defArgs s_check_world, defBody s_check_world, defScope s_check_world, [], []⟩
def d_is_known : He5.DefA := ⟨fun K => a_is_known K, "is_known", "is_known", defArgs s_is_known, defBody s_is_known, defScope s_is_known, [], []⟩
def d_is_order : He5.DefA := ⟨fun K => a_is_order K, "is_order", "is_order", defArgs s_is_order, defBody s_is_order, defScope s_is_order, [], []⟩
def d_is_store_of : He5.DefA := ⟨fun K => a_is_store_of K, "is_store_of", "is_store_of", defArgs s_is_store_of, defBody s_is_store_of, defScope s_is_store_of, [], []⟩
def d_is_start : He5.DefA := ⟨fun K => a_is_start K, "is_start", "is_start", defArgs s_is_start, defBody s_is_start, defScope s_is_start, [], []⟩
def d_are_initial_stores : He5.DefA := ⟨fun K => a_are_initial_stores K, "are_initial_stores", "are_initial_stores", defArgs s_are_initial_stores, defBody s_are_initial_stores, defScope s_are_initial_stores, [], []⟩
def d_check_changes : He5.DefA := ⟨fun K => a_check_changes K, "check_changes", "check_changes", defArgs s_check_changes, defBody s_check_changes, defScope s_check_changes, [], []⟩
def d_is_name : He5.DefA := ⟨fun K => a_is_name K, "is_name", "is_name", defArgs s_is_name, defBody s_is_name, defScope s_is_name, [], []⟩
def d_uses_only : He5.DefA := ⟨fun K => a_uses_only K, "uses_only", "uses_only", defArgs s_uses_only, defBody s_uses_only, defScope s_uses_only, [], []⟩
def d_check_policy : He5.DefA := ⟨fun K => a_check_policy K, "check_policy", "check_policy", defArgs s_check_policy, defBody s_check_policy, defScope s_check_policy, [], []⟩
def d_is_pair : He5.DefA := ⟨fun K => a_is_pair K, "is_pair", "is_pair", defArgs s_is_pair, defBody s_is_pair, defScope s_is_pair, [], []⟩
def d_has_cycle : He5.DefA := ⟨fun K => a_has_cycle K, "has_cycle", "has_cycle", defArgs s_has_cycle, defBody s_has_cycle, defScope s_has_cycle, [], []⟩
def d_free_names : He5.DefA := ⟨fun K => a_free_names K, "free_names", "free_names", defArgs s_free_names, defBody s_free_names, defScope s_free_names, [], []⟩
def d_without : He5.DefA := ⟨fun K => a_without K, "without", "without", defArgs s_without, defBody s_without, defScope s_without, [], []⟩
def d_allowed_orders : He5.DefA := ⟨fun K => a_allowed_orders K, "allowed_orders", "allowed_orders", defArgs s_allowed_orders, defBody s_allowed_orders, defScope s_allowed_orders, [], []⟩
def d_Replica_init : He5.DefA := ⟨fun K => a_Replica_init K, "__init__", "Replica.__init__", defArgs s_Replica_init, defBody s_Replica_init, defScope s_Replica_init, [], []⟩
def d_Replica_at : He5.DefA := ⟨fun K => a_Replica_at K, "at", "Replica.at", defArgs s_Replica_at, defBody s_Replica_at, defScope s_Replica_at, [], []⟩
def d_Replica_received : He5.DefA := ⟨fun K => a_Replica_received K, "received", "Replica.received", defArgs s_Replica_received, defBody s_Replica_received, defScope s_Replica_received, [], []⟩
def d_Replica_order : He5.DefA := ⟨fun K => a_Replica_order K, "order", "Replica.order", defArgs s_Replica_order, defBody s_Replica_order, defScope s_Replica_order, [], []⟩
def d_Replica_store : He5.DefA := ⟨fun K => a_Replica_store K, "store", "Replica.store", defArgs s_Replica_store, defBody s_Replica_store, defScope s_Replica_store, [], []⟩
def d_Replica_work : He5.DefA := ⟨fun K => a_Replica_work K, "work", "Replica.work", defArgs s_Replica_work, defBody s_Replica_work, defScope s_Replica_work, [], []⟩
def d_Replica_receive : He5.DefA := ⟨fun K => a_Replica_receive K, "receive", "Replica.receive", defArgs s_Replica_receive, defBody s_Replica_receive, defScope s_Replica_receive, [], []⟩
def d_Replica_lacking : He5.DefA := ⟨fun K => a_Replica_lacking K, "lacking", "Replica.lacking", defArgs s_Replica_lacking, defBody s_Replica_lacking, defScope s_Replica_lacking, [], []⟩
def d_Replica_sync : He5.DefA := ⟨fun K => a_Replica_sync K, "sync", "Replica.sync", defArgs s_Replica_sync, defBody s_Replica_sync, defScope s_Replica_sync, [], []⟩
def d_check_alike : He5.DefA := ⟨fun K => a_check_alike K, "check_alike", "check_alike", defArgs s_check_alike, defBody s_check_alike, defScope s_check_alike, [], []⟩
def d_order_of : He5.DefA := ⟨fun K => a_order_of K, "order_of", "order_of", defArgs s_order_of, defBody s_order_of, defScope s_order_of, [], []⟩
def d_common_length : He5.DefA := ⟨fun K => a_common_length K, "common_length", "common_length", defArgs s_common_length, defBody s_common_length, defScope s_common_length, [], []⟩
def d_work_of : He5.DefA := ⟨fun K => a_work_of K, "work_of", "work_of", defArgs s_work_of, defBody s_work_of, defScope s_work_of, [], []⟩
def d_hardest : He5.DefA := ⟨fun K => a_hardest K, "hardest", "hardest", defArgs s_hardest, defBody s_hardest, defScope s_hardest, [], []⟩
def d_works : He5.DefA := ⟨fun K => a_works K, "works", "works", defArgs s_works, defBody s_works, defScope s_works, [], []⟩
def d_arrivals_with_work : He5.DefA := ⟨fun K => a_arrivals_with_work K, "arrivals_with_work", "arrivals_with_work", defArgs s_arrivals_with_work, defBody s_arrivals_with_work, defScope s_arrivals_with_work, [], []⟩
def d__law_cell_at : He5.DefA := ⟨fun K => a__law_cell_at K, "_law_cell_at", "_law_cell_at", defArgs s__law_cell_at, defBody s__law_cell_at, defScope s__law_cell_at, [], []⟩
def d__law_draw : He5.DefA := ⟨fun K => a__law_draw K, "_law_draw", "_law_draw", defArgs s__law_draw, defBody s__law_draw, defScope s__law_draw, [], []⟩
def d__law_number : He5.DefA := ⟨fun K => a__law_number K, "_law_number", "_law_number", defArgs s__law_number, defBody s__law_number, defScope s__law_number, [], []⟩
def d__law_next : He5.DefA := ⟨fun K => a__law_next K, "_law_next", "_law_next", defArgs s__law_next, defBody s__law_next, defScope s__law_next, [], []⟩
def d__law_pick : He5.DefA := ⟨fun K => a__law_pick K, "_law_pick", "_law_pick", defArgs s__law_pick, defBody s__law_pick, defScope s__law_pick, [], []⟩
def d__law_change : He5.DefA := ⟨fun K => a__law_change K, "_law_change", "_law_change", defArgs s__law_change, defBody s__law_change, defScope s__law_change, [], []⟩
def d__law_made : He5.DefA := ⟨fun K => a__law_made K, "_law_made", "_law_made", defArgs s__law_made, defBody s__law_made, defScope s__law_made, [], []⟩
def d__law_after : He5.DefA := ⟨fun K => a__law_after K, "_law_after", "_law_after", defArgs s__law_after, defBody s__law_after, defScope s__law_after, [], []⟩
def d__law_drawn : He5.DefA := ⟨fun K => a__law_drawn K, "_law_drawn", "_law_drawn", defArgs s__law_drawn, defBody s__law_drawn, defScope s__law_drawn, [], []⟩
def d__law_world : He5.DefA := ⟨fun K => a__law_world K, "_law_world", "_law_world", defArgs s__law_world, defBody s__law_world, defScope s__law_world, [], []⟩
def d__law_sets : He5.DefA := ⟨fun K => a__law_sets K, "_law_sets", "_law_sets", defArgs s__law_sets, defBody s__law_sets, defScope s__law_sets, [], []⟩
def d__law_orders : He5.DefA := ⟨fun K => a__law_orders K, "_law_orders", "_law_orders", defArgs s__law_orders, defBody s__law_orders, defScope s__law_orders, [], []⟩
def d__law_end : He5.DefA := ⟨fun K => a__law_end K, "_law_end", "_law_end", defArgs s__law_end, defBody s__law_end, defScope s__law_end, [], []⟩
def d__law_split : He5.DefA := ⟨fun K => a__law_split K, "_law_split", "_law_split", defArgs s__law_split, defBody s__law_split, defScope s__law_split, [], []⟩
def d__law_policies : He5.DefA := ⟨fun K => a__law_policies K, "_law_policies", "_law_policies", defArgs s__law_policies, defBody s__law_policies, defScope s__law_policies, [], []⟩
def d__law_policy : He5.DefA := ⟨fun K => a__law_policy K, "_law_policy", "_law_policy", defArgs s__law_policy, defBody s__law_policy, defScope s__law_policy, [], []⟩
def d__law_line : He5.DefA := ⟨fun K => a__law_line K, "_law_line", "_law_line", defArgs s__law_line, defBody s__law_line, defScope s__law_line, [], []⟩
def d__law_work : He5.DefA := ⟨fun K => a__law_work K, "_law_work", "_law_work", defArgs s__law_work, defBody s__law_work, defScope s__law_work, [], []⟩
def d__law_replica_right : He5.DefA := ⟨fun K => a__law_replica_right K, "_law_replica_right", "_law_replica_right", defArgs s__law_replica_right, defBody s__law_replica_right, defScope s__law_replica_right, [], []⟩
def d__law_refused : He5.DefA := ⟨fun K => a__law_refused K, "_law_refused", "_law_refused", defArgs s__law_refused, defBody s__law_refused, defScope s__law_refused, [], []⟩
def d__law_drawn_names : He5.DefA := ⟨fun K => a__law_drawn_names K, "_law_drawn_names", "_law_drawn_names", defArgs s__law_drawn_names, defBody s__law_drawn_names, defScope s__law_drawn_names, [], []⟩
def d__law_two_right : He5.DefA := ⟨fun K => a__law_two_right K, "_law_two_right", "_law_two_right", defArgs s__law_two_right, defBody s__law_two_right, defScope s__law_two_right, [], []⟩
def d__law_one_right : He5.DefA := ⟨fun K => a__law_one_right K, "_law_one_right", "_law_one_right", defArgs s__law_one_right, defBody s__law_one_right, defScope s__law_one_right, [], []⟩
def d_law : He5.DefA := ⟨fun K => a_law K, "law", "law", defArgs s_law, defBody s_law, defScope s_law, [], []⟩
def fn : List He5.DefA := [d__wall, d_Put_init, d_Put_eq, d_Put_slots, d_Put_apply, d_Move_init, d_Move_eq, d_Move_slots, d_Move_apply, d_Add_init, d_Add_eq, d_Add_slots, d_Add_apply, d_AddSlot_init, d_AddSlot_eq, d_AddSlot_slots, d_AddSlot_apply, d_Raise_init, d_Raise_eq, d_Raise_slots, d_Raise_apply, d_Lower_init, d_Lower_eq, d_Lower_slots, d_Lower_apply, d_If_init, d_If_eq, d_If_slots, d_If_apply, d_is_number, d_is_store, d_check_slot, d_check_value, d_check_store, d_replaced, d_World_init, d_World_eq, d_World_slots, d_World_stores, d_World_names, d_World_change, d_World_end, d_World_sets, d_check_world, d_is_known, d_is_order, d_is_store_of, d_is_start, d_are_initial_stores, d_check_changes, d_is_name, d_uses_only, d_check_policy, d_is_pair, d_has_cycle, d_free_names, d_without, d_allowed_orders, d_Replica_init, d_Replica_at, d_Replica_received, d_Replica_order, d_Replica_store, d_Replica_work, d_Replica_receive, d_Replica_lacking, d_Replica_sync, d_check_alike, d_order_of, d_common_length, d_work_of, d_hardest, d_works, d_arrivals_with_work, d__law_cell_at, d__law_draw, d__law_number, d__law_next, d__law_pick, d__law_change, d__law_made, d__law_after, d__law_drawn, d__law_world, d__law_sets, d__law_orders, d__law_end, d__law_split, d__law_policies, d__law_policy, d__law_line, d__law_work, d__law_replica_right, d__law_refused, d__law_drawn_names, d__law_two_right, d__law_one_right, d_law]
def fa : List He.Fa := [.glo "_wall", .glo "Change", .glo "Put", .glo "Move", .glo "Add", .glo "AddSlot", .glo "Raise", .glo "Lower", .glo "If", .glo "is_number", .glo "is_store", .glo "check_slot", .glo "check_value", .glo "check_store", .glo "replaced", .glo "World", .glo "check_world", .glo "is_known", .glo "is_order", .glo "is_store_of", .glo "is_start", .glo "are_initial_stores", .glo "check_changes", .glo "is_name", .glo "uses_only", .glo "check_policy", .glo "is_pair", .glo "has_cycle", .glo "free_names", .glo "without", .glo "allowed_orders", .glo "Replica", .glo "check_alike", .glo "order_of", .glo "common_length", .glo "work_of", .glo "hardest", .glo "works", .glo "arrivals_with_work", .glo "_law_cell_at", .glo "_law_draw", .glo "_law_number", .glo "_law_next", .glo "_law_pick", .glo "_law_change", .glo "_law_made", .glo "_law_after", .glo "_law_drawn", .glo "_law_world", .glo "_law_sets", .glo "_law_orders", .glo "_law_end", .glo "_law_split", .glo "_law_policies", .glo "_law_policy", .glo "_law_line", .glo "_law_work", .glo "_law_replica_right", .glo "_law_refused", .glo "_law_drawn_names", .glo "_law_two_right", .glo "_law_one_right", .glo "law", .int "MOST_SLOTS" 3, .int "MOST_LETTERS" 8, .int "MOST_STORES" 8, .int "LEAST_CHANGES" 2, .int "MOST_CHANGES" 4, .str "LETTERS" "abcdefghijklmnopqrstuvwxyz", .free "isinstance", .free "int", .free "bool", .free "tuple", .free "list", .free "dict", .free "str", .free "set", .free "len", .free "all", .free "any", .free "sorted", .free "max", .free "min", .free "range", .free "abs", .free "sum", .free "enumerate", .cls "Put", .mkr "Put", .noat "Put" "slot", .noat "Put" "value", .meth "Put" "__eq__", .meth "Put" "apply", .cls "Move", .mkr "Move", .noat "Move" "slot", .noat "Move" "source", .meth "Move" "__eq__", .meth "Move" "apply", .cls "Add", .mkr "Add", .noat "Add" "slot", .noat "Add" "value", .meth "Add" "__eq__", .meth "Add" "apply", .cls "AddSlot", .mkr "AddSlot", .noat "AddSlot" "slot", .noat "AddSlot" "source", .meth "AddSlot" "__eq__", .meth "AddSlot" "apply", .cls "Raise", .mkr "Raise", .noat "Raise" "slot", .noat "Raise" "value", .meth "Raise" "__eq__", .meth "Raise" "apply", .cls "Lower", .mkr "Lower", .noat "Lower" "slot", .noat "Lower" "value", .meth "Lower" "__eq__", .meth "Lower" "apply", .cls "If", .mkr "If", .noat "If" "slot", .noat "If" "value", .noat "If" "inner", .meth "If" "__eq__", .meth "If" "apply", .cls "World", .mkr "World", .noat "World" "width", .noat "World" "starts", .noat "World" "made", .meth "World" "__eq__", .meth "World" "change", .meth "World" "end", .meth "World" "sets", .cls "Replica", .mkr "Replica", .noat "Replica" "world", .noat "Replica" "policy", .noat "Replica" "start", .noat "Replica" "arrived", .noat "Replica" "applied", .noat "Replica" "reached", .noat "Replica" "applications", .meth "Replica" "receive", .meth "Replica" "lacking", .meth "Replica" "sync", .glo "BadName", .exc "BadName", .exm "BadName" "BadName" true]
def propB (K : PySem.W.Frag) (C : Addr) (f : Str) : Bool := He.eqO (PySem.W.findIn K (.ref C) f) (some (some (.ref (He.ma K C f)))) && (He.eqO (PySem.W.specialIn K (.ref (He.ma K C f)) "__get__") (some (some (.builtin "property.__get__"))) &&
  (decide (PySem.W.takesIn K (.ref (He.ma K C f)) = some true) && (match PySem.W.recIn K (He.ma K C f) "property" with
    | some (.ref _ :: _) => true
    | _ => false)))
theorem prop_ok {K : PySem.W.Frag} {C : Addr} {f : Str} (h : propB K C f = true) : PropOf K C f (He.ma K C f) (He5.wf K C "property" f) := by
  obtain ⟨h1, h⟩ := He.ba h
  obtain ⟨h2, h⟩ := He.ba h
  obtain ⟨h3, h4⟩ := He.ba h
  refine ⟨He.eqO_ok h1, He.eqO_ok h2, of_decide_eq_true h3, ?_⟩
  unfold He5.wf
  split at h4
  · rename_i g r e
    exact ⟨r, by rw [e]⟩
  · cases h4
def modB (K : PySem.W.Frag) (C : Addr) : Bool := PySem.W.readsIn K C (.type "type") && (He.eqO (PySem.W.specialIn K (.ref C) "__getattribute__") (some (some (.builtin "type.__getattribute__"))) && (match PySem.W.findCls K (.ref C) (.type "type") "MODULUS" with
  | some (.val (.int i _)) => decide (i = 8)
  | _ => false))
theorem mod_ok {K : PySem.W.Frag} {C : Addr} (h : modB K C = true) : ∃ u, ClX.CRead K C (.type "type") ∧ ClX.CVal K C (.type "type") "MODULUS" (.int 8) u := by
  obtain ⟨h1, h⟩ := He.ba h
  obtain ⟨h2, h3⟩ := He.ba h
  split at h3
  · rename_i i t e
    obtain rfl := of_decide_eq_true h3
    exact ⟨_, ⟨h1, He.eqO_ok h2⟩, e, ⟨_, rfl⟩⟩
  · cases h3
def crB (K : PySem.W.Frag) (C : Addr) : Bool := PySem.W.readsIn K C (.type "type") && He.eqO (PySem.W.specialIn K (.ref C) "__getattribute__") (some (some (.builtin "type.__getattribute__")))
theorem cr_ok {K : PySem.W.Frag} {C : Addr} (h : crB K C = true) : ClX.CRead K C (.type "type") := by
  obtain ⟨h1, h2⟩ := He.ba h
  exact ⟨h1, He.eqO_ok h2⟩
def cmB (K : PySem.W.Frag) (C : Addr) (m : Str) : Bool := (match PySem.W.findCls K (.ref C) (.type "type") m with
  | some (.get (.builtin g) (.ref p) .none (.ref c)) => decide (g = "classmethod.__get__") && (decide (p = He.ma K C m) && decide (c = C))
  | _ => false) && ((match PySem.W.recIn K (He.ma K C m) "classmethod" with
    | some (.ref _ :: _) => true
    | _ => false) && PySem.W.fnIn K (He5.wf K C "classmethod" m))
theorem cm_ok {K : PySem.W.Frag} {C : Addr} {m : Str} (h : cmB K C m = true) : ClX.CMet K C (.type "type") m (He.ma K C m) (He5.wf K C "classmethod" m) := by
  obtain ⟨h1, h⟩ := He.ba h
  obtain ⟨h2, h3⟩ := He.ba h
  refine ⟨?_, ?_, h3⟩
  · split at h1
    · rename_i g p c e
      obtain ⟨a1, h1⟩ := He.ba h1
      obtain ⟨a2, a3⟩ := He.ba h1
      obtain rfl := of_decide_eq_true a1
      obtain rfl := of_decide_eq_true a2
      obtain rfl := of_decide_eq_true a3
      exact e
    · cases h1
  · unfold He5.wf
    split at h2
    · rename_i g r e
      exact ⟨r, by rw [e]⟩
    · cases h2
theorem own_ok {K : PySem.W.Frag} {C : Addr} (c : Cls K C) (h : (He.eqO (PySem.W.specialIn K (.builtin "object.__class__") "__get__") (some (some (.builtin "getset_descriptor.__get__"))) && decide (PySem.W.takesIn K (.builtin "object.__class__") = some true)) = true)
    (h2 : (He.eqO (PySem.W.findIn K (.ref C) "__class__") (some (some (.builtin "object.__class__"))) && decide (PySem.W.mroIn K C (.type "object") = some true)) = true) : Own K C := by
  obtain ⟨a1, a2⟩ := He.ba h
  obtain ⟨b1, b2⟩ := He.ba h2
  exact ⟨c, He.eqO_ok b1, He.eqO_ok a1, of_decide_eq_true a2, of_decide_eq_true b2⟩
def exs (K : PySem.W.Frag) : List Bool := [(He.eqO (PySem.W.specialIn K (.builtin "object.__class__") "__get__") (some (some (.builtin "getset_descriptor.__get__"))) && decide (PySem.W.takesIn K (.builtin "object.__class__") = some true)),
  (He.eqO (PySem.W.findIn K (.ref (c_Put K)) "__class__") (some (some (.builtin "object.__class__"))) && decide (PySem.W.mroIn K (c_Put K) (.type "object") = some true)),
  propB K (c_Put K) "slots",
  (He.eqO (PySem.W.findIn K (.ref (c_Move K)) "__class__") (some (some (.builtin "object.__class__"))) && decide (PySem.W.mroIn K (c_Move K) (.type "object") = some true)),
  propB K (c_Move K) "slots",
  (He.eqO (PySem.W.findIn K (.ref (c_Add K)) "__class__") (some (some (.builtin "object.__class__"))) && decide (PySem.W.mroIn K (c_Add K) (.type "object") = some true)),
  propB K (c_Add K) "slots",
  (He.eqO (PySem.W.findIn K (.ref (c_AddSlot K)) "__class__") (some (some (.builtin "object.__class__"))) && decide (PySem.W.mroIn K (c_AddSlot K) (.type "object") = some true)),
  propB K (c_AddSlot K) "slots",
  (He.eqO (PySem.W.findIn K (.ref (c_Raise K)) "__class__") (some (some (.builtin "object.__class__"))) && decide (PySem.W.mroIn K (c_Raise K) (.type "object") = some true)),
  propB K (c_Raise K) "slots",
  (He.eqO (PySem.W.findIn K (.ref (c_Lower K)) "__class__") (some (some (.builtin "object.__class__"))) && decide (PySem.W.mroIn K (c_Lower K) (.type "object") = some true)),
  propB K (c_Lower K) "slots",
  (He.eqO (PySem.W.findIn K (.ref (c_If K)) "__class__") (some (some (.builtin "object.__class__"))) && decide (PySem.W.mroIn K (c_If K) (.type "object") = some true)),
  propB K (c_If K) "slots",
  (He.eqO (PySem.W.findIn K (.ref (c_World K)) "__class__") (some (some (.builtin "object.__class__"))) && decide (PySem.W.mroIn K (c_World K) (.type "object") = some true)),
  propB K (c_World K) "slots",
  propB K (c_World K) "stores",
  propB K (c_World K) "names",
  (He.eqO (PySem.W.findIn K (.ref (c_Replica K)) "__class__") (some (some (.builtin "object.__class__"))) && decide (PySem.W.mroIn K (c_Replica K) (.type "object") = some true)),
  propB K (c_Replica K) "received",
  propB K (c_Replica K) "order",
  propB K (c_Replica K) "store",
  propB K (c_Replica K) "work",
  cmB K (c_Replica K) "at",
  crB K (c_Replica K),
  decide (PySem.W.kitOne K (.ref (c_Put K)) (.ref (c_Change K)) = some true),
  decide (PySem.W.kitOne K (.ref (c_Put K)) (.ref (c_If K)) = some false),
  decide (PySem.W.kitOne K (.ref (c_Move K)) (.ref (c_Change K)) = some true),
  decide (PySem.W.kitOne K (.ref (c_Move K)) (.ref (c_If K)) = some false),
  decide (PySem.W.kitOne K (.ref (c_Add K)) (.ref (c_Change K)) = some true),
  decide (PySem.W.kitOne K (.ref (c_Add K)) (.ref (c_If K)) = some false),
  decide (PySem.W.kitOne K (.ref (c_AddSlot K)) (.ref (c_Change K)) = some true),
  decide (PySem.W.kitOne K (.ref (c_AddSlot K)) (.ref (c_If K)) = some false),
  decide (PySem.W.kitOne K (.ref (c_Raise K)) (.ref (c_Change K)) = some true),
  decide (PySem.W.kitOne K (.ref (c_Raise K)) (.ref (c_If K)) = some false),
  decide (PySem.W.kitOne K (.ref (c_Lower K)) (.ref (c_Change K)) = some true),
  decide (PySem.W.kitOne K (.ref (c_Lower K)) (.ref (c_If K)) = some false),
  decide (PySem.W.kitOne K (.ref (c_If K)) (.ref (c_Change K)) = some true),
  decide (PySem.W.kitOne K (.ref (c_If K)) (.ref (c_If K)) = some true),
  He.eqO (PySem.W.findIn K (.ref (c_Put K)) "__ne__") (some (some (.builtin "object.__ne__"))),
  He.eqO (PySem.W.findIn K (.ref (c_Move K)) "__ne__") (some (some (.builtin "object.__ne__"))),
  He.eqO (PySem.W.findIn K (.ref (c_Add K)) "__ne__") (some (some (.builtin "object.__ne__"))),
  He.eqO (PySem.W.findIn K (.ref (c_AddSlot K)) "__ne__") (some (some (.builtin "object.__ne__"))),
  He.eqO (PySem.W.findIn K (.ref (c_Raise K)) "__ne__") (some (some (.builtin "object.__ne__"))),
  He.eqO (PySem.W.findIn K (.ref (c_Lower K)) "__ne__") (some (some (.builtin "object.__ne__"))),
  He.eqO (PySem.W.findIn K (.ref (c_If K)) "__ne__") (some (some (.builtin "object.__ne__"))),
  He.eqO (PySem.W.findIn K (.ref (c_World K)) "__ne__") (some (some (.builtin "object.__ne__"))),
  decide (PySem.W.kitOne K (.ref (c_Put K)) (.ref (c_Move K)) = some false),
  decide (PySem.W.subIn K (.ref (c_Put K)) (.ref (c_Move K)) = some false),
  decide (PySem.W.kitOne K (.ref (c_Put K)) (.ref (c_Add K)) = some false),
  decide (PySem.W.subIn K (.ref (c_Put K)) (.ref (c_Add K)) = some false),
  decide (PySem.W.kitOne K (.ref (c_Put K)) (.ref (c_AddSlot K)) = some false),
  decide (PySem.W.subIn K (.ref (c_Put K)) (.ref (c_AddSlot K)) = some false),
  decide (PySem.W.kitOne K (.ref (c_Put K)) (.ref (c_Raise K)) = some false),
  decide (PySem.W.subIn K (.ref (c_Put K)) (.ref (c_Raise K)) = some false),
  decide (PySem.W.kitOne K (.ref (c_Put K)) (.ref (c_Lower K)) = some false),
  decide (PySem.W.subIn K (.ref (c_Put K)) (.ref (c_Lower K)) = some false),
  decide (PySem.W.kitOne K (.ref (c_Put K)) (.ref (c_If K)) = some false),
  decide (PySem.W.subIn K (.ref (c_Put K)) (.ref (c_If K)) = some false),
  decide (PySem.W.kitOne K (.ref (c_Move K)) (.ref (c_Put K)) = some false),
  decide (PySem.W.subIn K (.ref (c_Move K)) (.ref (c_Put K)) = some false),
  decide (PySem.W.kitOne K (.ref (c_Move K)) (.ref (c_Add K)) = some false),
  decide (PySem.W.subIn K (.ref (c_Move K)) (.ref (c_Add K)) = some false),
  decide (PySem.W.kitOne K (.ref (c_Move K)) (.ref (c_AddSlot K)) = some false),
  decide (PySem.W.subIn K (.ref (c_Move K)) (.ref (c_AddSlot K)) = some false),
  decide (PySem.W.kitOne K (.ref (c_Move K)) (.ref (c_Raise K)) = some false),
  decide (PySem.W.subIn K (.ref (c_Move K)) (.ref (c_Raise K)) = some false),
  decide (PySem.W.kitOne K (.ref (c_Move K)) (.ref (c_Lower K)) = some false),
  decide (PySem.W.subIn K (.ref (c_Move K)) (.ref (c_Lower K)) = some false),
  decide (PySem.W.kitOne K (.ref (c_Move K)) (.ref (c_If K)) = some false),
  decide (PySem.W.subIn K (.ref (c_Move K)) (.ref (c_If K)) = some false),
  decide (PySem.W.kitOne K (.ref (c_Add K)) (.ref (c_Put K)) = some false),
  decide (PySem.W.subIn K (.ref (c_Add K)) (.ref (c_Put K)) = some false),
  decide (PySem.W.kitOne K (.ref (c_Add K)) (.ref (c_Move K)) = some false),
  decide (PySem.W.subIn K (.ref (c_Add K)) (.ref (c_Move K)) = some false),
  decide (PySem.W.kitOne K (.ref (c_Add K)) (.ref (c_AddSlot K)) = some false),
  decide (PySem.W.subIn K (.ref (c_Add K)) (.ref (c_AddSlot K)) = some false),
  decide (PySem.W.kitOne K (.ref (c_Add K)) (.ref (c_Raise K)) = some false),
  decide (PySem.W.subIn K (.ref (c_Add K)) (.ref (c_Raise K)) = some false),
  decide (PySem.W.kitOne K (.ref (c_Add K)) (.ref (c_Lower K)) = some false),
  decide (PySem.W.subIn K (.ref (c_Add K)) (.ref (c_Lower K)) = some false),
  decide (PySem.W.kitOne K (.ref (c_Add K)) (.ref (c_If K)) = some false),
  decide (PySem.W.subIn K (.ref (c_Add K)) (.ref (c_If K)) = some false),
  decide (PySem.W.kitOne K (.ref (c_AddSlot K)) (.ref (c_Put K)) = some false),
  decide (PySem.W.subIn K (.ref (c_AddSlot K)) (.ref (c_Put K)) = some false),
  decide (PySem.W.kitOne K (.ref (c_AddSlot K)) (.ref (c_Move K)) = some false),
  decide (PySem.W.subIn K (.ref (c_AddSlot K)) (.ref (c_Move K)) = some false),
  decide (PySem.W.kitOne K (.ref (c_AddSlot K)) (.ref (c_Add K)) = some false),
  decide (PySem.W.subIn K (.ref (c_AddSlot K)) (.ref (c_Add K)) = some false),
  decide (PySem.W.kitOne K (.ref (c_AddSlot K)) (.ref (c_Raise K)) = some false),
  decide (PySem.W.subIn K (.ref (c_AddSlot K)) (.ref (c_Raise K)) = some false),
  decide (PySem.W.kitOne K (.ref (c_AddSlot K)) (.ref (c_Lower K)) = some false),
  decide (PySem.W.subIn K (.ref (c_AddSlot K)) (.ref (c_Lower K)) = some false),
  decide (PySem.W.kitOne K (.ref (c_AddSlot K)) (.ref (c_If K)) = some false),
  decide (PySem.W.subIn K (.ref (c_AddSlot K)) (.ref (c_If K)) = some false),
  decide (PySem.W.kitOne K (.ref (c_Raise K)) (.ref (c_Put K)) = some false),
  decide (PySem.W.subIn K (.ref (c_Raise K)) (.ref (c_Put K)) = some false),
  decide (PySem.W.kitOne K (.ref (c_Raise K)) (.ref (c_Move K)) = some false),
  decide (PySem.W.subIn K (.ref (c_Raise K)) (.ref (c_Move K)) = some false),
  decide (PySem.W.kitOne K (.ref (c_Raise K)) (.ref (c_Add K)) = some false),
  decide (PySem.W.subIn K (.ref (c_Raise K)) (.ref (c_Add K)) = some false),
  decide (PySem.W.kitOne K (.ref (c_Raise K)) (.ref (c_AddSlot K)) = some false),
  decide (PySem.W.subIn K (.ref (c_Raise K)) (.ref (c_AddSlot K)) = some false),
  decide (PySem.W.kitOne K (.ref (c_Raise K)) (.ref (c_Lower K)) = some false),
  decide (PySem.W.subIn K (.ref (c_Raise K)) (.ref (c_Lower K)) = some false),
  decide (PySem.W.kitOne K (.ref (c_Raise K)) (.ref (c_If K)) = some false),
  decide (PySem.W.subIn K (.ref (c_Raise K)) (.ref (c_If K)) = some false),
  decide (PySem.W.kitOne K (.ref (c_Lower K)) (.ref (c_Put K)) = some false),
  decide (PySem.W.subIn K (.ref (c_Lower K)) (.ref (c_Put K)) = some false),
  decide (PySem.W.kitOne K (.ref (c_Lower K)) (.ref (c_Move K)) = some false),
  decide (PySem.W.subIn K (.ref (c_Lower K)) (.ref (c_Move K)) = some false),
  decide (PySem.W.kitOne K (.ref (c_Lower K)) (.ref (c_Add K)) = some false),
  decide (PySem.W.subIn K (.ref (c_Lower K)) (.ref (c_Add K)) = some false),
  decide (PySem.W.kitOne K (.ref (c_Lower K)) (.ref (c_AddSlot K)) = some false),
  decide (PySem.W.subIn K (.ref (c_Lower K)) (.ref (c_AddSlot K)) = some false),
  decide (PySem.W.kitOne K (.ref (c_Lower K)) (.ref (c_Raise K)) = some false),
  decide (PySem.W.subIn K (.ref (c_Lower K)) (.ref (c_Raise K)) = some false),
  decide (PySem.W.kitOne K (.ref (c_Lower K)) (.ref (c_If K)) = some false),
  decide (PySem.W.subIn K (.ref (c_Lower K)) (.ref (c_If K)) = some false),
  decide (PySem.W.kitOne K (.ref (c_If K)) (.ref (c_Put K)) = some false),
  decide (PySem.W.subIn K (.ref (c_If K)) (.ref (c_Put K)) = some false),
  decide (PySem.W.kitOne K (.ref (c_If K)) (.ref (c_Move K)) = some false),
  decide (PySem.W.subIn K (.ref (c_If K)) (.ref (c_Move K)) = some false),
  decide (PySem.W.kitOne K (.ref (c_If K)) (.ref (c_Add K)) = some false),
  decide (PySem.W.subIn K (.ref (c_If K)) (.ref (c_Add K)) = some false),
  decide (PySem.W.kitOne K (.ref (c_If K)) (.ref (c_AddSlot K)) = some false),
  decide (PySem.W.subIn K (.ref (c_If K)) (.ref (c_AddSlot K)) = some false),
  decide (PySem.W.kitOne K (.ref (c_If K)) (.ref (c_Raise K)) = some false),
  decide (PySem.W.subIn K (.ref (c_If K)) (.ref (c_Raise K)) = some false),
  decide (PySem.W.kitOne K (.ref (c_If K)) (.ref (c_Lower K)) = some false),
  decide (PySem.W.subIn K (.ref (c_If K)) (.ref (c_Lower K)) = some false),
  modB K (c_Change K),
  decide ((He.cT K ("_law_sets", none)).2 ≠ (He.cT K ("hardest", none)).2)]
abbrev tf : List He.Defn := [("_law_sets", none), ("hardest", none)]
/-! ### the hook: facts, defs, more of the classes, the table of one def -/
structure SaysO (h : Heap) (K : PySem.W.Frag) : Prop where
  a : He5.SaysA fa fn K
  more : (exs K).all id = true
  hd : ∀ p ∈ tf, PySem.W.codeHdIn K (He.cT K p).1 (He.cT K p).2 = true
  out : ∀ p ∈ tf, K.lookup (He.cT K p).2 = none
  empty : ∀ p ∈ tf, h.get? (He.cT K p).2 = some { cls := .none, data := .fields #[] }
def addrs : List Addr := [3, 6, 4, 21, 31, 44, 64, 76, 88, 100, 112, 124, 158, 201, 242, 293, 334, 375, 416, 457, 466, 471, 478, 485, 490, 497, 564, 575, 582, 587, 594, 601, 606, 613, 618, 623, 630, 637, 642, 647, 652, 657, 733, 744, 751, 758, 765, 772, 779, 784, 791, 798, 805, 812, 819, 826, 833, 840, 845, 850, 855, 860, 867, 874, 879, 884, 889, 896, 903, 910, 915, 920, 925, 932, 0, 20, 30, 43, 63, 75, 87, 99, 111, 123, 157, 200, 241, 292, 333, 374, 415, 456, 465, 470, 477, 484, 489, 496, 563, 574, 581, 586, 593, 600, 605, 612, 617, 622, 629, 636, 641, 646, 651, 656, 732, 743, 750, 757, 764, 771, 778, 783, 790, 797, 804, 811, 818, 825, 832, 839, 844, 849, 854, 859, 866, 873, 878, 883, 888, 895, 902, 909, 914, 919, 924, 931, 15, 17, 18, 19, 29, 32, 42, 61, 62, 74, 86, 98, 110, 122, 140, 148, 155, 156, 159, 160, 176, 183, 191, 198, 199, 217, 224, 232, 239, 240, 258, 267, 275, 283, 290, 291, 309, 316, 324, 331, 332, 350, 357, 365, 372, 373, 391, 398, 406, 413, 414, 432, 439, 447, 454, 455, 460, 462, 463, 464, 467, 469, 472, 474, 475, 476, 479, 481, 482, 483, 486, 488, 491, 493, 494, 495, 509, 516, 524, 532, 540, 547, 554, 561, 562, 565, 566, 569, 571, 572, 573, 576, 578, 579, 580, 583, 585, 588, 590, 591, 592, 595, 597, 598, 599, 602, 604, 607, 609, 610, 611, 614, 616, 619, 621, 624, 626, 627, 628, 631, 633, 634, 635, 638, 640, 643, 645, 648, 650, 653, 655, 669, 678, 687, 695, 703, 711, 718, 723, 730, 731, 734, 735, 738, 740, 741, 742, 745, 747, 748, 749, 752, 754, 755, 756, 759, 761, 762, 763, 766, 768, 769, 770, 773, 775, 776, 777, 780, 782, 785, 787, 788, 789, 792, 794, 795, 796, 799, 801, 802, 803, 806, 808, 809, 810, 813, 815, 816, 817, 820, 822, 823, 824, 827, 829, 830, 831, 834, 836, 837, 838, 841, 843, 846, 848, 851, 853, 856, 858, 861, 863, 864, 865, 868, 870, 871, 872, 875, 877, 880, 882, 885, 887, 890, 892, 893, 894, 897, 899, 900, 901, 904, 906, 907, 908, 911, 913, 916, 918, 921, 923, 926, 928, 929, 930, 60, 54, 139, 147, 154, 175, 182, 190, 197, 216, 223, 231, 238, 257, 265, 266, 274, 282, 289, 308, 315, 323, 330, 349, 356, 364, 371, 390, 397, 405, 412, 431, 438, 446, 453, 508, 515, 523, 531, 539, 546, 553, 560, 668, 676, 677, 686, 694, 702, 710, 717, 722, 729, 55, 57, 58, 59, 134, 136, 137, 138, 146, 149, 151, 152, 153, 170, 172, 173, 174, 177, 179, 180, 181, 189, 192, 194, 195, 196, 211, 213, 214, 215, 218, 220, 221, 222, 230, 233, 235, 236, 237, 252, 254, 255, 256, 264, 268, 269, 271, 272, 273, 281, 284, 286, 287, 288, 303, 305, 306, 307, 310, 312, 313, 314, 322, 325, 327, 328, 329, 344, 346, 347, 348, 351, 353, 354, 355, 363, 366, 368, 369, 370, 385, 387, 388, 389, 392, 394, 395, 396, 404, 407, 409, 410, 411, 426, 428, 429, 430, 433, 435, 436, 437, 445, 448, 450, 451, 452, 505, 507, 510, 512, 513, 514, 522, 530, 538, 541, 543, 544, 545, 548, 550, 551, 552, 555, 557, 558, 559, 665, 667, 675, 679, 685, 693, 701, 709, 712, 714, 715, 716, 719, 721, 724, 726, 727, 728, 2]
def frO (g : Addr → Option Obj) : PySem.W.Frag := He.frT g addrs
def obsO (g : Addr → Option Obj) : He.AlD × Bool := (He5.obsA fa fn (frO g), (exs (frO g)).all id && He.tabsB g tf (frO g))
theorem saysO_of {h : Heap} (e : obsO h.get? = (He5.valA fn, true)) : SaysO h (frO h.get?) := by
  have e1 : He5.obsA fa fn (frO h.get?) = He5.valA fn := congrArg (fun z : He.AlD × Bool => z.1) e
  have e2 : ((exs (frO h.get?)).all id && He.tabsB h.get? tf (frO h.get?)) = true := congrArg (fun z : He.AlD × Bool => z.2) e
  obtain ⟨h1, h2⟩ := He.ba e2
  have key : ∀ p ∈ tf, PySem.W.codeHdIn (frO h.get?) (He.cT (frO h.get?) p).1 (He.cT (frO h.get?) p).2 = true ∧ ∃ o, h.get? (He.cT (frO h.get?) p).2 = some o ∧ He.emptyTab o = true := fun p hp => by
    obtain ⟨h3, h4⟩ := He.ba (List.all_eq_true.mp h2 p hp)
    refine ⟨h3, ?_⟩
    cases q : h.get? (He.cT (frO h.get?) p).2 with
    | none => rw [q] at h4; cases h4
    | some o => rw [q] at h4; exact ⟨o, rfl, h4⟩
  refine ⟨e1, h1, fun p hp => (key p hp).1, fun p hp => ?_, fun p hp => ?_⟩
  · obtain ⟨_, o, q, z⟩ := key p hp
    exact He.frT_none q z
  · obtain ⟨_, o, q, z⟩ := key p hp
    rw [q, He.emptyTab_eq z]
def hookO : PySem.W.Hook where
  α := He.AlD × Bool
  obs := fun s => obsO s.heap.get?
  val := fun _ => (He5.valA fn, true)
  says := fun _ h => ∃ K : PySem.W.Frag, K.In h ∧ SaysO h K
  of := fun _ _ e => ⟨_, He.frT_in, saysO_of e⟩
  keeps := fun _ _ _ ⟨K, hK, c⟩ k => ⟨K, PySem.W.Frag.In.keeps hK k, ⟨c.a, c.more, c.hd, c.out, fun p hp => k _ _ (c.empty p hp)⟩⟩
theorem SaysO.ex {h : Heap} {K : PySem.W.Frag} (c : SaysO h K) (i : Nat) {b : Bool} (hb : (exs K)[i]? = some b := by rfl) : b = true := List.all_eq_true.mp c.more b (List.mem_of_getElem? hb)
theorem txt_of {h : Heap} {K : PySem.W.Frag} {mg : Str → Option Value} (X : K.In h) (G : h.Ns mainGlobals mg) (s : SaysO h K) : Txt K mg := by
  have c := s.a
  have e := fun (i : Nat) {b : Bool} (hb : (exs K)[i]? = some b) => s.ex i hb
  exact {
    f__wall := by obtain ⟨fd, F⟩ := c.def_ 0; exact ⟨fd, He5.fun_of F⟩
    f_Put_init := by obtain ⟨fd, F⟩ := c.def_ 1; exact ⟨fd, He5.fun_of F⟩
    f_Put_eq := by obtain ⟨fd, F⟩ := c.def_ 2; exact ⟨fd, He5.fun_of F⟩
    f_Put_slots := by obtain ⟨fd, F⟩ := c.def_ 3; exact ⟨fd, He5.fun_of F⟩
    f_Put_apply := by obtain ⟨fd, F⟩ := c.def_ 4; exact ⟨fd, He5.fun_of F⟩
    f_Move_init := by obtain ⟨fd, F⟩ := c.def_ 5; exact ⟨fd, He5.fun_of F⟩
    f_Move_eq := by obtain ⟨fd, F⟩ := c.def_ 6; exact ⟨fd, He5.fun_of F⟩
    f_Move_slots := by obtain ⟨fd, F⟩ := c.def_ 7; exact ⟨fd, He5.fun_of F⟩
    f_Move_apply := by obtain ⟨fd, F⟩ := c.def_ 8; exact ⟨fd, He5.fun_of F⟩
    f_Add_init := by obtain ⟨fd, F⟩ := c.def_ 9; exact ⟨fd, He5.fun_of F⟩
    f_Add_eq := by obtain ⟨fd, F⟩ := c.def_ 10; exact ⟨fd, He5.fun_of F⟩
    f_Add_slots := by obtain ⟨fd, F⟩ := c.def_ 11; exact ⟨fd, He5.fun_of F⟩
    f_Add_apply := by obtain ⟨fd, F⟩ := c.def_ 12; exact ⟨fd, He5.fun_of F⟩
    f_AddSlot_init := by obtain ⟨fd, F⟩ := c.def_ 13; exact ⟨fd, He5.fun_of F⟩
    f_AddSlot_eq := by obtain ⟨fd, F⟩ := c.def_ 14; exact ⟨fd, He5.fun_of F⟩
    f_AddSlot_slots := by obtain ⟨fd, F⟩ := c.def_ 15; exact ⟨fd, He5.fun_of F⟩
    f_AddSlot_apply := by obtain ⟨fd, F⟩ := c.def_ 16; exact ⟨fd, He5.fun_of F⟩
    f_Raise_init := by obtain ⟨fd, F⟩ := c.def_ 17; exact ⟨fd, He5.fun_of F⟩
    f_Raise_eq := by obtain ⟨fd, F⟩ := c.def_ 18; exact ⟨fd, He5.fun_of F⟩
    f_Raise_slots := by obtain ⟨fd, F⟩ := c.def_ 19; exact ⟨fd, He5.fun_of F⟩
    f_Raise_apply := by obtain ⟨fd, F⟩ := c.def_ 20; exact ⟨fd, He5.fun_of F⟩
    f_Lower_init := by obtain ⟨fd, F⟩ := c.def_ 21; exact ⟨fd, He5.fun_of F⟩
    f_Lower_eq := by obtain ⟨fd, F⟩ := c.def_ 22; exact ⟨fd, He5.fun_of F⟩
    f_Lower_slots := by obtain ⟨fd, F⟩ := c.def_ 23; exact ⟨fd, He5.fun_of F⟩
    f_Lower_apply := by obtain ⟨fd, F⟩ := c.def_ 24; exact ⟨fd, He5.fun_of F⟩
    f_If_init := by obtain ⟨fd, F⟩ := c.def_ 25; exact ⟨fd, He5.fun_of F⟩
    f_If_eq := by obtain ⟨fd, F⟩ := c.def_ 26; exact ⟨fd, He5.fun_of F⟩
    f_If_slots := by obtain ⟨fd, F⟩ := c.def_ 27; exact ⟨fd, He5.fun_of F⟩
    f_If_apply := by obtain ⟨fd, F⟩ := c.def_ 28; exact ⟨fd, He5.fun_of F⟩
    f_is_number := by obtain ⟨fd, F⟩ := c.def_ 29; exact ⟨fd, He5.fun_of F⟩
    f_is_store := by obtain ⟨fd, F⟩ := c.def_ 30; exact ⟨fd, He5.fun_of F⟩
    f_check_slot := by obtain ⟨fd, F⟩ := c.def_ 31; exact ⟨fd, He5.fun_of F⟩
    f_check_value := by obtain ⟨fd, F⟩ := c.def_ 32; exact ⟨fd, He5.fun_of F⟩
    f_check_store := by obtain ⟨fd, F⟩ := c.def_ 33; exact ⟨fd, He5.fun_of F⟩
    f_replaced := by obtain ⟨fd, F⟩ := c.def_ 34; exact ⟨fd, He5.fun_of F⟩
    f_World_init := by obtain ⟨fd, F⟩ := c.def_ 35; exact ⟨fd, He5.fun_of F⟩
    f_World_eq := by obtain ⟨fd, F⟩ := c.def_ 36; exact ⟨fd, He5.fun_of F⟩
    f_World_slots := by obtain ⟨fd, F⟩ := c.def_ 37; exact ⟨fd, He5.fun_of F⟩
    f_World_stores := by obtain ⟨fd, F⟩ := c.def_ 38; exact ⟨fd, He5.fun_of F⟩
    f_World_names := by obtain ⟨fd, F⟩ := c.def_ 39; exact ⟨fd, He5.fun_of F⟩
    f_World_change := by obtain ⟨fd, F⟩ := c.def_ 40; exact ⟨fd, He5.fun_of F⟩
    f_World_end := by obtain ⟨fd, F⟩ := c.def_ 41; exact ⟨fd, He5.fun_of F⟩
    f_World_sets := by obtain ⟨fd, F⟩ := c.def_ 42; exact ⟨fd, He5.fun_of F⟩
    f_check_world := by obtain ⟨fd, F⟩ := c.def_ 43; exact ⟨fd, He5.fun_of F⟩
    f_is_known := by obtain ⟨fd, F⟩ := c.def_ 44; exact ⟨fd, He5.fun_of F⟩
    f_is_order := by obtain ⟨fd, F⟩ := c.def_ 45; exact ⟨fd, He5.fun_of F⟩
    f_is_store_of := by obtain ⟨fd, F⟩ := c.def_ 46; exact ⟨fd, He5.fun_of F⟩
    f_is_start := by obtain ⟨fd, F⟩ := c.def_ 47; exact ⟨fd, He5.fun_of F⟩
    f_are_initial_stores := by obtain ⟨fd, F⟩ := c.def_ 48; exact ⟨fd, He5.fun_of F⟩
    f_check_changes := by obtain ⟨fd, F⟩ := c.def_ 49; exact ⟨fd, He5.fun_of F⟩
    f_is_name := by obtain ⟨fd, F⟩ := c.def_ 50; exact ⟨fd, He5.fun_of F⟩
    f_uses_only := by obtain ⟨fd, F⟩ := c.def_ 51; exact ⟨fd, He5.fun_of F⟩
    f_check_policy := by obtain ⟨fd, F⟩ := c.def_ 52; exact ⟨fd, He5.fun_of F⟩
    f_is_pair := by obtain ⟨fd, F⟩ := c.def_ 53; exact ⟨fd, He5.fun_of F⟩
    f_has_cycle := by obtain ⟨fd, F⟩ := c.def_ 54; exact ⟨fd, He5.fun_of F⟩
    f_free_names := by obtain ⟨fd, F⟩ := c.def_ 55; exact ⟨fd, He5.fun_of F⟩
    f_without := by obtain ⟨fd, F⟩ := c.def_ 56; exact ⟨fd, He5.fun_of F⟩
    f_allowed_orders := by obtain ⟨fd, F⟩ := c.def_ 57; exact ⟨fd, He5.fun_of F⟩
    f_Replica_init := by obtain ⟨fd, F⟩ := c.def_ 58; exact ⟨fd, He5.fun_of F⟩
    f_Replica_at := by obtain ⟨fd, F⟩ := c.def_ 59; exact ⟨fd, He5.fun_of F⟩
    f_Replica_received := by obtain ⟨fd, F⟩ := c.def_ 60; exact ⟨fd, He5.fun_of F⟩
    f_Replica_order := by obtain ⟨fd, F⟩ := c.def_ 61; exact ⟨fd, He5.fun_of F⟩
    f_Replica_store := by obtain ⟨fd, F⟩ := c.def_ 62; exact ⟨fd, He5.fun_of F⟩
    f_Replica_work := by obtain ⟨fd, F⟩ := c.def_ 63; exact ⟨fd, He5.fun_of F⟩
    f_Replica_receive := by obtain ⟨fd, F⟩ := c.def_ 64; exact ⟨fd, He5.fun_of F⟩
    f_Replica_lacking := by obtain ⟨fd, F⟩ := c.def_ 65; exact ⟨fd, He5.fun_of F⟩
    f_Replica_sync := by obtain ⟨fd, F⟩ := c.def_ 66; exact ⟨fd, He5.fun_of F⟩
    f_check_alike := by obtain ⟨fd, F⟩ := c.def_ 67; exact ⟨fd, He5.fun_of F⟩
    f_order_of := by obtain ⟨fd, F⟩ := c.def_ 68; exact ⟨fd, He5.fun_of F⟩
    f_common_length := by obtain ⟨fd, F⟩ := c.def_ 69; exact ⟨fd, He5.fun_of F⟩
    f_work_of := by obtain ⟨fd, F⟩ := c.def_ 70; exact ⟨fd, He5.fun_of F⟩
    f_hardest := by obtain ⟨fd, F⟩ := c.def_ 71; exact ⟨fd, He5.fun_of F⟩
    f_works := by obtain ⟨fd, F⟩ := c.def_ 72; exact ⟨fd, He5.fun_of F⟩
    f_arrivals_with_work := by obtain ⟨fd, F⟩ := c.def_ 73; exact ⟨fd, He5.fun_of F⟩
    f__law_cell_at := by obtain ⟨fd, F⟩ := c.def_ 74; exact ⟨fd, He5.fun_of F⟩
    f__law_draw := by obtain ⟨fd, F⟩ := c.def_ 75; exact ⟨fd, He5.fun_of F⟩
    f__law_number := by obtain ⟨fd, F⟩ := c.def_ 76; exact ⟨fd, He5.fun_of F⟩
    f__law_next := by obtain ⟨fd, F⟩ := c.def_ 77; exact ⟨fd, He5.fun_of F⟩
    f__law_pick := by obtain ⟨fd, F⟩ := c.def_ 78; exact ⟨fd, He5.fun_of F⟩
    f__law_change := by obtain ⟨fd, F⟩ := c.def_ 79; exact ⟨fd, He5.fun_of F⟩
    f__law_made := by obtain ⟨fd, F⟩ := c.def_ 80; exact ⟨fd, He5.fun_of F⟩
    f__law_after := by obtain ⟨fd, F⟩ := c.def_ 81; exact ⟨fd, He5.fun_of F⟩
    f__law_drawn := by obtain ⟨fd, F⟩ := c.def_ 82; exact ⟨fd, He5.fun_of F⟩
    f__law_world := by obtain ⟨fd, F⟩ := c.def_ 83; exact ⟨fd, He5.fun_of F⟩
    f__law_sets := by obtain ⟨fd, F⟩ := c.def_ 84; exact ⟨fd, He5.fun_of F⟩
    f__law_orders := by obtain ⟨fd, F⟩ := c.def_ 85; exact ⟨fd, He5.fun_of F⟩
    f__law_end := by obtain ⟨fd, F⟩ := c.def_ 86; exact ⟨fd, He5.fun_of F⟩
    f__law_split := by obtain ⟨fd, F⟩ := c.def_ 87; exact ⟨fd, He5.fun_of F⟩
    f__law_policies := by obtain ⟨fd, F⟩ := c.def_ 88; exact ⟨fd, He5.fun_of F⟩
    f__law_policy := by obtain ⟨fd, F⟩ := c.def_ 89; exact ⟨fd, He5.fun_of F⟩
    f__law_line := by obtain ⟨fd, F⟩ := c.def_ 90; exact ⟨fd, He5.fun_of F⟩
    f__law_work := by obtain ⟨fd, F⟩ := c.def_ 91; exact ⟨fd, He5.fun_of F⟩
    f__law_replica_right := by obtain ⟨fd, F⟩ := c.def_ 92; exact ⟨fd, He5.fun_of F⟩
    f__law_refused := by obtain ⟨fd, F⟩ := c.def_ 93; exact ⟨fd, He5.fun_of F⟩
    f__law_drawn_names := by obtain ⟨fd, F⟩ := c.def_ 94; exact ⟨fd, He5.fun_of F⟩
    f__law_two_right := by obtain ⟨fd, F⟩ := c.def_ 95; exact ⟨fd, He5.fun_of F⟩
    f__law_one_right := by obtain ⟨fd, F⟩ := c.def_ 96; exact ⟨fd, He5.fun_of F⟩
    f_law := by obtain ⟨fd, F⟩ := c.def_ 97; exact ⟨fd, He5.fun_of F⟩
    g__wall := He.glo_ok X G (c.fact 0)
    g_Change := He.glo_ok X G (c.fact 1)
    g_Put := He.glo_ok X G (c.fact 2)
    g_Move := He.glo_ok X G (c.fact 3)
    g_Add := He.glo_ok X G (c.fact 4)
    g_AddSlot := He.glo_ok X G (c.fact 5)
    g_Raise := He.glo_ok X G (c.fact 6)
    g_Lower := He.glo_ok X G (c.fact 7)
    g_If := He.glo_ok X G (c.fact 8)
    g_is_number := He.glo_ok X G (c.fact 9)
    g_is_store := He.glo_ok X G (c.fact 10)
    g_check_slot := He.glo_ok X G (c.fact 11)
    g_check_value := He.glo_ok X G (c.fact 12)
    g_check_store := He.glo_ok X G (c.fact 13)
    g_replaced := He.glo_ok X G (c.fact 14)
    g_World := He.glo_ok X G (c.fact 15)
    g_check_world := He.glo_ok X G (c.fact 16)
    g_is_known := He.glo_ok X G (c.fact 17)
    g_is_order := He.glo_ok X G (c.fact 18)
    g_is_store_of := He.glo_ok X G (c.fact 19)
    g_is_start := He.glo_ok X G (c.fact 20)
    g_are_initial_stores := He.glo_ok X G (c.fact 21)
    g_check_changes := He.glo_ok X G (c.fact 22)
    g_is_name := He.glo_ok X G (c.fact 23)
    g_uses_only := He.glo_ok X G (c.fact 24)
    g_check_policy := He.glo_ok X G (c.fact 25)
    g_is_pair := He.glo_ok X G (c.fact 26)
    g_has_cycle := He.glo_ok X G (c.fact 27)
    g_free_names := He.glo_ok X G (c.fact 28)
    g_without := He.glo_ok X G (c.fact 29)
    g_allowed_orders := He.glo_ok X G (c.fact 30)
    g_Replica := He.glo_ok X G (c.fact 31)
    g_check_alike := He.glo_ok X G (c.fact 32)
    g_order_of := He.glo_ok X G (c.fact 33)
    g_common_length := He.glo_ok X G (c.fact 34)
    g_work_of := He.glo_ok X G (c.fact 35)
    g_hardest := He.glo_ok X G (c.fact 36)
    g_works := He.glo_ok X G (c.fact 37)
    g_arrivals_with_work := He.glo_ok X G (c.fact 38)
    g__law_cell_at := He.glo_ok X G (c.fact 39)
    g__law_draw := He.glo_ok X G (c.fact 40)
    g__law_number := He.glo_ok X G (c.fact 41)
    g__law_next := He.glo_ok X G (c.fact 42)
    g__law_pick := He.glo_ok X G (c.fact 43)
    g__law_change := He.glo_ok X G (c.fact 44)
    g__law_made := He.glo_ok X G (c.fact 45)
    g__law_after := He.glo_ok X G (c.fact 46)
    g__law_drawn := He.glo_ok X G (c.fact 47)
    g__law_world := He.glo_ok X G (c.fact 48)
    g__law_sets := He.glo_ok X G (c.fact 49)
    g__law_orders := He.glo_ok X G (c.fact 50)
    g__law_end := He.glo_ok X G (c.fact 51)
    g__law_split := He.glo_ok X G (c.fact 52)
    g__law_policies := He.glo_ok X G (c.fact 53)
    g__law_policy := He.glo_ok X G (c.fact 54)
    g__law_line := He.glo_ok X G (c.fact 55)
    g__law_work := He.glo_ok X G (c.fact 56)
    g__law_replica_right := He.glo_ok X G (c.fact 57)
    g__law_refused := He.glo_ok X G (c.fact 58)
    g__law_drawn_names := He.glo_ok X G (c.fact 59)
    g__law_two_right := He.glo_ok X G (c.fact 60)
    g__law_one_right := He.glo_ok X G (c.fact 61)
    g_law := He.glo_ok X G (c.fact 62)
    i_MOST_SLOTS := He.int_ok X G (c.fact 63)
    i_MOST_LETTERS := He.int_ok X G (c.fact 64)
    i_MOST_STORES := He.int_ok X G (c.fact 65)
    i_LEAST_CHANGES := He.int_ok X G (c.fact 66)
    i_MOST_CHANGES := He.int_ok X G (c.fact 67)
    letters := He.str_ok X G (c.fact 68)
    z_isinstance := He.free_ok X G (c.fact 69)
    z_int := He.free_ok X G (c.fact 70)
    z_bool := He.free_ok X G (c.fact 71)
    z_tuple := He.free_ok X G (c.fact 72)
    z_list := He.free_ok X G (c.fact 73)
    z_dict := He.free_ok X G (c.fact 74)
    z_str := He.free_ok X G (c.fact 75)
    z_set := He.free_ok X G (c.fact 76)
    z_len := He.free_ok X G (c.fact 77)
    z_all := He.free_ok X G (c.fact 78)
    z_any := He.free_ok X G (c.fact 79)
    z_sorted := He.free_ok X G (c.fact 80)
    z_max := He.free_ok X G (c.fact 81)
    z_min := He.free_ok X G (c.fact 82)
    z_range := He.free_ok X G (c.fact 83)
    z_abs := He.free_ok X G (c.fact 84)
    z_sum := He.free_ok X G (c.fact 85)
    z_enumerate := He.free_ok X G (c.fact 86)
    o_Put := own_ok (He.cls_ok (c.fact 87)) (s.ex 0) (s.ex 1)
    mk_Put := He.mkr_ok (c.fact 88)
    n_Put_slot := He.noat_ok (c.fact 89)
    n_Put_value := He.noat_ok (c.fact 90)
    m_Put_eq := He.meth_ok (c.fact 91)
    m_Put_apply := He.meth_ok (c.fact 92)
    p_Put_slots := prop_ok (s.ex 2)
    o_Move := own_ok (He.cls_ok (c.fact 93)) (s.ex 0) (s.ex 3)
    mk_Move := He.mkr_ok (c.fact 94)
    n_Move_slot := He.noat_ok (c.fact 95)
    n_Move_source := He.noat_ok (c.fact 96)
    m_Move_eq := He.meth_ok (c.fact 97)
    m_Move_apply := He.meth_ok (c.fact 98)
    p_Move_slots := prop_ok (s.ex 4)
    o_Add := own_ok (He.cls_ok (c.fact 99)) (s.ex 0) (s.ex 5)
    mk_Add := He.mkr_ok (c.fact 100)
    n_Add_slot := He.noat_ok (c.fact 101)
    n_Add_value := He.noat_ok (c.fact 102)
    m_Add_eq := He.meth_ok (c.fact 103)
    m_Add_apply := He.meth_ok (c.fact 104)
    p_Add_slots := prop_ok (s.ex 6)
    o_AddSlot := own_ok (He.cls_ok (c.fact 105)) (s.ex 0) (s.ex 7)
    mk_AddSlot := He.mkr_ok (c.fact 106)
    n_AddSlot_slot := He.noat_ok (c.fact 107)
    n_AddSlot_source := He.noat_ok (c.fact 108)
    m_AddSlot_eq := He.meth_ok (c.fact 109)
    m_AddSlot_apply := He.meth_ok (c.fact 110)
    p_AddSlot_slots := prop_ok (s.ex 8)
    o_Raise := own_ok (He.cls_ok (c.fact 111)) (s.ex 0) (s.ex 9)
    mk_Raise := He.mkr_ok (c.fact 112)
    n_Raise_slot := He.noat_ok (c.fact 113)
    n_Raise_value := He.noat_ok (c.fact 114)
    m_Raise_eq := He.meth_ok (c.fact 115)
    m_Raise_apply := He.meth_ok (c.fact 116)
    p_Raise_slots := prop_ok (s.ex 10)
    o_Lower := own_ok (He.cls_ok (c.fact 117)) (s.ex 0) (s.ex 11)
    mk_Lower := He.mkr_ok (c.fact 118)
    n_Lower_slot := He.noat_ok (c.fact 119)
    n_Lower_value := He.noat_ok (c.fact 120)
    m_Lower_eq := He.meth_ok (c.fact 121)
    m_Lower_apply := He.meth_ok (c.fact 122)
    p_Lower_slots := prop_ok (s.ex 12)
    o_If := own_ok (He.cls_ok (c.fact 123)) (s.ex 0) (s.ex 13)
    mk_If := He.mkr_ok (c.fact 124)
    n_If_slot := He.noat_ok (c.fact 125)
    n_If_value := He.noat_ok (c.fact 126)
    n_If_inner := He.noat_ok (c.fact 127)
    m_If_eq := He.meth_ok (c.fact 128)
    m_If_apply := He.meth_ok (c.fact 129)
    p_If_slots := prop_ok (s.ex 14)
    o_World := own_ok (He.cls_ok (c.fact 130)) (s.ex 0) (s.ex 15)
    mk_World := He.mkr_ok (c.fact 131)
    n_World_width := He.noat_ok (c.fact 132)
    n_World_starts := He.noat_ok (c.fact 133)
    n_World_made := He.noat_ok (c.fact 134)
    m_World_eq := He.meth_ok (c.fact 135)
    m_World_change := He.meth_ok (c.fact 136)
    m_World_end := He.meth_ok (c.fact 137)
    m_World_sets := He.meth_ok (c.fact 138)
    p_World_slots := prop_ok (s.ex 16)
    p_World_stores := prop_ok (s.ex 17)
    p_World_names := prop_ok (s.ex 18)
    o_Replica := own_ok (He.cls_ok (c.fact 139)) (s.ex 0) (s.ex 19)
    mk_Replica := He.mkr_ok (c.fact 140)
    n_Replica_world := He.noat_ok (c.fact 141)
    n_Replica_policy := He.noat_ok (c.fact 142)
    n_Replica_start := He.noat_ok (c.fact 143)
    n_Replica_arrived := He.noat_ok (c.fact 144)
    n_Replica_applied := He.noat_ok (c.fact 145)
    n_Replica_reached := He.noat_ok (c.fact 146)
    n_Replica_applications := He.noat_ok (c.fact 147)
    m_Replica_receive := He.meth_ok (c.fact 148)
    m_Replica_lacking := He.meth_ok (c.fact 149)
    m_Replica_sync := He.meth_ok (c.fact 150)
    p_Replica_received := prop_ok (s.ex 20)
    p_Replica_order := prop_ok (s.ex 21)
    p_Replica_store := prop_ok (s.ex 22)
    p_Replica_work := prop_ok (s.ex 23)
    cm_Replica_at := cm_ok (s.ex 24)
    cr_Replica := cr_ok (s.ex 25)
    k_Put := of_decide_eq_true (s.ex 26)
    kIf_Put := of_decide_eq_true (s.ex 27)
    k_Move := of_decide_eq_true (s.ex 28)
    kIf_Move := of_decide_eq_true (s.ex 29)
    k_Add := of_decide_eq_true (s.ex 30)
    kIf_Add := of_decide_eq_true (s.ex 31)
    k_AddSlot := of_decide_eq_true (s.ex 32)
    kIf_AddSlot := of_decide_eq_true (s.ex 33)
    k_Raise := of_decide_eq_true (s.ex 34)
    kIf_Raise := of_decide_eq_true (s.ex 35)
    k_Lower := of_decide_eq_true (s.ex 36)
    kIf_Lower := of_decide_eq_true (s.ex 37)
    k_If := of_decide_eq_true (s.ex 38)
    kIf_If := of_decide_eq_true (s.ex 39)
    ne_Put := He.eqO_ok (s.ex 40)
    ne_Move := He.eqO_ok (s.ex 41)
    ne_Add := He.eqO_ok (s.ex 42)
    ne_AddSlot := He.eqO_ok (s.ex 43)
    ne_Raise := He.eqO_ok (s.ex 44)
    ne_Lower := He.eqO_ok (s.ex 45)
    ne_If := He.eqO_ok (s.ex 46)
    ne_World := He.eqO_ok (s.ex 47)
    kk_Put_Move := of_decide_eq_true (s.ex 48)
    sb_Put_Move := of_decide_eq_true (s.ex 49)
    kk_Put_Add := of_decide_eq_true (s.ex 50)
    sb_Put_Add := of_decide_eq_true (s.ex 51)
    kk_Put_AddSlot := of_decide_eq_true (s.ex 52)
    sb_Put_AddSlot := of_decide_eq_true (s.ex 53)
    kk_Put_Raise := of_decide_eq_true (s.ex 54)
    sb_Put_Raise := of_decide_eq_true (s.ex 55)
    kk_Put_Lower := of_decide_eq_true (s.ex 56)
    sb_Put_Lower := of_decide_eq_true (s.ex 57)
    kk_Put_If := of_decide_eq_true (s.ex 58)
    sb_Put_If := of_decide_eq_true (s.ex 59)
    kk_Move_Put := of_decide_eq_true (s.ex 60)
    sb_Move_Put := of_decide_eq_true (s.ex 61)
    kk_Move_Add := of_decide_eq_true (s.ex 62)
    sb_Move_Add := of_decide_eq_true (s.ex 63)
    kk_Move_AddSlot := of_decide_eq_true (s.ex 64)
    sb_Move_AddSlot := of_decide_eq_true (s.ex 65)
    kk_Move_Raise := of_decide_eq_true (s.ex 66)
    sb_Move_Raise := of_decide_eq_true (s.ex 67)
    kk_Move_Lower := of_decide_eq_true (s.ex 68)
    sb_Move_Lower := of_decide_eq_true (s.ex 69)
    kk_Move_If := of_decide_eq_true (s.ex 70)
    sb_Move_If := of_decide_eq_true (s.ex 71)
    kk_Add_Put := of_decide_eq_true (s.ex 72)
    sb_Add_Put := of_decide_eq_true (s.ex 73)
    kk_Add_Move := of_decide_eq_true (s.ex 74)
    sb_Add_Move := of_decide_eq_true (s.ex 75)
    kk_Add_AddSlot := of_decide_eq_true (s.ex 76)
    sb_Add_AddSlot := of_decide_eq_true (s.ex 77)
    kk_Add_Raise := of_decide_eq_true (s.ex 78)
    sb_Add_Raise := of_decide_eq_true (s.ex 79)
    kk_Add_Lower := of_decide_eq_true (s.ex 80)
    sb_Add_Lower := of_decide_eq_true (s.ex 81)
    kk_Add_If := of_decide_eq_true (s.ex 82)
    sb_Add_If := of_decide_eq_true (s.ex 83)
    kk_AddSlot_Put := of_decide_eq_true (s.ex 84)
    sb_AddSlot_Put := of_decide_eq_true (s.ex 85)
    kk_AddSlot_Move := of_decide_eq_true (s.ex 86)
    sb_AddSlot_Move := of_decide_eq_true (s.ex 87)
    kk_AddSlot_Add := of_decide_eq_true (s.ex 88)
    sb_AddSlot_Add := of_decide_eq_true (s.ex 89)
    kk_AddSlot_Raise := of_decide_eq_true (s.ex 90)
    sb_AddSlot_Raise := of_decide_eq_true (s.ex 91)
    kk_AddSlot_Lower := of_decide_eq_true (s.ex 92)
    sb_AddSlot_Lower := of_decide_eq_true (s.ex 93)
    kk_AddSlot_If := of_decide_eq_true (s.ex 94)
    sb_AddSlot_If := of_decide_eq_true (s.ex 95)
    kk_Raise_Put := of_decide_eq_true (s.ex 96)
    sb_Raise_Put := of_decide_eq_true (s.ex 97)
    kk_Raise_Move := of_decide_eq_true (s.ex 98)
    sb_Raise_Move := of_decide_eq_true (s.ex 99)
    kk_Raise_Add := of_decide_eq_true (s.ex 100)
    sb_Raise_Add := of_decide_eq_true (s.ex 101)
    kk_Raise_AddSlot := of_decide_eq_true (s.ex 102)
    sb_Raise_AddSlot := of_decide_eq_true (s.ex 103)
    kk_Raise_Lower := of_decide_eq_true (s.ex 104)
    sb_Raise_Lower := of_decide_eq_true (s.ex 105)
    kk_Raise_If := of_decide_eq_true (s.ex 106)
    sb_Raise_If := of_decide_eq_true (s.ex 107)
    kk_Lower_Put := of_decide_eq_true (s.ex 108)
    sb_Lower_Put := of_decide_eq_true (s.ex 109)
    kk_Lower_Move := of_decide_eq_true (s.ex 110)
    sb_Lower_Move := of_decide_eq_true (s.ex 111)
    kk_Lower_Add := of_decide_eq_true (s.ex 112)
    sb_Lower_Add := of_decide_eq_true (s.ex 113)
    kk_Lower_AddSlot := of_decide_eq_true (s.ex 114)
    sb_Lower_AddSlot := of_decide_eq_true (s.ex 115)
    kk_Lower_Raise := of_decide_eq_true (s.ex 116)
    sb_Lower_Raise := of_decide_eq_true (s.ex 117)
    kk_Lower_If := of_decide_eq_true (s.ex 118)
    sb_Lower_If := of_decide_eq_true (s.ex 119)
    kk_If_Put := of_decide_eq_true (s.ex 120)
    sb_If_Put := of_decide_eq_true (s.ex 121)
    kk_If_Move := of_decide_eq_true (s.ex 122)
    sb_If_Move := of_decide_eq_true (s.ex 123)
    kk_If_Add := of_decide_eq_true (s.ex 124)
    sb_If_Add := of_decide_eq_true (s.ex 125)
    kk_If_AddSlot := of_decide_eq_true (s.ex 126)
    sb_If_AddSlot := of_decide_eq_true (s.ex 127)
    kk_If_Raise := of_decide_eq_true (s.ex 128)
    sb_If_Raise := of_decide_eq_true (s.ex 129)
    kk_If_Lower := of_decide_eq_true (s.ex 130)
    sb_If_Lower := of_decide_eq_true (s.ex 131)
    modulus := mod_ok (s.ex 132)
    g_BadName := He.glo_ok X G (c.fact 151)
    x_BadName := He.exc_ok (c.fact 152)
    e_BadName := He.exm_ok (c.fact 153)
  }
abbrev R : PySem.W.OpenRow := PySem.W.OpenLaw.row PySem.Challenge.rw_orderpairs_k11_whole_replicas
def ob (s : PySem.W.SharedT) : He.AlD × Bool := obsO (HandSHeadRun.getT s)
theorem ob_eq (s : PySem.W.SharedT) : ob s = hookO.obs s.abs := by
  have e : HandSHeadRun.getT s = s.abs.heap.get? := funext (HandSHeadRun.getT_eq s)
  unfold ob
  rw [e] <;> rfl
def loose0 : List Str := [("_wall" : Str), ("__name__" : Str), ("OrderError" : Str), ("BadChange" : Str), ("BadWorld" : Str), ("BadName" : Str), ("BadStore" : Str), ("BadOrder" : Str), ("BadPolicy" : Str), ("BadReplica" : Str), ("MOST_SLOTS" : Str), ("Change" : Str)]
def loose1 : List Str := [("Put" : Str), ("Move" : Str), ("Add" : Str), ("AddSlot" : Str), ("Raise" : Str), ("Lower" : Str), ("If" : Str), ("is_number" : Str), ("is_store" : Str), ("check_slot" : Str), ("check_value" : Str), ("check_store" : Str)]
def loose2 : List Str := [("replaced" : Str), ("LETTERS" : Str), ("MOST_LETTERS" : Str), ("MOST_STORES" : Str), ("LEAST_CHANGES" : Str), ("MOST_CHANGES" : Str), ("World" : Str), ("check_world" : Str), ("is_known" : Str), ("is_order" : Str), ("is_store_of" : Str), ("is_start" : Str)]
def loose3 : List Str := [("are_initial_stores" : Str), ("check_changes" : Str), ("is_name" : Str), ("uses_only" : Str), ("check_policy" : Str), ("is_pair" : Str), ("has_cycle" : Str), ("free_names" : Str), ("without" : Str), ("allowed_orders" : Str), ("Replica" : Str), ("check_alike" : Str)]
def loose4 : List Str := [("order_of" : Str), ("common_length" : Str), ("work_of" : Str), ("hardest" : Str), ("works" : Str), ("arrivals_with_work" : Str), ("_law_cell_at" : Str), ("_law_draw" : Str), ("_law_number" : Str), ("_law_next" : Str), ("_law_pick" : Str), ("_law_change" : Str)]
def loose5 : List Str := [("_law_made" : Str), ("_law_after" : Str), ("_law_drawn" : Str), ("_law_world" : Str), ("_law_sets" : Str), ("_law_orders" : Str), ("_law_end" : Str), ("_law_split" : Str), ("_law_policies" : Str), ("_law_policy" : Str), ("_law_line" : Str), ("_law_work" : Str)]
def loose6 : List Str := [("_law_replica_right" : Str), ("_law_refused" : Str), ("_law_drawn_names" : Str), ("_law_two_right" : Str), ("_law_one_right" : Str)]
def loose : List Str := loose0 ++ loose1 ++ loose2 ++ loose3 ++ loose4 ++ loose5 ++ loose6
end OP
namespace OP
open PySem PySem.Spec PyProof.Rows L2
theorem run (w : World) : HandSHeadRun.RunEq R (PySem.W.view R.prog [83]) hookO ob 30000 loose w := by
  intro os
  kernel_rfl
end OP
namespace OP
open PySem PySem.Spec PyProof.Rows L2
/-- the list at D grows, all that stood before stands -/
def Grow (H1 : Hp) (D : Addr) (acc : List V) (H : Hp) : Prop := Same H1 H ∧ H D = some (.lst acc)
theorem Grow.start {H1 : Hp} {D : Addr} (hD : H1 D = none) : Grow H1 D [] (upd H1 D (.lst [])) := ⟨same_upd hD, upd_same⟩
theorem Grow.step {H1 H H4 : Hp} {D : Addr} {acc : List V} {y : V} (hD : H1 D = none) (g : Grow H1 D acc H) (s : Same H H4) : H4 D = some (.lst acc) ∧ Grow H1 D (acc ++ [y]) (upd H4 D (.lst (acc ++ [y]))) :=
  ⟨s _ _ g.2, fun b o e => by rw [upd_ne (ne_of_none e hD)]; exact s _ _ (g.1 _ _ e), upd_same⟩
theorem tyes {σ : L2.St} {H : Hp} {Q : Bool → Hp → Prop} (h : Q true H) : tYes σ H Q := h
/-- a comprehension's turns -/
def LcOk (J : It) (g : TG) (tt : TT) (te : TE) (vs : List Nat) (σ : L2.St) (H1 : Hp) (D : Addr) (Qd : Hp → Prop) : Prop :=
  ∃ W : Nat → Nat → Hp → Prop, (∃ m, W 0 m (upd H1 D (.lst []))) ∧ ∀ i m H, W i m H → (J.stop i H ∧ Qd H) ∨ (J.go i H ∧ ∃ Nx : Hp → Prop, (∀ H', Nx H' → ∃ m', m' < m ∧ W (i + 1) m' H') ∧
    ∀ x H', J.yld i H x H' → g x (wipe σ vs) H' fun σ2 H2 => wipe σ2 vs = wipe σ vs ∧ tt σ2 H2 fun b H3 => if b = true then te σ2 H3 fun y H4 => ∃ acc, H4 D = some (.lst acc) ∧ acc.length < sizeLine ∧ Nx (upd H4 D (.lst (acc ++ [y]))) else Nx H3)
/-- what each item of the list is, at the heap H -/
def Each (Rel : Nat → V → Hp → Prop) (acc : List V) (H : Hp) : Prop := ∀ k y, acc[k]? = some y → Rel k y H
section
variable {K : PySem.W.Frag} {a D : Addr} {xs : List V} {te : TE} {j : Nat} {σ : L2.St} {H1 : Hp} {Qd : Hp → Prop} {Rel : Nat → V → Hp → Prop}
theorem each_snoc {acc : List V} {y : V} {H H' : Hp} (mono : ∀ k y H H', Same H H' → Rel k y H → Rel k y H') (h : Each Rel acc H) (s : Same H H') (hy : Rel acc.length y H') : Each Rel (acc ++ [y]) H' := fun k z e => by
  by_cases hk : k < acc.length
  · rw [List.getElem?_append_left hk] at e
    exact mono _ _ _ _ s (h k z e)
  · have hl : k < (acc ++ [y]).length := (List.getElem?_eq_some_iff.mp e).1
    rw [List.length_append, List.length_singleton] at hl
    have ek : k = acc.length := by omega
    subst ek
    rw [List.getElem?_append_right (Nat.le_refl _), Nat.sub_self] at e
    cases e
    exact hy
theorem each_upd {acc : List V} {H : Hp} {o : HO} (mono : ∀ k y H, Rel k y H → Rel k y (upd H D o)) (h : Each Rel acc H) : Each Rel acc (upd H D o) := fun k z e => mono k z H (h k z e)
/-- over a tuple: each item's element, by Rel -/
theorem lcT (hD : H1 D = none) (hq : SqT K H1 a xs) (hsz : xs.length ≤ 1000) (mono : ∀ k y H H', (∀ b o, b ≠ D → H b = some o → H' b = some o) → Rel k y H → Rel k y H')
    (hs : ∀ (i : Nat) x H (Qe : VK), xs[i]? = some x → Same H1 H → (∀ y H', Same H H' → Rel i y H' → Qe y H') → te ((wipe σ [j]).set j (some x)) H Qe)
    (hd : ∀ acc H, Same H1 H → H D = some (.lst acc) → acc.length = xs.length → Each Rel acc H → Qd H)
    (hw : ∀ x, wipe ((wipe σ [j]).set j (some x)) [j] = wipe σ [j] := by intro _; rfl) : LcOk (Itt K a) (gName j) tYes te [j] σ H1 D Qd := by
  refine lc_tup (K := K) (a := a) (xs := xs) (fun i H => ∃ acc, Grow H1 D acc H ∧ acc.length = i ∧ Each Rel acc H) ⟨[], Grow.start hD, rfl, fun k y e => by simp at e⟩ (fun i H _ ⟨acc, g, _⟩ => g.1.tp hq) (fun i x H hx ⟨acc, g, hl, hE⟩ => ⟨hw x, ?_⟩) (fun H ⟨acc, g, hl, hE⟩ => hd acc H g.1 g.2 hl hE)
  refine tyes (iteT ?_)
  refine hs i x H _ hx g.1 fun y H' s' hy => ?_
  obtain ⟨e1, g2⟩ := g.step (y := y) hD s'
  have hlt : i < xs.length := (List.getElem?_eq_some_iff.mp hx).1
  refine ⟨acc, e1, small1000 (by omega), _, g2, by rw [List.length_append, List.length_singleton, hl], ?_⟩
  have m2 : ∀ k y H H', Same H H' → Rel k y H → Rel k y H' := fun k y H H' s => mono k y H H' fun b o _ e => s b o e
  have hE2 := each_snoc (y := y) m2 hE s' (by rw [hl]; exact hy)
  exact fun k z e => mono k z H' _ (fun b o hb eb => by rw [upd_ne hb]; exact eb) (hE2 k z e)
theorem lcL (hD : H1 D = none) (hq : SqL K H1 a xs) (hsz : xs.length ≤ 1000) (mono : ∀ k y H H', (∀ b o, b ≠ D → H b = some o → H' b = some o) → Rel k y H → Rel k y H')
    (hs : ∀ (i : Nat) x H (Qe : VK), xs[i]? = some x → Same H1 H → (∀ y H', Same H H' → Rel i y H' → Qe y H') → te ((wipe σ [j]).set j (some x)) H Qe)
    (hd : ∀ acc H, Same H1 H → H D = some (.lst acc) → acc.length = xs.length → Each Rel acc H → Qd H)
    (hw : ∀ x, wipe ((wipe σ [j]).set j (some x)) [j] = wipe σ [j] := by intro _; rfl) : LcOk (Itl K a) (gName j) tYes te [j] σ H1 D Qd := by
  refine lc_list (K := K) (a := a) (xs := xs) (fun i H => ∃ acc, Grow H1 D acc H ∧ acc.length = i ∧ Each Rel acc H) ⟨[], Grow.start hD, rfl, fun k y e => by simp at e⟩ (fun i H _ ⟨acc, g, _⟩ => Same.seq g.1 hq) (fun i x H hx ⟨acc, g, hl, hE⟩ => ⟨hw x, ?_⟩) (fun H ⟨acc, g, hl, hE⟩ => hd acc H g.1 g.2 hl hE)
  refine tyes (iteT ?_)
  refine hs i x H _ hx g.1 fun y H' s' hy => ?_
  obtain ⟨e1, g2⟩ := g.step (y := y) hD s'
  have hlt : i < xs.length := (List.getElem?_eq_some_iff.mp hx).1
  refine ⟨acc, e1, small1000 (by omega), _, g2, by rw [List.length_append, List.length_singleton, hl], ?_⟩
  have m2 : ∀ k y H H', Same H H' → Rel k y H → Rel k y H' := fun k y H H' s => mono k y H H' fun b o _ e => s b o e
  have hE2 := each_snoc (y := y) m2 hE s' (by rw [hl]; exact hy)
  exact fun k z e => mono k z H' _ (fun b o hb eb => by rw [upd_ne hb]; exact eb) (hE2 k z e)
/-- the same where each element is a value known beforehand -/
theorem lcT_map (ys : List V) (hD : H1 D = none) (hq : SqT K H1 a xs) (hsz : xs.length ≤ 1000) (hy : ys.length = xs.length)
    (hs : ∀ (i : Nat) x y H (Qe : VK), xs[i]? = some x → ys[i]? = some y → Same H1 H → (∀ H', Same H H' → Qe y H') → te ((wipe σ [j]).set j (some x)) H Qe)
    (hd : ∀ H, Same H1 H → H D = some (.lst ys) → Qd H)
    (hw : ∀ x, wipe ((wipe σ [j]).set j (some x)) [j] = wipe σ [j] := by intro _; rfl) : LcOk (Itt K a) (gName j) tYes te [j] σ H1 D Qd := by
  refine lcT (Rel := fun k y _ => ys[k]? = some y) hD hq hsz (fun _ _ _ _ _ h => h) (fun i x H Qe hx s k => ?_) (fun acc H s e hl hE => ?_) hw
  · have hi : i < ys.length := by rw [hy]; exact (List.getElem?_eq_some_iff.mp hx).1
    exact hs i x ys[i] H Qe hx (List.getElem?_eq_getElem hi) s fun H' s' => k _ H' s' (List.getElem?_eq_getElem hi)
  · have : acc = ys := List.ext_getElem? fun k => by
      cases q : acc[k]? with
      | some y => exact (hE k y q).symm
      | none => exact (List.getElem?_eq_none_iff.mpr (by rw [hy, ← hl]; exact List.getElem?_eq_none_iff.mp q)).symm
    rw [this] at e
    exact hd H s e
theorem lcL_map (ys : List V) (hD : H1 D = none) (hq : SqL K H1 a xs) (hsz : xs.length ≤ 1000) (hy : ys.length = xs.length)
    (hs : ∀ (i : Nat) x y H (Qe : VK), xs[i]? = some x → ys[i]? = some y → Same H1 H → (∀ H', Same H H' → Qe y H') → te ((wipe σ [j]).set j (some x)) H Qe)
    (hd : ∀ H, Same H1 H → H D = some (.lst ys) → Qd H)
    (hw : ∀ x, wipe ((wipe σ [j]).set j (some x)) [j] = wipe σ [j] := by intro _; rfl) : LcOk (Itl K a) (gName j) tYes te [j] σ H1 D Qd := by
  refine lcL (Rel := fun k y _ => ys[k]? = some y) hD hq hsz (fun _ _ _ _ _ h => h) (fun i x H Qe hx s k => ?_) (fun acc H s e hl hE => ?_) hw
  · have hi : i < ys.length := by rw [hy]; exact (List.getElem?_eq_some_iff.mp hx).1
    exact hs i x ys[i] H Qe hx (List.getElem?_eq_getElem hi) s fun H' s' => k _ H' s' (List.getElem?_eq_getElem hi)
  · have : acc = ys := List.ext_getElem? fun k => by
      cases q : acc[k]? with
      | some y => exact (hE k y q).symm
      | none => exact (List.getElem?_eq_none_iff.mpr (by rw [hy, ← hl]; exact List.getElem?_eq_none_iff.mp q)).symm
    rw [this] at e
    exact hd H s e
end
/-- len of a list or tuple, the written part by its name -/
def rLn (K : PySem.W.Frag) : List V → Hp → VK → Prop := fun xs H Q => ∃ p ys, xs = [V.ref p] ∧ (SqL K H p ys ∨ SqT K H p ys) ∧ Q (.int ys.length) H
theorem call_ln {X : Cx} (K : PySem.W.Frag) (hK : X.K = K := by rfl) : CallR X (.builtin "len") (rLn K) := by
  subst hK
  exact call_len_seq
/-- all([True, ..]) -/
theorem all_true (n : Nat) : (List.replicate n true).all id = true := by
  induction n with
  | zero => rfl
  | succ n ih => rw [List.replicate_succ, List.all_cons, ih]; rfl
theorem map_rep (n : Nat) : (List.replicate n true).map V.bl = List.replicate n (V.bl true) := by rw [List.map_replicate]
theorem rep_at {n i : Nat} {x y : V} (h : (List.replicate n x)[i]? = some y) : y = x := by
  obtain ⟨hl, e⟩ := List.getElem?_eq_some_iff.mp h
  rw [List.getElem_replicate] at e
  exact e.symm
theorem ints_at {ns : List Int} {i : Nat} {x : V} (h : (ns.map V.int)[i]? = some x) : ∃ n, ns[i]? = some n ∧ x = .int n := by
  rw [List.getElem?_map] at h
  cases e : ns[i]? with
  | none => rw [e] at h; cases h
  | some n => rw [e] at h; exact ⟨n, rfl, (Option.some.inj h).symm⟩
end OP
namespace OP
open PySem PySem.Spec PyProof.Rows L2
section
variable {P : Program} {w : World} {K : PySem.W.Frag} {mg : Str → Option Value} {base : Heap}
theorem kit_int {K : PySem.W.Frag} : PySem.W.kitOne K (.type "int") (.type "int") = some true := kit_ty (by decide +kernel)
theorem kit_int_bool {K : PySem.W.Frag} : PySem.W.kitOne K (.type "int") (.type "bool") = some false := kit_ty (by decide +kernel)
theorem kit_tup {K : PySem.W.Frag} : PySem.W.kitOne K (.type "tuple") (.type "tuple") = some true := kit_ty (by decide +kernel)
/-- is_number(n, a, b) of ints -/
def spIsNumber : Sp := fun vs H Q _ => ∃ n a b : Int, vs = [.int n, .int a, .int b] ∧ Q (.bl (decide (a ≤ n) && decide (n ≤ b))) H
theorem scIN : FnScope ["value", "least", "most"] ["value", "least", "most"] (defScope s_is_number) := ⟨rfl, rfl, rfl, by decide +kernel, rfl, by decide +kernel, by decide +kernel⟩
theorem ok_is_number (T : Txt K mg) : Ok P w K mg base (a_is_number K) ["value", "least", "most"] 1 spIsNumber := by
  refine ok_of T.f_is_number scIN (fun _ _ _ _ _ _ us hl => match us, hl with | [_, _, _], _ => rfl) (fun vs H Q E h => ?_) (fun cdv A outer s H vs Q E hr h => ?_)
  · obtain ⟨n, a, b, rfl, _⟩ := h
    rfl
  · obtain ⟨n, a, b, rfl, k⟩ := h
    refine ⟨_, pss_one (ps_ret (pe_and (pe_callB call_isi (by rfl) T.z_isinstance (by decide +kernel) (pa_cons (pv 0) (pa_cons (pe_bltn (v := .ty "int") (by rfl) T.z_int (by decide +kernel) rfl) pa_nil)))
      (pe_and (pe_not (pe_callB call_isi (by rfl) T.z_isinstance (by decide +kernel) (pa_cons (pv 0) (pa_cons (pe_bltn (v := .ty "bool") (by rfl) T.z_bool (by decide +kernel) rfl) pa_nil))))
      (pe_one (pe_chain op_le op_le (pv 1) (pv 0) (pv 2)))))), ?_⟩
    refine ⟨_, rfl, _, _, _, _, true, rfl, .ty "int", .base (.int n), kit_int, true, rfl, iteT ?_⟩
    refine ⟨_, rfl, _, _, _, _, false, rfl, .ty "bool", .base (.int n), kit_int_bool, false, rfl, true, rfl, iteT ?_⟩
    refine ⟨_, rfl, _, rfl, _, _, rfl, rfl, _, rfl, ?_⟩
    by_cases h1 : a ≤ n
    · rw [decide_eq_true h1] at k ⊢
      refine iteT ⟨_, rfl, _, _, rfl, rfl, ?_⟩
      exact k
    · rw [decide_eq_false h1] at k ⊢
      exact iteF k
/-- a store: its values -/
structure StoreOk (xs : List Int) : Prop where
  lo : 1 ≤ xs.length
  hi : xs.length ≤ 3
  each : ∀ x ∈ xs, 0 ≤ x ∧ x ≤ 7
def spIsStore : Sp := fun vs H Q _ => ∃ (a : Addr) (xs : List Int), vs = [.ref a] ∧ H a = some (.tup (xs.map V.int)) ∧ StoreOk xs ∧ ∀ H', Same H H' → Q (.bl true) H'
theorem scIS : FnScope ["store", "value"] ["store"] (defScope s_is_store) := ⟨rfl, rfl, rfl, by decide +kernel, rfl, by decide +kernel, by decide +kernel⟩
theorem ok_is_store (T : Txt K mg) : Ok P w K mg base (a_is_store K) ["store"] 2 spIsStore := by
  have GN : Ok P w K mg base (a_is_number K) _ 1 spIsNumber := ok_is_number T
  obtain ⟨t3, m3⟩ := T.i_MOST_SLOTS
  obtain ⟨u8, cr, cv⟩ := T.modulus
  refine ok_of T.f_is_store scIS (fun _ _ _ _ _ _ us hl => match us, hl with | [_], _ => rfl) (fun vs H Q E h => ?_) (fun cdv A outer s H vs Q E hr h => ?_)
  · obtain ⟨a, xs, rfl, _⟩ := h
    rfl
  · obtain ⟨a, xs, rfl, ha, ⟨lo, hi, each⟩, k⟩ := h
    refine ⟨_, pss_cons (ps_if (PW.pt (pw_or (pt_not (pt_val (pe_callB call_isi (by rfl) T.z_isinstance (by decide +kernel) (pa_cons (pv 0) (pa_cons (pe_bltn (v := .ty "tuple") (by rfl) T.z_tuple (by decide +kernel) rfl) pa_nil)))))
        (pw_or1 (pt_not (pt_chain op_le op_le pe_int (pe_callB call_len_seq (by rfl) T.z_len PySem.boot_len (pa_cons (pv 0) pa_nil)) (pe_glob (v := .int 3) (by rfl) m3 ⟨_, rfl⟩))))))
        (pss_one (ps_ret pe_bl)) pss_nil)
      (pss_one (ps_ret (pe_callB (cr_all rfl) (by rfl) T.z_all (by decide +kernel) (pa_cons (pe_lc (own := [("value", 1)]) (g := gName 1) (tt := tYes) rfl scIS.nd (pi_tup (pv 0)) (blkOk_by (own := [("value", 1)]) (N := ["store", "value"]) (sc := defScope s_is_store) (by decide +kernel))
        (fun _ _ _ _ _ => pg_name (i := 1) scIS.nd rfl (Or.inl rfl)) (fun _ _ _ _ _ => pts_nil)
        (fun _ _ _ _ _ => pe_c GN hr T.g_is_number (pa_cons (pv 1) (pa_cons pe_int (pa_cons (pe_op op_sub (pe_cv K cr cv T.g_Change) pe_int) pa_nil))))) pa_nil)))), ?_⟩
    have hl : (xs.map V.int).length = xs.length := List.length_map ..
    refine ⟨_, rfl, _, _, _, _, true, rfl, .ty "tuple", .base (.tup ha), kit_tup, true, rfl, iteF ?_⟩
    refine ⟨_, rfl, a, _, rfl, .inr (SqT.of ha), _, _, rfl, rfl, true, ?_, iteT ⟨_, _, rfl, rfl, true, ?_, iteF ?_⟩⟩
    · rw [hl]
      exact congrArg V.bl (decide_eq_true (by omega))
    · rw [hl]
      exact congrArg V.bl (decide_eq_true (by omega))
    refine ⟨_, rfl, a, rfl, ⟨_, SqT.of ha⟩, fun D hD => ?_⟩
    refine lcT_map (K := K) (a := a) (xs := xs.map V.int) (List.replicate xs.length (.bl true)) hD (SqT.of ha) (by rw [hl]; omega) (by rw [hl, List.length_replicate]) (fun i x y H' Qe hx hy s1 kk => ?_) fun H' s1 e => ?_
    · obtain ⟨n, hn, rfl⟩ := ints_at hx
      obtain rfl := rep_at hy
      obtain ⟨b1, b2⟩ := each n (List.mem_of_getElem? hn)
      refine ⟨_, rfl, _, _, rfl, rfl, n, 0, 7, rfl, ?_⟩
      rw [decide_eq_true b1, decide_eq_true b2]
      exact kk H' (Same.refl _)
    · refine ⟨D, List.replicate xs.length true, rfl, ?_, ?_⟩
      · rw [map_rep]
        exact SqL.of e
      · rw [all_true]
        exact k H' s1
end
end OP
namespace OP
open PySem PySem.Spec PyProof.Rows L2
section
variable {P : Program} {w : World} {K : PySem.W.Frag} {mg : Str → Option Value} {base : Heap}
def spCheck (most : Int) : Sp := fun vs H Q _ => ∃ n : Int, vs = [.int n] ∧ 0 ≤ n ∧ n ≤ most ∧ Q .non H
theorem scCS : FnScope ["slot"] ["slot"] (defScope s_check_slot) := ⟨rfl, rfl, rfl, by decide +kernel, rfl, by decide +kernel, by decide +kernel⟩
theorem ok_check_slot (T : Txt K mg) : Ok P w K mg base (a_check_slot K) ["slot"] 2 (spCheck 2) := by
  have GN : Ok P w K mg base (a_is_number K) _ 1 spIsNumber := ok_is_number T
  obtain ⟨t3, m3⟩ := T.i_MOST_SLOTS
  refine ok_of T.f_check_slot scCS (fun _ _ _ _ _ _ us hl => match us, hl with | [_], _ => rfl) (fun vs H Q E h => ?_) (fun cdv A outer s H vs Q E hr h => ?_)
  · obtain ⟨n, rfl, _⟩ := h
    rfl
  · obtain ⟨n, rfl, b1, b2, k⟩ := h
    refine ⟨_, pss_one (ps_if (pt_not (pt_val (pe_c GN hr T.g_is_number (pa_cons (pv 0) (pa_cons pe_int (pa_cons (pe_op op_sub (pe_glob (v := .int 3) (by rfl) m3 ⟨_, rfl⟩) pe_int) pa_nil)))))) (pss_one ps_never) pss_nil), ?_⟩
    refine ⟨_, rfl, _, _, rfl, rfl, n, 0, 2, rfl, true, ?_, iteF k⟩
    rw [decide_eq_true b1, decide_eq_true b2] <;> rfl
theorem scCV : FnScope ["value"] ["value"] (defScope s_check_value) := ⟨rfl, rfl, rfl, by decide +kernel, rfl, by decide +kernel, by decide +kernel⟩
theorem ok_check_value (T : Txt K mg) : Ok P w K mg base (a_check_value K) ["value"] 2 (spCheck 7) := by
  have GN : Ok P w K mg base (a_is_number K) _ 1 spIsNumber := ok_is_number T
  obtain ⟨u8, cr, cv⟩ := T.modulus
  refine ok_of T.f_check_value scCV (fun _ _ _ _ _ _ us hl => match us, hl with | [_], _ => rfl) (fun vs H Q E h => ?_) (fun cdv A outer s H vs Q E hr h => ?_)
  · obtain ⟨n, rfl, _⟩ := h
    rfl
  · obtain ⟨n, rfl, b1, b2, k⟩ := h
    refine ⟨_, pss_one (ps_if (pt_not (pt_val (pe_c GN hr T.g_is_number (pa_cons (pv 0) (pa_cons pe_int (pa_cons (pe_op op_sub (pe_cv K cr cv T.g_Change) pe_int) pa_nil)))))) (pss_one ps_never) pss_nil), ?_⟩
    refine ⟨_, rfl, _, _, rfl, rfl, n, 0, 7, rfl, true, ?_, iteF k⟩
    rw [decide_eq_true b1, decide_eq_true b2] <;> rfl
/-- check_store(store, slots) of a store that has all the slots -/
def spCheckStore (K : PySem.W.Frag) : Sp := fun vs H Q _ => ∃ (a l : Addr) (xs ss : List Int), vs = [.ref a, .ref l] ∧ H a = some (.tup (xs.map V.int)) ∧ StoreOk xs ∧ SqL K H l (ss.map V.int) ∧ ss.length ≤ 1000 ∧ (∀ n ∈ ss, n < (xs.length : Int)) ∧ ∀ H', Same H H' → Q .non H'
theorem scCSt : FnScope ["store", "slots", "slot"] ["store", "slots"] (defScope s_check_store) := ⟨rfl, rfl, rfl, by decide +kernel, rfl, by decide +kernel, by decide +kernel⟩
theorem ok_check_store (T : Txt K mg) : Ok P w K mg base (a_check_store K) ["store", "slots"] 3 (spCheckStore K) := by
  have GS : Ok P w K mg base (a_is_store K) _ 2 spIsStore := ok_is_store T
  refine ok_of T.f_check_store scCSt (fun _ _ _ _ _ _ us hl => match us, hl with | [_, _], _ => rfl) (fun vs H Q E h => ?_) (fun cdv A outer s H vs Q E hr h => ?_)
  · obtain ⟨a, l, xs, ss, rfl, _⟩ := h
    rfl
  · obtain ⟨a, l, xs, ss, rfl, ha, ok, hl, hz, hlt, k⟩ := h
    refine ⟨_, pss_one (ps_if (PW.pt (pw_or (pt_not (pt_val (pe_c GS hr T.g_is_store (pa_cons (pv 0) pa_nil))))
      (pw_or1 (pt_not (pt_val (pe_callB (cr_all rfl) (by rfl) T.z_all (by decide +kernel) (pa_cons (pe_lc (own := [("slot", 2)]) (g := gName 2) (tt := tYes) rfl scCSt.nd (pi_list (pv 1)) (blkOk_by (own := [("slot", 2)]) (N := ["store", "slots", "slot"]) (sc := defScope s_check_store) (by decide +kernel))
        (fun _ _ _ _ _ => pg_name (i := 2) scCSt.nd rfl (Or.inl rfl)) (fun _ _ _ _ _ => pts_nil)
        (fun _ _ _ _ _ => pe_cmpR op_lt (pv 2) (pe_callB (call_ln K) (by rfl) T.z_len PySem.boot_len (pa_cons (pv 0) pa_nil)) (nomark _))) pa_nil))))))) (pss_one ps_never) pss_nil), ?_⟩
    refine ⟨_, rfl, a, xs, rfl, ha, ok, fun H1 s1 => ⟨true, rfl, iteF ?_⟩⟩
    refine ⟨_, rfl, l, rfl, ⟨_, s1.seq hl⟩, fun D hD => ?_⟩
    have hm : (ss.map V.int).length = ss.length := List.length_map ..
    refine lcL_map (K := K) (a := l) (xs := ss.map V.int) (List.replicate ss.length (.bl true)) hD (s1.seq hl) (by rw [hm]; exact hz) (by rw [hm, List.length_replicate]) (fun i x y H' Qe hx hy s2 kk => ?_) fun H' s2 e => ?_
    · obtain ⟨n, hn, rfl⟩ := ints_at hx
      obtain rfl := rep_at hy
      refine ⟨_, rfl, _, rfl, a, _, rfl, .inr (SqT.of (s2 _ _ (s1 _ _ ha))), _, _, rfl, rfl, ?_⟩
      show Qe (.bl (decide (n < ((xs.map V.int).length : Int)))) H'
      rw [List.length_map, decide_eq_true (hlt n (List.mem_of_getElem? hn))]
      exact kk H' (Same.refl _)
    · refine ⟨D, List.replicate ss.length true, rfl, ?_, true, ?_, iteF (k H' (s1.trans s2))⟩
      · rw [map_rep]
        exact SqL.of e
      · rw [all_true]
/-- replaced(store, slot, value) -/
def spReplaced : Sp := fun vs H Q _ => ∃ (a : Addr) (xs : List Int) (i : Nat) (n : Int), vs = [.ref a, .int i, .int n] ∧ H a = some (.tup (xs.map V.int)) ∧ xs.length ≤ 3 ∧ i < xs.length ∧ ∀ r H', Same H H' → H' r = some (.tup ((xs.set i n).map V.int)) → Q (.ref r) H'
theorem set_cut {xs : List Int} {i : Nat} {n : Int} (h : i < xs.length) : xs.set i n = xs.take i ++ n :: xs.drop (i + 1) := List.set_eq_take_append_cons_drop.trans (if_pos h)
theorem cut_lo {xs : List Int} {i : Nat} (h : i < xs.length) : cutV (xs.map V.int) none (some (i : Int)) = (xs.take i).map V.int := by
  unfold cutV
  rw [HT.sIx_none, HT.sIx_nat, List.length_map, List.drop_zero, Nat.sub_zero, List.map_take, Nat.min_eq_left (Nat.le_of_lt h)]
theorem cut_hi {xs : List Int} {i : Nat} (h : i ≤ xs.length) : cutV (xs.map V.int) (some (i : Int)) none = (xs.drop i).map V.int := by
  unfold cutV
  rw [HT.sIx_none, HT.sIx_nat, List.length_map, Nat.min_eq_left h, List.map_drop, List.take_of_length_le]
  rw [List.length_drop, List.length_map]
  exact Nat.le_refl _
theorem scRe : FnScope ["store", "slot", "value"] ["store", "slot", "value"] (defScope s_replaced) := ⟨rfl, rfl, rfl, by decide +kernel, rfl, by decide +kernel, by decide +kernel⟩
theorem ok_replaced (T : Txt K mg) : Ok P w K mg base (a_replaced K) ["store", "slot", "value"] 1 spReplaced := by
  refine ok_of T.f_replaced scRe (fun _ _ _ _ _ _ us hl => match us, hl with | [_, _, _], _ => rfl) (fun vs H Q E h => ?_) (fun cdv A outer s H vs Q E hr h => ?_)
  · obtain ⟨a, xs, i, n, rfl, _⟩ := h
    rfl
  · obtain ⟨a, xs, i, n, rfl, ha, h3, hi, k⟩ := h
    refine ⟨_, pss_one (ps_ret (pe_op op_catA (pe_op op_catA (pe_slice sl_tupA (pv 0) po_none (po_some (pv 1))) (pe_tup (pa_cons (pv 2) pa_nil))) (pe_slice sl_tupA (pv 0) (po_some (pe_op op_add (pv 1) pe_int)) po_none))), ?_⟩
    refine ⟨_, rfl, _, rfl, i, rfl, a, _, rfl, SqT.of ha, fun q => ?_, fun _ p hp => ?_⟩
    · rw [HT.sIx_nat, List.length_map, Nat.min_eq_left (Nat.le_of_lt hi)] at q
      omega
    rw [cut_lo hi]
    have s1 : Same H _ := same_upd (o := .tup ((xs.take i).map V.int)) hp
    refine ⟨_, rfl, (by show 1 ≤ sizeLine; decide), fun t ht => ?_⟩
    have s2 := s1.push (o := .tup [V.int n]) ht
    have hp2 : upd (upd H p (.tup ((xs.take i).map V.int))) t (.tup [V.int n]) p = some (.tup ((xs.take i).map V.int)) := by rw [upd_ne (ne_of_none upd_same ht)]; exact upd_same
    have e1 : ((xs.take i).map V.int).length + [V.int n].length ≤ sizeLine := by
      rw [List.length_map, List.length_take]
      exact Nat.le_trans (show _ ≤ 4 from by simp; omega) (by decide)
    have fin : ∀ (r : Addr) (H3 : Hp), Same H H3 → H3 r = some (.tup ((xs.take i ++ [n]).map V.int)) → tSl (rSlA K) (tVar 0) (tPart (tOp (rI0 fun i j => .int (i + j)) (tVar 1) (tC (.int 1)))) tNoPart (start ["store", "slot", "value"] [.ref a, .int i, .int n]) H3 (fun y H4 => rCatA K (.ref r) y H4 Q) := by
      intro r H3 s3 e3
      refine ⟨_, rfl, _, rfl, _, _, rfl, rfl, _, rfl, a, _, rfl, SqT.of (s3 _ _ ha), fun q => ?_, fun _ p2 hp2' => ?_⟩
      · have q1 := q.1
        rw [show ((i : Int) + 1) = ((i + 1 : Nat) : Int) from rfl, HT.sIx_nat, List.length_map] at q1
        omega
      rw [show ((i : Int) + 1) = ((i + 1 : Nat) : Int) from rfl, cut_hi (Nat.succ_le_of_lt hi)]
      have e4 : upd H3 p2 (.tup ((xs.drop (i + 1)).map V.int)) r = some (.tup ((xs.take i ++ [n]).map V.int)) := by rw [upd_ne (ne_of_none e3 hp2')]; exact e3
      have s4 := s3.push (o := .tup ((xs.drop (i + 1)).map V.int)) hp2'
      refine ⟨r, p2, _, _, rfl, rfl, SqT.of e4, SqT.of upd_same, ?_, fun z => ?_, fun _ z => ?_, fun _ _ p3 hp3 => ?_⟩
      · rw [List.length_map, List.length_map, List.length_append, List.length_take, List.length_drop]
        exact Nat.le_trans (show _ ≤ 10 from by simp; omega) (by decide)
      · have := congrArg List.length z
        simp at this
      · refine k r _ s4 ?_
        have z2 : xs.drop (i + 1) = [] := List.map_eq_nil_iff.mp z
        rw [set_cut hi, show xs.take i ++ n :: xs.drop (i + 1) = xs.take i ++ [n] by rw [z2]]
        exact e4
      · refine k p3 _ (s4.push hp3) ?_
        rw [upd_same, set_cut hi, ← List.map_append, List.append_assoc] <;> rfl
    refine ⟨p, t, _, _, rfl, rfl, SqT.of hp2, SqT.of upd_same, e1, fun z => ?_, fun _ z => ?_, fun _ _ p3 hp3 => ?_⟩
    · have z2 : xs.take i = [] := List.map_eq_nil_iff.mp z
      exact fin t _ s2 (by rw [z2]; exact upd_same)
    · cases z
    · refine fin p3 _ (s2.push hp3) ?_
      rw [upd_same, List.map_append] <;> rfl
end
end OP
namespace OP
open PySem PySem.Spec PyProof.Rows L2
/-- a set that set() has just made -/
abbrev set0 (w : World) : Obj := { cls := .type "set", dict := none, data := .set #[] 0 (.fresh 0 0 (!w.params.followText "set-order")) }
section
variable {P : Program} {w : World} {A : Around} {E : Value → Shared → Prop} {s : Shared}
/-- the set at S takes the items of a walk, one by one; Ph i: what is known of it behind i of them -/
theorem set_takes {I : Addr} {fp wr : List Addr} {G : Array GenState → Array GenState → Prop} {n : Nat} {Pv : Nat → Value → Prop} {St : Nat → Shared → Prop} {R : Result → Shared → Prop}
    (W : WalksS P w A.in1 I fp wr G n Pv St) (S : Addr) (out : S ∉ fp) (Ph : Nat → Heap → Prop) (stays : ∀ i g g', Ph i g → (∀ o, g.get? S = some o → g'.get? S = some o) → Ph i g')
    (add : ∀ i v (s1 : Shared) (Q : Bool → Shared → Prop) (E : Value → Shared → Prop), i < n → Pv i v → Ph i s1.heap → (∀ b g, Heap.SameBut S s1.heap g → Ph (i + 1) g → Q b { s1 with heap := g, toks := s1.toks + 1 }) → wpAny (model P w) A.in1 (setAdd S v) Q E s1) :
    ∀ (k i : Nat) (s : Shared), n - i = k → i ≤ n → St i s → Ph i s.heap → (∀ s1, Moved (S :: wr) G s s1 → Ph n s1.heap → R (.ok (.ret .none)) s1) →
      codeAny (model P w) A (.builtin "set.update.loop" ⟨[.ref S, .ref I], []⟩) R s := by
  have outW : S ∉ wr := fun z => out (W.sub _ z)
  have more : ∀ b ∈ wr, b ∈ S :: wr := fun b z => List.mem_cons_of_mem _ z
  intro k
  induction k with
  | zero =>
    intro i s e1 e2 hst hF hR
    obtain rfl : i = n := by omega
    refine codeAny_builtin F.entry_set_update_loop ?_
    rw [Around.under_plainId F.plain_set_update_loop _]
    show wpAny _ A.in1 (pyNext (.ref I) >>= _) _ _ s
    refine wpAny_bind (W.done s _ _ hst fun s1 hm => ?_)
    show wpAny _ A.in1 (ret Value.none) _ _ s1
    exact wpAny_pure (hR s1 (hm.mono more) (stays _ _ _ hF fun o e => hm.heap S o outW e))
  | succ k ih =>
    intro i s e1 e2 hst hF hR
    have lt : i < n := by omega
    refine codeAny_builtin F.entry_set_update_loop ?_
    rw [Around.under_plainId F.plain_set_update_loop _]
    show wpAny _ A.in1 (pyNext (.ref I) >>= _) _ _ s
    refine wpAny_bind (W.item i s _ _ lt hst fun v s1 hP hst1 hm => ?_)
    show wpAny _ A.in1 (holding [v] (setAdd S v) >>= _) _ _ s1
    refine wpAny_bind (wpAny_holding ?_)
    refine add i v s1 _ _ lt hP (stays _ _ _ hF fun o e => hm.heap S o outW e) fun b g sb hF2 => ?_
    refine wpAny_pure ⟨plainId_quiet F.plain_set_update_loop _, ih (i + 1) _ (by omega) lt (W.frame _ s1 _ _ hst1 (Nat.le_succ _) fun b hb o e => ?_) hF2 fun s2 hm2 hF3 => ?_⟩
    · rw [sb.2 b (fun z : b = S => out (by rw [← z]; exact hb))]
      exact e
    · refine hR s2 (Moved.trans W.gtrans ((hm.mono more).then_heap (Nat.le_succ _) fun b o hb e => ?_) hm2) hF3
      rw [sb.2 b (fun z : b = S => hb (by rw [z]; exact List.mem_cons_self))]
      exact e
theorem set_of_tuple {l : Addr} {items : Array Value} {Q : Value → Shared → Prop} (Ph : Nat → Heap → Prop) (calm : A.handled = none) (hl : s.heap.IsTuple l items) (start : ∀ g, g.get? s.heap.objs.size = some (set0 w) → Ph 0 g)
    (stays : ∀ i g g', Ph i g → (∀ o, g.get? s.heap.objs.size = some o → g'.get? s.heap.objs.size = some o) → Ph i g')
    (add : ∀ i v (A : Around) (s1 : Shared) (Q : Bool → Shared → Prop) (E : Value → Shared → Prop), items[i]? = some v → Ph i s1.heap → (∀ b g, Heap.SameBut s.heap.objs.size s1.heap g → Ph (i + 1) g → Q b { s1 with heap := g, toks := s1.toks + 1 }) → wpAny (model P w) A (setAdd s.heap.objs.size v) Q E s1)
    (h : ∀ (g : Heap) (tk : Nat), Ph items.size g → (∀ b o, s.heap.get? b = some o → g.get? b = some o) → Q (.ref s.heap.objs.size) { s with heap := g, toks := tk }) :
    wpAny (model P w) A (call (.type "set") [.ref l]) Q E s := by
  obtain ⟨c0, tl, q0⟩ := F.called_set.mro
  have q1 := F.called_set.made
  have q2 := F.called_set.sub
  refine wpAny_call (codeAny_of_tree ?_)
  show wpAny _ _ (callAny (.type "set") _) _ _ _
  refine wpAny_pure ⟨Code.quiet_builtin _ (by decide +kernel), codeAny_builtin F.entry_type_call ?_⟩
  rw [Around.under_plain (weight_type_call_type "set" [.ref l] []) rfl]
  have q3 := F.called_set.notType
  have q4 := F.called_set.canCreate
  have q5 := F.typeCall_set_1 (.ref l)
  repeat (any_goals (first | assumption | wp_step))
  refine codeAny_mono (code_set_led1 (.ref l) (E := E) (Q₁ := fun o1 s1 => o1 = .ref s.heap.objs.size ∧ s1 = { s with heap := s.heap.push (set0 w) }) ⟨rfl, rfl⟩) fun r s1 hr => ?_
  cases r with
  | error e => exact hr
  | ok fl =>
    cases fl with
    | ret ob =>
      obtain ⟨rfl, rfl⟩ := hr
      have at0 : (s.heap.push (set0 w)).get? s.heap.objs.size = some (set0 w) := Heap.get?_push_size _ rfl
      have ty0 : Shared.TypeIs { s with heap := s.heap.push (set0 w) } (.ref s.heap.objs.size) "set" := ⟨_, at0, rfl⟩
      have q6 := F.called_set.init.lookup
      have q7 := F.called_set.init.bind (.ref s.heap.objs.size)
      repeat (any_goals (first | assumption | wp_step))
      refine codeAny_mono (codeAny_call_builtin (R := wants (fun r s2 => r = .none ∧ ∃ g tk, s2 = { s with heap := g, toks := tk } ∧ Ph items.size g ∧ ∀ b o, s.heap.get? b = some o → g.get? b = some o) E) F.called_set.init.plain F.entry_set_init (check_set_init_1 ty0 ?_)) fun r2 s2 hr2 => ?_
      · obtain ⟨ol, hol, z1, nl, z2⟩ := hl
        obtain ⟨oc, od, odt, osl⟩ := ol
        simp only at z1 z2
        subst z1; subst z2
        have hol1 : (s.heap.push (set0 w)).get? l = some { cls := .type "tuple", dict := od, data := .seq items nl, slots := osl } := Heap.get?_push_of_some _ hol
        have q8 := F.sub_tuple_set
        have q9 := F.sub_tuple_frozenset
        have qa : (Value.type "tuple" == Value.type "dict") = false := by decide
        have hl1 : (s.heap.push (set0 w)).IsTuple l items := ⟨_, hol1, rfl, nl, rfl⟩
        unfold Builtin.«set.__init__» noKeywords Builtin.Frozenset.updateFrom
        generalize hIt : pyIter = It
        wp_walk
        subst hIt
        refine wpAny_pyIter_tuple hl1 ?_
        refine wpAny_bind (wpAny_runValue ?_)
        have llt : l < s.heap.objs.size := Heap.lt_size hol
        have calm3 : A.in1.in1.in1.handled = none := by simp [calm]
        have lne : l ≠ (s.heap.push (set0 w)).objs.size := by
          rw [Heap.size_push]
          exact Nat.ne_of_lt (Nat.lt_succ_of_lt llt)
        have notin : s.heap.objs.size ∉ [(s.heap.push (set0 w)).objs.size, l] := by
          rw [Heap.size_push]
          simp only [List.mem_cons, List.not_mem_nil, or_false, not_or]
          exact ⟨Nat.ne_of_lt (Nat.lt_succ_self _), Nat.ne_of_gt llt⟩
        refine set_takes ((Walks.tuple calm3 _ l lne items).toS) s.heap.objs.size notin Ph stays (fun i v s3 Q3 E3 _ hv hF k => add i v _ s3 Q3 E3 hv hF k) (items.size - 0) 0 _ (by omega) (Nat.zero_le _)
          ⟨⟨_, Heap.get?_push_size _ rfl, rfl, rfl⟩, (hl1.push _)⟩ (start _ (Heap.get?_push_of_some _ at0)) fun s3 hm hF => ?_
        obtain ⟨g, g2, d2, tk2, os2⟩ := s3
        have eg : g2 = s.gens := hm.gens
        have ed : d2 = s.drawn := hm.drawn
        have eo : os2 = s.os := hm.os
        subst eg; subst ed; subst eo
        show wpAny _ _ _ _ _ _
        refine wpAny_pure ?_
        show wpAny _ _ (ret Value.none) _ _ _
        refine wpAny_pure ⟨rfl, g, tk2, rfl, hF, fun b o e => ?_⟩
        have b0 : b < s.heap.objs.size := Heap.lt_size e
        refine hm.heap b o ?_ (Heap.get?_push_of_some _ (Heap.get?_push_of_some _ e))
        rw [Heap.size_push]
        simp only [List.mem_cons, List.not_mem_nil, or_false, not_or]
        exact ⟨Nat.ne_of_lt b0, Nat.ne_of_lt (Nat.lt_succ_of_lt b0)⟩
      · cases r2 with
        | error e => exact hr2
        | ok f2 =>
          cases f2 with
          | ret v2 =>
            obtain ⟨rfl, g, tk, rfl, hF, kp⟩ := hr2
            repeat (any_goals (first | assumption | wp_step))
            exact h _ _ hF kp
          | _ => exact hr2.elim
    | _ => exact hr.elim
theorem set_of_list {l : Addr} {items : Array Value} {Q : Value → Shared → Prop} (Ph : Nat → Heap → Prop) (calm : A.handled = none) (hl : s.heap.IsList l items) (start : ∀ g, g.get? s.heap.objs.size = some (set0 w) → Ph 0 g)
    (stays : ∀ i g g', Ph i g → (∀ o, g.get? s.heap.objs.size = some o → g'.get? s.heap.objs.size = some o) → Ph i g')
    (add : ∀ i v (A : Around) (s1 : Shared) (Q : Bool → Shared → Prop) (E : Value → Shared → Prop), items[i]? = some v → Ph i s1.heap → (∀ b g, Heap.SameBut s.heap.objs.size s1.heap g → Ph (i + 1) g → Q b { s1 with heap := g, toks := s1.toks + 1 }) → wpAny (model P w) A (setAdd s.heap.objs.size v) Q E s1)
    (h : ∀ (g : Heap) (tk : Nat), Ph items.size g → (∀ b o, s.heap.get? b = some o → g.get? b = some o) → Q (.ref s.heap.objs.size) { s with heap := g, toks := tk }) :
    wpAny (model P w) A (call (.type "set") [.ref l]) Q E s := by
  obtain ⟨c0, tl, q0⟩ := F.called_set.mro
  have q1 := F.called_set.made
  have q2 := F.called_set.sub
  refine wpAny_call (codeAny_of_tree ?_)
  show wpAny _ _ (callAny (.type "set") _) _ _ _
  refine wpAny_pure ⟨Code.quiet_builtin _ (by decide +kernel), codeAny_builtin F.entry_type_call ?_⟩
  rw [Around.under_plain (weight_type_call_type "set" [.ref l] []) rfl]
  have q3 := F.called_set.notType
  have q4 := F.called_set.canCreate
  have q5 := F.typeCall_set_1 (.ref l)
  repeat (any_goals (first | assumption | wp_step))
  refine codeAny_mono (code_set_led1 (.ref l) (E := E) (Q₁ := fun o1 s1 => o1 = .ref s.heap.objs.size ∧ s1 = { s with heap := s.heap.push (set0 w) }) ⟨rfl, rfl⟩) fun r s1 hr => ?_
  cases r with
  | error e => exact hr
  | ok fl =>
    cases fl with
    | ret ob =>
      obtain ⟨rfl, rfl⟩ := hr
      have at0 : (s.heap.push (set0 w)).get? s.heap.objs.size = some (set0 w) := Heap.get?_push_size _ rfl
      have ty0 : Shared.TypeIs { s with heap := s.heap.push (set0 w) } (.ref s.heap.objs.size) "set" := ⟨_, at0, rfl⟩
      have q6 := F.called_set.init.lookup
      have q7 := F.called_set.init.bind (.ref s.heap.objs.size)
      repeat (any_goals (first | assumption | wp_step))
      refine codeAny_mono (codeAny_call_builtin (R := wants (fun r s2 => r = .none ∧ ∃ g tk, s2 = { s with heap := g, toks := tk } ∧ Ph items.size g ∧ ∀ b o, s.heap.get? b = some o → g.get? b = some o) E) F.called_set.init.plain F.entry_set_init (check_set_init_1 ty0 ?_)) fun r2 s2 hr2 => ?_
      · obtain ⟨ol, hol, z1, nl, z2⟩ := hl
        obtain ⟨oc, od, odt, osl⟩ := ol
        simp only at z1 z2
        subst z1; subst z2
        have hol1 : (s.heap.push (set0 w)).get? l = some { cls := .type "list", dict := od, data := .seq items nl, slots := osl } := Heap.get?_push_of_some _ hol
        have q8 := F.sub_list_set
        have q9 := F.sub_list_frozenset
        have qa : (Value.type "list" == Value.type "dict") = false := by decide
        have hl1 : (s.heap.push (set0 w)).IsList l items := ⟨_, hol1, rfl, nl, rfl⟩
        unfold Builtin.«set.__init__» noKeywords Builtin.Frozenset.updateFrom
        generalize hIt : pyIter = It
        wp_walk
        subst hIt
        refine wpAny_pyIter_list hl1 ?_
        refine wpAny_bind (wpAny_runValue ?_)
        have llt : l < s.heap.objs.size := Heap.lt_size hol
        have calm3 : A.in1.in1.in1.handled = none := by simp [calm]
        have lne : l ≠ (s.heap.push (set0 w)).objs.size := by
          rw [Heap.size_push]
          exact Nat.ne_of_lt (Nat.lt_succ_of_lt llt)
        have notin : s.heap.objs.size ∉ [(s.heap.push (set0 w)).objs.size, l] := by
          rw [Heap.size_push]
          simp only [List.mem_cons, List.not_mem_nil, or_false, not_or]
          exact ⟨Nat.ne_of_lt (Nat.lt_succ_self _), Nat.ne_of_gt llt⟩
        refine set_takes ((Walks.list calm3 _ l lne items).toS) s.heap.objs.size notin Ph stays (fun i v s3 Q3 E3 _ hv hF k => add i v _ s3 Q3 E3 hv hF k) (items.size - 0) 0 _ (by omega) (Nat.zero_le _)
          ⟨⟨_, Heap.get?_push_size _ rfl, rfl, rfl⟩, (hl1.push _)⟩ (start _ (Heap.get?_push_of_some _ at0)) fun s3 hm hF => ?_
        obtain ⟨g, g2, d2, tk2, os2⟩ := s3
        have eg : g2 = s.gens := hm.gens
        have ed : d2 = s.drawn := hm.drawn
        have eo : os2 = s.os := hm.os
        subst eg; subst ed; subst eo
        show wpAny _ _ _ _ _ _
        refine wpAny_pure ?_
        show wpAny _ _ (ret Value.none) _ _ _
        refine wpAny_pure ⟨rfl, g, tk2, rfl, hF, fun b o e => ?_⟩
        have b0 : b < s.heap.objs.size := Heap.lt_size e
        refine hm.heap b o ?_ (Heap.get?_push_of_some _ (Heap.get?_push_of_some _ e))
        rw [Heap.size_push]
        simp only [List.mem_cons, List.not_mem_nil, or_false, not_or]
        exact ⟨Nat.ne_of_lt b0, Nat.ne_of_lt (Nat.lt_succ_of_lt b0)⟩
      · cases r2 with
        | error e => exact hr2
        | ok f2 =>
          cases f2 with
          | ret v2 =>
            obtain ⟨rfl, g, tk, rfl, hF, kp⟩ := hr2
            repeat (any_goals (first | assumption | wp_step))
            exact h _ _ hF kp
          | _ => exact hr2.elim
    | _ => exact hr.elim
end
end OP
namespace OP
open PySem PySem.Spec PyProof.Rows L2
theorem nodup_le {α : Type} [DecidableEq α] : ∀ {xs ys : List α}, xs.Nodup → (∀ x ∈ xs, x ∈ ys) → xs.length ≤ ys.length
  | [], _, _, _ => Nat.zero_le _
  | x :: xs, ys, nd, h => by
    obtain ⟨n1, n2⟩ := List.nodup_cons.mp nd
    have hx := h x List.mem_cons_self
    have e := List.length_erase_of_mem hx
    have := nodup_le (ys := ys.erase x) n2 fun z hz => (List.mem_erase_of_ne (fun q => n1 (by rw [← q]; exact hz))).mpr (h z (List.mem_cons_of_mem _ hz))
    have p : 0 < ys.length := List.length_pos_of_mem hx
    rw [List.length_cons]
    omega
section
variable {X : Cx}
/-- set(xs), xs a list of ints -/
def rSetI (K : PySem.W.Frag) (w : World) : List V → Hp → VK → Prop := fun vs H Q => ∃ (l : Addr) (ns : List Int), vs = [V.ref l] ∧ SqL K H l (ns.map V.int) ∧ ns.length < 60 ∧
  ∀ a c, H a = none → c ≤ ns.length → Q (.ref a) (upd H a (SetO w a (fun j => decide (j ∈ ns)) c))
theorem cr_setI (calm : X.calm = true) : CallR X (.type "set") (rSetI X.K X.w) := by
  intro pins s σ H vs us Q I r h
  obtain ⟨l, ns, rfl, hq, hz, q⟩ := h
  rw [Vals.ref1 r]
  obtain ⟨its, rv, pl, _⟩ := I.list hq
  have hlen : its.length = ns.length := by rw [← rv.length, List.length_map]
  refine set_of_list (P := X.prog) (w := X.w) (fun i g => ∃ c, c ≤ i ∧ SetR X.w g s.heap.objs.size (fun j => decide (j ∈ ns.take i)) c) (I.ok.hd calm) pl.isList (fun g e => ⟨0, Nat.le_refl _, setR_new_at e⟩) (fun i g g' ⟨c, hc, R⟩ k => ⟨c, hc, R.at k⟩)
    (fun i v A s1 Q1 E1 hv ⟨c, hc, R⟩ k => ?_) fun g tk ⟨c, hc, R⟩ kp => ?_
  · have hv2 : its[i]? = some v := by simpa using hv
    have hi : i < ns.length := by rw [← hlen]; exact (List.getElem?_eq_some_iff.mp hv2).1
    obtain ⟨u, e1, e2⟩ := rv.get (x := .int ns[i]) (i := i) (by rw [List.getElem?_map, List.getElem?_eq_getElem hi] <;> rfl)
    rw [hv2] at e1
    cases e1
    obtain ⟨t, rfl⟩ := e2
    unfold setAdd
    refine wpAny_holding (wpAny_bind ((intKind X.prog X.w).pyHash (k := ns[i]) (intKind_is _ _ _ _) ?_))
    refine setR_add_hashed (s := { s1 with toks := s1.toks + 1 }) R (by unfold scanBound; omega) fun g sb R2 => k _ g sb ⟨_, ?_, R2.congr fun j => ?_⟩
    · split <;> omega
    · have e : ns.take (i + 1) = ns.take i ++ [ns[i]] := by rw [List.take_add_one, List.getElem?_eq_getElem hi] <;> rfl
      rw [e]
      simp only [List.mem_append, List.mem_singleton, Bool.decide_or]
  · have e : its.toArray.size = ns.length := by rw [List.size_toArray, hlen]
    rw [e] at hc R
    rw [List.take_length] at R
    exact ⟨.ref s.heap.objs.size, _, I.laid (t' := tk) kp (Nat.le_refl _) (setO_new R), rfl, q _ c (I.hok.fresh (Nat.le_refl _)) hc⟩
/-- among these texts -/
def inS (xs : List Str) : Key → Bool
  | .inl _ => false
  | .inr x => decide (x ∈ xs)
/-- set(t), t a tuple of different texts -/
def rSetS (K : PySem.W.Frag) (P : Program) (w : World) : List V → Hp → VK → Prop := fun vs H Q => ∃ (l : Addr) (xs : List Str), vs = [V.ref l] ∧ SqT K H l (xs.map V.str) ∧ xs.length < 60 ∧ xs.Nodup ∧
  ∀ a, H a = none → Q (.ref a) (upd H a (SetK P w a (inS xs) xs.length))
theorem cr_setS (calm : X.calm = true) : CallR X (.type "set") (rSetS X.K X.prog X.w) := by
  intro pins s σ H vs us Q I r h
  obtain ⟨l, xs, rfl, hq, hz, nd, q⟩ := h
  rw [Vals.ref1 r]
  obtain ⟨its, rv, pl, _⟩ := I.tuple hq
  have hlen : its.length = xs.length := by rw [← rv.length, List.length_map]
  refine set_of_tuple (P := X.prog) (w := X.w) (fun i g => i ≤ xs.length ∧ g.SetOf (mixKind X.prog X.w) s.heap.objs.size (inS (xs.take i)) i) (I.ok.hd calm) pl (fun g e => ⟨Nat.zero_le _, ?_⟩) (fun i g g' ⟨hc, R⟩ k => ⟨hc, setOf_at R k⟩)
    (fun i v A s1 Q1 E1 hv ⟨hc, R⟩ k => ?_) fun g tk ⟨hc, R⟩ kp => ?_
  · exact ⟨_, #[], 0, _, e, ⟨rfl, rfl, rfl⟩, rfl, (fun z hz => by simp at hz), (fun z => by cases z <;> simp [inS]), (by decide), (by rfl), rfl⟩
  · have hv2 : its[i]? = some v := by simpa using hv
    have hi : i < xs.length := by rw [← hlen]; exact (List.getElem?_eq_some_iff.mp hv2).1
    obtain ⟨u, e1, e2⟩ := rv.get (x := .str xs[i]) (i := i) (by rw [List.getElem?_map, List.getElem?_eq_getElem hi] <;> rfl)
    rw [hv2] at e1
    cases e1
    have hk : (mixKind X.prog X.w).is (Sum.inr xs[i]) v = true := kV_is (k := Sum.inr xs[i]) e2
    unfold setAdd
    refine wpAny_holding (wpAny_bind ((mixKind X.prog X.w).pyHash hk ?_))
    refine wpAny_setAddHashed_of (s := { s1 with toks := s1.toks + 1 }) hk (key_scan (k := Sum.inr xs[i]) e2) R (by unfold scanBound; omega) fun g sb R2 => k _ g sb ⟨hi, ?_⟩
    have nin : xs[i] ∉ xs.take i := fun z => by
      obtain ⟨m, hm, em⟩ := List.mem_take_iff_getElem.mp z
      have := (List.getElem_inj nd).mp em
      omega
    have e2 : inS (xs.take i) (Sum.inr xs[i]) = false := decide_eq_false nin
    rw [e2] at R2
    have e3 : (fun k' : Key => inS (xs.take i) k' || decide (k' = Sum.inr xs[i])) = inS (xs.take (i + 1)) := funext fun k' => by
      have e : xs.take (i + 1) = xs.take i ++ [xs[i]] := by rw [List.take_add_one, List.getElem?_eq_getElem hi] <;> rfl
      rw [e]
      cases k' with
      | inl n =>
        have z : ¬ ((Sum.inl n : Key) = Sum.inr xs[i]) := fun z => by cases z
        rw [decide_eq_false z] <;> rfl
      | inr x =>
        show (decide (x ∈ xs.take i) || decide ((Sum.inr x : Key) = Sum.inr xs[i])) = decide (x ∈ xs.take i ++ [xs[i]])
        have z : decide ((Sum.inr x : Key) = Sum.inr xs[i]) = decide (x = xs[i]) := decide_eq_decide.mpr ⟨Sum.inr.inj, congrArg _⟩
        rw [z]
        simp only [List.mem_append, List.mem_singleton, Bool.decide_or]
    rw [e3] at R2
    exact R2
  · have e : its.toArray.size = xs.length := by rw [List.size_toArray, hlen]
    rw [e, List.take_length] at R
    exact ⟨.ref s.heap.objs.size, _, I.laid (t' := tk) kp (Nat.le_refl _) (setK_new R), rfl, q _ (I.hok.fresh (Nat.le_refl _))⟩
/-- len(s) of such a set of texts; of a set of tuples -/
def rLenK (P : Program) (w : World) : List V → Hp → VK → Prop := fun vs H Q => ∃ (a : Addr) (S : Key → Bool) (n : Nat), vs = [V.ref a] ∧ H a = some (SetK P w a S n) ∧ n < 1000 ∧ Q (.int n) H
theorem call_lenK : CallR X (.builtin "len") (rLenK X.prog X.w) := by
  intro pins s σ H vs us Q I r h
  obtain ⟨a, S, n, rfl, ha, hn, q⟩ := h
  rw [Vals.ref1 r]
  obtain ⟨o, es, ep, t, ho, hex, hd, _, _, _, hf, e⟩ := setK_get I ha
  exact call_len_set ho hex hd hf (by rw [e]; omega) ⟨.int n, H, I.tok _, ⟨_, by rw [e]⟩, q⟩
def rLenT (P : Program) (w : World) : List V → Hp → VK → Prop := fun vs H Q => ∃ (a : Addr) (L : List (Addr × List Int)), vs = [V.ref a] ∧ H a = some (SetTO P w a L) ∧ ((L.map (·.2)).Nodup → Q (.int L.length) H)
theorem call_lenT : CallR X (.builtin "len") (rLenT X.prog X.w) := by
  intro pins s σ H vs us Q I r h
  obtain ⟨a, L, rfl, ha, q⟩ := h
  rw [Vals.ref1 r]
  have R0 : SetT0 X.prog X.w s.heap a L := (I.hok a _ ha).1
  obtain ⟨es, ep, t, ⟨o, ho, hex, hd⟩, rows, tab, nd, _, _, _, few⟩ := R0.ex
  have e : es.size = L.length := by
    rw [← Array.length_toList, rows]
    unfold rowsOf
    rw [List.length_map]
  have hf : t.fits es.size = true := by
    unfold SetTable.fits SetTable.fill
    rw [tab.dm, tab.sz, e, List.length_map]
    simp
    omega
  exact call_len_set ho hex hd hf (by rw [e]; omega) ⟨.int L.length, H, I.tok _, ⟨_, by rw [e]⟩, q nd⟩
end
end OP
namespace OP
open PySem PySem.Spec PyProof.Rows L2
/-! ### changes that are no If -/
inductive Kind where
  | put | move | add | addslot | rais | lower
deriving DecidableEq
def Kind.src : Kind → Bool
  | .move => true
  | .addslot => true
  | _ => false
def Kind.fld (k : Kind) : Str := if k.src = true then "source" else "value"
def Kind.cls (K : PySem.W.Frag) : Kind → Addr
  | .put => c_Put K
  | .move => c_Move K
  | .add => c_Add K
  | .addslot => c_AddSlot K
  | .rais => c_Raise K
  | .lower => c_Lower K
structure One where
  k : Kind
  s : Nat
  v : Nat
deriving DecidableEq
structure One.Ok (o : One) : Prop where
  s2 : o.s ≤ 2
  v7 : o.v ≤ 7
  v2 : o.k.src = true → o.v ≤ 2
  ne : o.k = .move → o.v ≠ o.s
def One.flds (o : One) : List (Str × V) := [("slot", .int o.s), (o.k.fld, .int o.v)]
def OneAt (K : PySem.W.Frag) (H : Hp) (a : Addr) (o : One) : Prop := ∃ dx, H a = some (.ins (o.k.cls K) dx o.flds)
/-- the two in order, once if they are one -/
def two (a b : Nat) : List Int := if a = b then [(a : Int)] else if a < b then [(a : Int), (b : Int)] else [(b : Int), (a : Int)]
def One.slots (o : One) : List Int := if o.k.src = true then two o.s o.v else [(o.s : Int)]
def One.val (o : One) (xs : List Int) : Int := match o.k with
  | .put => o.v
  | .move => xs.getD o.v 0
  | .add => (xs.getD o.s 0 + o.v) % 8
  | .addslot => (xs.getD o.s 0 + xs.getD o.v 0) % 8
  | .rais => if (o.v : Int) > xs.getD o.s 0 then o.v else xs.getD o.s 0
  | .lower => if (o.v : Int) < xs.getD o.s 0 then o.v else xs.getD o.s 0
def One.app (o : One) (xs : List Int) : List Int := xs.set o.s (o.val xs)
theorem putF2 {f g : Str} {x y : V} (h : f ≠ g) : putF g y (putF f x []) = [(f, x), (g, y)] := by
  show (if f = g then (f, y) :: [] else (f, x) :: putF g y []) = _
  rw [if_neg h] <;> rfl
theorem look1 {f g : Str} {x y : V} : ([(f, x), (g, y)] : List (Str × V)).lookup f = some x := by simp [List.lookup]
theorem look2 {f g : Str} {x y : V} (h : g ≠ f) : ([(f, x), (g, y)] : List (Str × V)).lookup g = some y := by
  have e : (g == f) = false := beq_eq_false_iff_ne.mpr h
  simp [List.lookup, e]
theorem slot_value : ("slot" : Str) ≠ "value" := by decide +kernel
theorem slot_source : ("slot" : Str) ≠ "source" := by decide +kernel
theorem getD_at {xs : List Int} {i : Nat} (h : i < xs.length) : xs[i]? = some (xs.getD i 0) := by rw [List.getD_eq_getElem?_getD, List.getElem?_eq_getElem h] <;> rfl
theorem at_int {xs : List Int} {i : Nat} (h : i < xs.length) : atI (xs.map V.int) (i : Int) = some (.int (xs.getD i 0)) := atI_nat (by rw [List.getElem?_map, getD_at h] <;> rfl)
theorem lt_uniq : ∀ {xs ys : List Int}, xs.Pairwise (· < ·) → ys.Pairwise (· < ·) → (∀ z, z ∈ xs ↔ z ∈ ys) → xs = ys
  | [], [], _, _, _ => rfl
  | [], y :: ys, _, _, h => absurd ((h y).mpr List.mem_cons_self) (by simp)
  | x :: xs, [], _, _, h => absurd ((h x).mp List.mem_cons_self) (by simp)
  | x :: xs, y :: ys, hx, hy, h => by
    obtain ⟨h1, h2⟩ := List.pairwise_cons.mp hx
    obtain ⟨h3, h4⟩ := List.pairwise_cons.mp hy
    have e : x = y := by
      rcases List.mem_cons.mp ((h x).mp List.mem_cons_self) with z | z
      · exact z
      · rcases List.mem_cons.mp ((h y).mpr List.mem_cons_self) with q | q
        · exact q.symm
        · have a := h3 x z
          have b := h1 y q
          omega
    subst e
    rw [lt_uniq h2 h4 fun z => ⟨fun q => ?_, fun q => ?_⟩]
    · rcases List.mem_cons.mp ((h z).mp (List.mem_cons_of_mem _ q)) with r | r
      · have := h1 z q
        omega
      · exact r
    · rcases List.mem_cons.mp ((h z).mpr (List.mem_cons_of_mem _ q)) with r | r
      · have := h3 z q
        omega
      · exact r
theorem two_lt (s v : Nat) : (two s v).Pairwise (· < ·) := by
  unfold two
  split
  · simp
  · split
    · simp; omega
    · simp; omega
theorem two_mem {s v : Nat} {z : Int} : z ∈ two s v ↔ z ∈ [(s : Int), (v : Int)] := by
  unfold two
  split
  · rename_i h
    subst h
    simp
  · split
    · simp
    · simp only [List.mem_cons, List.not_mem_nil, or_false]
      exact or_comm
theorem two_set {s v : Nat} {ns : List Int} (srt : ns.Pairwise (· < ·)) (mem : ∀ z, z ∈ ns ↔ z ∈ [(s : Int), (v : Int)]) : ns = two s v := lt_uniq srt (two_lt s v) fun z => (mem z).trans two_mem.symm
theorem two_perm {s v : Nat} {ns : List Int} (ne : s ≠ v) (pm : ns.Perm [(s : Int), (v : Int)]) (srt : ns.Pairwise (· ≤ ·)) : ns = two s v := by
  have nd : ns.Nodup := pm.nodup_iff.mpr (by simp; omega)
  exact two_set (lt_of_le_nodup ns srt nd) fun z => pm.mem_iff
section
variable {P : Program} {w : World} {K : PySem.W.Frag} {mg : Str → Option Value} {base : Heap}
def spInit (C : Addr) (k : Kind) : Sp := fun vs H Q _ => ∃ (p dx : Addr) (s v : Nat), vs = [.ref p, .int s, .int v] ∧ One.Ok ⟨k, s, v⟩ ∧ H p = some (.ins C dx []) ∧
  ∀ H', (∀ b u, b ≠ p → H b = some u → H' b = some u) → H' p = some (.ins C dx (One.flds ⟨k, s, v⟩)) → Q .non H'
def spSlots (K : PySem.W.Frag) (k : Kind) : Sp := fun vs H Q _ => ∃ (a : Addr) (s v : Nat), vs = [.ref a] ∧ OneAt K H a ⟨k, s, v⟩ ∧ One.Ok ⟨k, s, v⟩ ∧ ∀ r H', Same H H' → H' r = some (.lst ((One.slots ⟨k, s, v⟩).map V.int)) → Q (.ref r) H'
def spApply (K : PySem.W.Frag) (k : Kind) : Sp := fun vs H Q _ => ∃ (a st : Addr) (s v : Nat) (xs : List Int), vs = [.ref a, .ref st] ∧ OneAt K H a ⟨k, s, v⟩ ∧ One.Ok ⟨k, s, v⟩ ∧ H st = some (.tup (xs.map V.int)) ∧ StoreOk xs ∧
  (∀ n ∈ One.slots ⟨k, s, v⟩, n < (xs.length : Int)) ∧ ∀ r H', Same H H' → H' r = some (.tup ((One.app ⟨k, s, v⟩ xs).map V.int)) → Q (.ref r) H'
def spEqOne (K : PySem.W.Frag) (k : Kind) : Sp := fun vs H Q _ => ∃ (a b : Addr) (s v : Nat), vs = [.ref a, .ref b] ∧ OneAt K H a ⟨k, s, v⟩ ∧ OneAt K H b ⟨k, s, v⟩ ∧ Q (.bl true) H
/-! Put -/
theorem sc_Put_init : FnScope ["self", "slot", "value"] ["self", "slot", "value"] (defScope s_Put_init) := ⟨rfl, rfl, rfl, by decide +kernel, rfl, by decide +kernel, by decide +kernel⟩
theorem ok_Put_init (T : Txt K mg) : Ok P w K mg base (a_Put_init K) ["self", "slot", "value"] 3 (spInit (c_Put K) .put) := by
  have GS : Ok P w K mg base (a_check_slot K) _ 2 (spCheck 2) := ok_check_slot T
  have GV : Ok P w K mg base (a_check_value K) _ 2 (spCheck 7) := ok_check_value T
  refine ok_of T.f_Put_init sc_Put_init (fun _ _ _ _ _ _ us hl => match us, hl with | [_, _, _], _ => rfl) (fun vs H Q E h => ?_) (fun cdv A outer s0 H vs Q E hr h => ?_)
  · obtain ⟨p, dx, s, v, rfl, _⟩ := h
    rfl
  · obtain ⟨p, dx, s, v, rfl, ⟨hs, hv, hv2, hne⟩, hp, k⟩ := h
    have b1 : (0 : Int) ≤ (s : Int) := Int.natCast_nonneg _
    have b2 : (s : Int) ≤ 2 := Int.ofNat_le.mpr hs
    have b3 : (0 : Int) ≤ (v : Int) := Int.natCast_nonneg _
    have b4 : (v : Int) ≤ 7 := Int.ofNat_le.mpr hv
    refine ⟨_, pss_cons (ps_expr (pe_c GS hr T.g_check_slot (pa_cons (pv 1) pa_nil))) (pss_cons (ps_expr (pe_c GV hr T.g_check_value (pa_cons (pv 2) pa_nil))) (pss_cons (ps_fld (pv 0) (pv 1) rfl) (pss_one (ps_fld (pv 0) (pv 2) rfl)))), ?_⟩
    refine ⟨_, rfl, s, rfl, b1, b2, _, rfl, v, rfl, b3, b4, _, rfl, _, rfl, p, c_Put K, dx, [], rfl, hp, T.o_Put.cl, T.n_Put_slot, (by show 0 < 1000; decide), _, rfl, _, rfl, p, c_Put K, dx, _, rfl, upd_same, T.o_Put.cl, T.n_Put_value, (by show 1 < 1000; decide), ?_⟩
    refine k _ (fun b u hb e => ?_) ?_
    · rw [upd_ne hb, upd_ne hb]
      exact e
    · rw [upd_same, putF2 slot_value] <;> rfl
theorem sc_Put_slots : FnScope ["self"] ["self"] (defScope s_Put_slots) := ⟨rfl, rfl, rfl, by decide +kernel, rfl, by decide +kernel, by decide +kernel⟩
theorem ok_Put_slots (T : Txt K mg) : Ok P w K mg base (a_Put_slots K) ["self"] 1 (spSlots K .put) := by
  refine ok_of T.f_Put_slots sc_Put_slots (fun _ _ _ _ _ _ us hl => match us, hl with | [_], _ => rfl) (fun vs H Q E h => ?_) (fun cdv A outer s0 H vs Q E hr h => ?_)
  · obtain ⟨a, s, v, rfl, _⟩ := h
    rfl
  · obtain ⟨a, s, v, rfl, ⟨dx, ha⟩, ok, k⟩ := h
    refine ⟨_, pss_one (ps_ret (pe_lst (pa_cons (pe_fld (pv 0) rfl) pa_nil))), ?_⟩
    refine ⟨_, rfl, a, c_Put K, dx, _, _, rfl, ha, T.o_Put.cl, T.n_Put_slot, look1, (by show 1 ≤ sizeLine; decide), fun l hl => ?_⟩
    exact k l _ (same_upd hl) upd_same
theorem sc_Put_eq : FnScope ["self", "other"] ["self", "other"] (defScope s_Put_eq) := ⟨rfl, rfl, rfl, by decide +kernel, rfl, by decide +kernel, by decide +kernel⟩
theorem kit_Put {K : PySem.W.Frag} : PySem.W.kitOne K (.ref (c_Put K)) (.ref (c_Put K)) = some true := by
  unfold PySem.W.kitOne
  rw [if_pos (by simp)]
theorem ok_Put_eq (T : Txt K mg) : Ok P w K mg base (a_Put_eq K) ["self", "other"] 1 (spEqOne K .put) := by
  refine ok_of T.f_Put_eq sc_Put_eq (fun _ _ _ _ _ _ us hl => match us, hl with | [_, _], _ => rfl) (fun vs H Q E h => ?_) (fun cdv A outer s0 H vs Q E hr h => ?_)
  · obtain ⟨a, b, s, v, rfl, _⟩ := h
    rfl
  · obtain ⟨a, b, s, v, rfl, ⟨dx, ha⟩, ⟨dy, hb⟩, k⟩ := h
    refine ⟨_, pss_one (ps_ret (pe_and (pe_callB call_isi (by rfl) T.z_isinstance (by decide +kernel) (pa_cons (pv 1) (pa_cons (pe_glob (v := .ref (c_Put K)) (by rfl) T.g_Put rfl) pa_nil)))
      (pe_and (pe_cmpR op_eq (pe_fld (pv 0) rfl) (pe_fld (pv 1) rfl) (nomark _)) (pe_one (pe_cmpR op_eq (pe_fld (pv 0) rfl) (pe_fld (pv 1) rfl) (nomark _)))))), ?_⟩
    refine ⟨_, rfl, _, _, _, _, true, rfl, .own (c_Put K), T.o_Put.ty hb, kit_Put, true, rfl, iteT ?_⟩
    refine ⟨_, rfl, a, c_Put K, dx, _, _, rfl, ha, T.o_Put.cl, T.n_Put_slot, look1, _, rfl, b, c_Put K, dy, _, _, rfl, hb, T.o_Put.cl, T.n_Put_slot, look1, rfl, true, congrArg V.bl (decide_eq_true rfl), iteT ?_⟩
    refine ⟨_, rfl, a, c_Put K, dx, _, _, rfl, ha, T.o_Put.cl, T.n_Put_value, look2 slot_value.symm, _, rfl, b, c_Put K, dy, _, _, rfl, hb, T.o_Put.cl, T.n_Put_value, look2 slot_value.symm, rfl, ?_⟩
    have e : decide (V.int (v : Int) = V.int (v : Int)) = true := decide_eq_true rfl
    show Q (.bl (decide (V.int (v : Int) = V.int (v : Int)))) H
    rw [e]
    exact k
/-! Move -/
theorem sc_Move_init : FnScope ["self", "slot", "source"] ["self", "slot", "source"] (defScope s_Move_init) := ⟨rfl, rfl, rfl, by decide +kernel, rfl, by decide +kernel, by decide +kernel⟩
theorem ok_Move_init (T : Txt K mg) : Ok P w K mg base (a_Move_init K) ["self", "slot", "source"] 3 (spInit (c_Move K) .move) := by
  have GS : Ok P w K mg base (a_check_slot K) _ 2 (spCheck 2) := ok_check_slot T
  have GV : Ok P w K mg base (a_check_value K) _ 2 (spCheck 7) := ok_check_value T
  refine ok_of T.f_Move_init sc_Move_init (fun _ _ _ _ _ _ us hl => match us, hl with | [_, _, _], _ => rfl) (fun vs H Q E h => ?_) (fun cdv A outer s0 H vs Q E hr h => ?_)
  · obtain ⟨p, dx, s, v, rfl, _⟩ := h
    rfl
  · obtain ⟨p, dx, s, v, rfl, ⟨hs, hv, hv2, hne⟩, hp, k⟩ := h
    have b1 : (0 : Int) ≤ (s : Int) := Int.natCast_nonneg _
    have b2 : (s : Int) ≤ 2 := Int.ofNat_le.mpr hs
    have b3 : (0 : Int) ≤ (v : Int) := Int.natCast_nonneg _
    have b4 : (v : Int) ≤ 7 := Int.ofNat_le.mpr hv
    have b5 : (v : Int) ≤ 2 := Int.ofNat_le.mpr (hv2 rfl)
    have ne : ¬ (V.int (s : Int) = V.int (v : Int)) := fun z => hne rfl (Int.ofNat.inj (V.int.inj z)).symm
    refine ⟨_, pss_cons (ps_expr (pe_c GS hr T.g_check_slot (pa_cons (pv 1) pa_nil))) (pss_cons (ps_expr (pe_c GS hr T.g_check_slot (pa_cons (pv 2) pa_nil))) (pss_cons (ps_if (pt_cmpR op_eq (pv 1) (pv 2) (nomark _)) (pss_one ps_never) pss_nil) (pss_cons (ps_fld (pv 0) (pv 1) rfl) (pss_one (ps_fld (pv 0) (pv 2) rfl))))), ?_⟩
    refine ⟨_, rfl, s, rfl, b1, b2, _, rfl, v, rfl, b3, b5, _, rfl, _, rfl, rfl, false, congrArg V.bl (decide_eq_false ne), iteF ?_⟩
    refine ⟨_, rfl, _, rfl, p, c_Move K, dx, [], rfl, hp, T.o_Move.cl, T.n_Move_slot, (by show 0 < 1000; decide), _, rfl, _, rfl, p, c_Move K, dx, _, rfl, upd_same, T.o_Move.cl, T.n_Move_source, (by show 1 < 1000; decide), ?_⟩
    refine k _ (fun b u hb e => ?_) ?_
    · rw [upd_ne hb, upd_ne hb]
      exact e
    · rw [upd_same, putF2 slot_source] <;> rfl
theorem sc_Move_slots : FnScope ["self"] ["self"] (defScope s_Move_slots) := ⟨rfl, rfl, rfl, by decide +kernel, rfl, by decide +kernel, by decide +kernel⟩
theorem ok_Move_slots (T : Txt K mg) : Ok P w K mg base (a_Move_slots K) ["self"] 1 (spSlots K .move) := by
  refine ok_of T.f_Move_slots sc_Move_slots (fun _ _ _ _ _ _ us hl => match us, hl with | [_], _ => rfl) (fun vs H Q E h => ?_) (fun cdv A outer s0 H vs Q E hr h => ?_)
  · obtain ⟨a, s, v, rfl, _⟩ := h
    rfl
  · obtain ⟨a, s, v, rfl, ⟨dx, ha⟩, ok, k⟩ := h
    refine ⟨_, pss_one (ps_ret (pe_callB cr_sorted (by rfl) T.z_sorted (by decide +kernel) (pa_cons (pe_lst (pa_cons (pe_fld (pv 0) rfl) (pa_cons (pe_fld (pv 0) rfl) pa_nil))) pa_nil))), ?_⟩
    refine ⟨_, rfl, a, c_Move K, dx, _, _, rfl, ha, T.o_Move.cl, T.n_Move_slot, look1, _, rfl, a, c_Move K, dx, _, _, rfl, ha, T.o_Move.cl, T.n_Move_source, look2 slot_source.symm, (by show 2 ≤ sizeLine; decide), fun l hl => ?_⟩
    refine ⟨l, [(s : Int), (v : Int)], rfl, SqL.of upd_same, (by show 2 < 64; decide), fun ns p pm srt hp => ?_⟩
    refine k p _ ((same_upd hl).trans (same_upd hp)) ?_
    have e : ns = two s v := two_perm (fun z => ok.ne rfl z.symm) pm srt
    rw [upd_same, e] <;> rfl
theorem sc_Move_eq : FnScope ["self", "other"] ["self", "other"] (defScope s_Move_eq) := ⟨rfl, rfl, rfl, by decide +kernel, rfl, by decide +kernel, by decide +kernel⟩
theorem kit_Move {K : PySem.W.Frag} : PySem.W.kitOne K (.ref (c_Move K)) (.ref (c_Move K)) = some true := by
  unfold PySem.W.kitOne
  rw [if_pos (by simp)]
theorem ok_Move_eq (T : Txt K mg) : Ok P w K mg base (a_Move_eq K) ["self", "other"] 1 (spEqOne K .move) := by
  refine ok_of T.f_Move_eq sc_Move_eq (fun _ _ _ _ _ _ us hl => match us, hl with | [_, _], _ => rfl) (fun vs H Q E h => ?_) (fun cdv A outer s0 H vs Q E hr h => ?_)
  · obtain ⟨a, b, s, v, rfl, _⟩ := h
    rfl
  · obtain ⟨a, b, s, v, rfl, ⟨dx, ha⟩, ⟨dy, hb⟩, k⟩ := h
    refine ⟨_, pss_one (ps_ret (pe_and (pe_callB call_isi (by rfl) T.z_isinstance (by decide +kernel) (pa_cons (pv 1) (pa_cons (pe_glob (v := .ref (c_Move K)) (by rfl) T.g_Move rfl) pa_nil)))
      (pe_and (pe_cmpR op_eq (pe_fld (pv 0) rfl) (pe_fld (pv 1) rfl) (nomark _)) (pe_one (pe_cmpR op_eq (pe_fld (pv 0) rfl) (pe_fld (pv 1) rfl) (nomark _)))))), ?_⟩
    refine ⟨_, rfl, _, _, _, _, true, rfl, .own (c_Move K), T.o_Move.ty hb, kit_Move, true, rfl, iteT ?_⟩
    refine ⟨_, rfl, a, c_Move K, dx, _, _, rfl, ha, T.o_Move.cl, T.n_Move_slot, look1, _, rfl, b, c_Move K, dy, _, _, rfl, hb, T.o_Move.cl, T.n_Move_slot, look1, rfl, true, congrArg V.bl (decide_eq_true rfl), iteT ?_⟩
    refine ⟨_, rfl, a, c_Move K, dx, _, _, rfl, ha, T.o_Move.cl, T.n_Move_source, look2 slot_source.symm, _, rfl, b, c_Move K, dy, _, _, rfl, hb, T.o_Move.cl, T.n_Move_source, look2 slot_source.symm, rfl, ?_⟩
    have e : decide (V.int (v : Int) = V.int (v : Int)) = true := decide_eq_true rfl
    show Q (.bl (decide (V.int (v : Int) = V.int (v : Int)))) H
    rw [e]
    exact k
/-! Add -/
theorem sc_Add_init : FnScope ["self", "slot", "value"] ["self", "slot", "value"] (defScope s_Add_init) := ⟨rfl, rfl, rfl, by decide +kernel, rfl, by decide +kernel, by decide +kernel⟩
theorem ok_Add_init (T : Txt K mg) : Ok P w K mg base (a_Add_init K) ["self", "slot", "value"] 3 (spInit (c_Add K) .add) := by
  have GS : Ok P w K mg base (a_check_slot K) _ 2 (spCheck 2) := ok_check_slot T
  have GV : Ok P w K mg base (a_check_value K) _ 2 (spCheck 7) := ok_check_value T
  refine ok_of T.f_Add_init sc_Add_init (fun _ _ _ _ _ _ us hl => match us, hl with | [_, _, _], _ => rfl) (fun vs H Q E h => ?_) (fun cdv A outer s0 H vs Q E hr h => ?_)
  · obtain ⟨p, dx, s, v, rfl, _⟩ := h
    rfl
  · obtain ⟨p, dx, s, v, rfl, ⟨hs, hv, hv2, hne⟩, hp, k⟩ := h
    have b1 : (0 : Int) ≤ (s : Int) := Int.natCast_nonneg _
    have b2 : (s : Int) ≤ 2 := Int.ofNat_le.mpr hs
    have b3 : (0 : Int) ≤ (v : Int) := Int.natCast_nonneg _
    have b4 : (v : Int) ≤ 7 := Int.ofNat_le.mpr hv
    refine ⟨_, pss_cons (ps_expr (pe_c GS hr T.g_check_slot (pa_cons (pv 1) pa_nil))) (pss_cons (ps_expr (pe_c GV hr T.g_check_value (pa_cons (pv 2) pa_nil))) (pss_cons (ps_fld (pv 0) (pv 1) rfl) (pss_one (ps_fld (pv 0) (pv 2) rfl)))), ?_⟩
    refine ⟨_, rfl, s, rfl, b1, b2, _, rfl, v, rfl, b3, b4, _, rfl, _, rfl, p, c_Add K, dx, [], rfl, hp, T.o_Add.cl, T.n_Add_slot, (by show 0 < 1000; decide), _, rfl, _, rfl, p, c_Add K, dx, _, rfl, upd_same, T.o_Add.cl, T.n_Add_value, (by show 1 < 1000; decide), ?_⟩
    refine k _ (fun b u hb e => ?_) ?_
    · rw [upd_ne hb, upd_ne hb]
      exact e
    · rw [upd_same, putF2 slot_value] <;> rfl
theorem sc_Add_slots : FnScope ["self"] ["self"] (defScope s_Add_slots) := ⟨rfl, rfl, rfl, by decide +kernel, rfl, by decide +kernel, by decide +kernel⟩
theorem ok_Add_slots (T : Txt K mg) : Ok P w K mg base (a_Add_slots K) ["self"] 1 (spSlots K .add) := by
  refine ok_of T.f_Add_slots sc_Add_slots (fun _ _ _ _ _ _ us hl => match us, hl with | [_], _ => rfl) (fun vs H Q E h => ?_) (fun cdv A outer s0 H vs Q E hr h => ?_)
  · obtain ⟨a, s, v, rfl, _⟩ := h
    rfl
  · obtain ⟨a, s, v, rfl, ⟨dx, ha⟩, ok, k⟩ := h
    refine ⟨_, pss_one (ps_ret (pe_lst (pa_cons (pe_fld (pv 0) rfl) pa_nil))), ?_⟩
    refine ⟨_, rfl, a, c_Add K, dx, _, _, rfl, ha, T.o_Add.cl, T.n_Add_slot, look1, (by show 1 ≤ sizeLine; decide), fun l hl => ?_⟩
    exact k l _ (same_upd hl) upd_same
theorem sc_Add_eq : FnScope ["self", "other"] ["self", "other"] (defScope s_Add_eq) := ⟨rfl, rfl, rfl, by decide +kernel, rfl, by decide +kernel, by decide +kernel⟩
theorem kit_Add {K : PySem.W.Frag} : PySem.W.kitOne K (.ref (c_Add K)) (.ref (c_Add K)) = some true := by
  unfold PySem.W.kitOne
  rw [if_pos (by simp)]
theorem ok_Add_eq (T : Txt K mg) : Ok P w K mg base (a_Add_eq K) ["self", "other"] 1 (spEqOne K .add) := by
  refine ok_of T.f_Add_eq sc_Add_eq (fun _ _ _ _ _ _ us hl => match us, hl with | [_, _], _ => rfl) (fun vs H Q E h => ?_) (fun cdv A outer s0 H vs Q E hr h => ?_)
  · obtain ⟨a, b, s, v, rfl, _⟩ := h
    rfl
  · obtain ⟨a, b, s, v, rfl, ⟨dx, ha⟩, ⟨dy, hb⟩, k⟩ := h
    refine ⟨_, pss_one (ps_ret (pe_and (pe_callB call_isi (by rfl) T.z_isinstance (by decide +kernel) (pa_cons (pv 1) (pa_cons (pe_glob (v := .ref (c_Add K)) (by rfl) T.g_Add rfl) pa_nil)))
      (pe_and (pe_cmpR op_eq (pe_fld (pv 0) rfl) (pe_fld (pv 1) rfl) (nomark _)) (pe_one (pe_cmpR op_eq (pe_fld (pv 0) rfl) (pe_fld (pv 1) rfl) (nomark _)))))), ?_⟩
    refine ⟨_, rfl, _, _, _, _, true, rfl, .own (c_Add K), T.o_Add.ty hb, kit_Add, true, rfl, iteT ?_⟩
    refine ⟨_, rfl, a, c_Add K, dx, _, _, rfl, ha, T.o_Add.cl, T.n_Add_slot, look1, _, rfl, b, c_Add K, dy, _, _, rfl, hb, T.o_Add.cl, T.n_Add_slot, look1, rfl, true, congrArg V.bl (decide_eq_true rfl), iteT ?_⟩
    refine ⟨_, rfl, a, c_Add K, dx, _, _, rfl, ha, T.o_Add.cl, T.n_Add_value, look2 slot_value.symm, _, rfl, b, c_Add K, dy, _, _, rfl, hb, T.o_Add.cl, T.n_Add_value, look2 slot_value.symm, rfl, ?_⟩
    have e : decide (V.int (v : Int) = V.int (v : Int)) = true := decide_eq_true rfl
    show Q (.bl (decide (V.int (v : Int) = V.int (v : Int)))) H
    rw [e]
    exact k
/-! AddSlot -/
theorem sc_AddSlot_init : FnScope ["self", "slot", "source"] ["self", "slot", "source"] (defScope s_AddSlot_init) := ⟨rfl, rfl, rfl, by decide +kernel, rfl, by decide +kernel, by decide +kernel⟩
theorem ok_AddSlot_init (T : Txt K mg) : Ok P w K mg base (a_AddSlot_init K) ["self", "slot", "source"] 3 (spInit (c_AddSlot K) .addslot) := by
  have GS : Ok P w K mg base (a_check_slot K) _ 2 (spCheck 2) := ok_check_slot T
  have GV : Ok P w K mg base (a_check_value K) _ 2 (spCheck 7) := ok_check_value T
  refine ok_of T.f_AddSlot_init sc_AddSlot_init (fun _ _ _ _ _ _ us hl => match us, hl with | [_, _, _], _ => rfl) (fun vs H Q E h => ?_) (fun cdv A outer s0 H vs Q E hr h => ?_)
  · obtain ⟨p, dx, s, v, rfl, _⟩ := h
    rfl
  · obtain ⟨p, dx, s, v, rfl, ⟨hs, hv, hv2, hne⟩, hp, k⟩ := h
    have b1 : (0 : Int) ≤ (s : Int) := Int.natCast_nonneg _
    have b2 : (s : Int) ≤ 2 := Int.ofNat_le.mpr hs
    have b3 : (0 : Int) ≤ (v : Int) := Int.natCast_nonneg _
    have b4 : (v : Int) ≤ 7 := Int.ofNat_le.mpr hv
    have b5 : (v : Int) ≤ 2 := Int.ofNat_le.mpr (hv2 rfl)
    refine ⟨_, pss_cons (ps_expr (pe_c GS hr T.g_check_slot (pa_cons (pv 1) pa_nil))) (pss_cons (ps_expr (pe_c GS hr T.g_check_slot (pa_cons (pv 2) pa_nil))) (pss_cons (ps_fld (pv 0) (pv 1) rfl) (pss_one (ps_fld (pv 0) (pv 2) rfl)))), ?_⟩
    refine ⟨_, rfl, s, rfl, b1, b2, _, rfl, v, rfl, b3, b5, _, rfl, _, rfl, p, c_AddSlot K, dx, [], rfl, hp, T.o_AddSlot.cl, T.n_AddSlot_slot, (by show 0 < 1000; decide), _, rfl, _, rfl, p, c_AddSlot K, dx, _, rfl, upd_same, T.o_AddSlot.cl, T.n_AddSlot_source, (by show 1 < 1000; decide), ?_⟩
    refine k _ (fun b u hb e => ?_) ?_
    · rw [upd_ne hb, upd_ne hb]
      exact e
    · rw [upd_same, putF2 slot_source] <;> rfl
theorem sc_AddSlot_slots : FnScope ["self"] ["self"] (defScope s_AddSlot_slots) := ⟨rfl, rfl, rfl, by decide +kernel, rfl, by decide +kernel, by decide +kernel⟩
theorem ok_AddSlot_slots (T : Txt K mg) : Ok P w K mg base (a_AddSlot_slots K) ["self"] 1 (spSlots K .addslot) := by
  refine ok_of T.f_AddSlot_slots sc_AddSlot_slots (fun _ _ _ _ _ _ us hl => match us, hl with | [_], _ => rfl) (fun vs H Q E h => ?_) (fun cdv A outer s0 H vs Q E hr h => ?_)
  · obtain ⟨a, s, v, rfl, _⟩ := h
    rfl
  · obtain ⟨a, s, v, rfl, ⟨dx, ha⟩, ok, k⟩ := h
    refine ⟨_, pss_one (ps_ret (pe_callB (cr_sortedSet rfl) (by rfl) T.z_sorted (by decide +kernel) (pa_cons (pe_callTy (cr_setI rfl) (by rfl) T.z_set (by decide +kernel) (pa_cons (pe_lst (pa_cons (pe_fld (pv 0) rfl) (pa_cons (pe_fld (pv 0) rfl) pa_nil))) pa_nil)) pa_nil))), ?_⟩
    refine ⟨_, rfl, a, c_AddSlot K, dx, _, _, rfl, ha, T.o_AddSlot.cl, T.n_AddSlot_slot, look1, _, rfl, a, c_AddSlot K, dx, _, _, rfl, ha, T.o_AddSlot.cl, T.n_AddSlot_source, look2 slot_source.symm, (by show 2 ≤ sizeLine; decide), fun l hl => ?_⟩
    refine ⟨l, [(s : Int), (v : Int)], rfl, SqL.of upd_same, (by show 2 < 60; decide), fun q c hq hc => ?_⟩
    refine ⟨q, _, c, rfl, upd_same, Nat.lt_of_le_of_lt hc (by show 2 < 64; decide), fun ns p srt mem _ hp => ?_⟩
    refine k p _ (((same_upd hl).trans (same_upd hq)).trans (same_upd hp)) ?_
    have e : ns = two s v := two_set srt fun z => (mem z).trans decide_eq_true_iff
    rw [upd_same, e] <;> rfl
theorem sc_AddSlot_eq : FnScope ["self", "other"] ["self", "other"] (defScope s_AddSlot_eq) := ⟨rfl, rfl, rfl, by decide +kernel, rfl, by decide +kernel, by decide +kernel⟩
theorem kit_AddSlot {K : PySem.W.Frag} : PySem.W.kitOne K (.ref (c_AddSlot K)) (.ref (c_AddSlot K)) = some true := by
  unfold PySem.W.kitOne
  rw [if_pos (by simp)]
theorem ok_AddSlot_eq (T : Txt K mg) : Ok P w K mg base (a_AddSlot_eq K) ["self", "other"] 1 (spEqOne K .addslot) := by
  refine ok_of T.f_AddSlot_eq sc_AddSlot_eq (fun _ _ _ _ _ _ us hl => match us, hl with | [_, _], _ => rfl) (fun vs H Q E h => ?_) (fun cdv A outer s0 H vs Q E hr h => ?_)
  · obtain ⟨a, b, s, v, rfl, _⟩ := h
    rfl
  · obtain ⟨a, b, s, v, rfl, ⟨dx, ha⟩, ⟨dy, hb⟩, k⟩ := h
    refine ⟨_, pss_one (ps_ret (pe_and (pe_callB call_isi (by rfl) T.z_isinstance (by decide +kernel) (pa_cons (pv 1) (pa_cons (pe_glob (v := .ref (c_AddSlot K)) (by rfl) T.g_AddSlot rfl) pa_nil)))
      (pe_and (pe_cmpR op_eq (pe_fld (pv 0) rfl) (pe_fld (pv 1) rfl) (nomark _)) (pe_one (pe_cmpR op_eq (pe_fld (pv 0) rfl) (pe_fld (pv 1) rfl) (nomark _)))))), ?_⟩
    refine ⟨_, rfl, _, _, _, _, true, rfl, .own (c_AddSlot K), T.o_AddSlot.ty hb, kit_AddSlot, true, rfl, iteT ?_⟩
    refine ⟨_, rfl, a, c_AddSlot K, dx, _, _, rfl, ha, T.o_AddSlot.cl, T.n_AddSlot_slot, look1, _, rfl, b, c_AddSlot K, dy, _, _, rfl, hb, T.o_AddSlot.cl, T.n_AddSlot_slot, look1, rfl, true, congrArg V.bl (decide_eq_true rfl), iteT ?_⟩
    refine ⟨_, rfl, a, c_AddSlot K, dx, _, _, rfl, ha, T.o_AddSlot.cl, T.n_AddSlot_source, look2 slot_source.symm, _, rfl, b, c_AddSlot K, dy, _, _, rfl, hb, T.o_AddSlot.cl, T.n_AddSlot_source, look2 slot_source.symm, rfl, ?_⟩
    have e : decide (V.int (v : Int) = V.int (v : Int)) = true := decide_eq_true rfl
    show Q (.bl (decide (V.int (v : Int) = V.int (v : Int)))) H
    rw [e]
    exact k
/-! Raise -/
theorem sc_Raise_init : FnScope ["self", "slot", "value"] ["self", "slot", "value"] (defScope s_Raise_init) := ⟨rfl, rfl, rfl, by decide +kernel, rfl, by decide +kernel, by decide +kernel⟩
theorem ok_Raise_init (T : Txt K mg) : Ok P w K mg base (a_Raise_init K) ["self", "slot", "value"] 3 (spInit (c_Raise K) .rais) := by
  have GS : Ok P w K mg base (a_check_slot K) _ 2 (spCheck 2) := ok_check_slot T
  have GV : Ok P w K mg base (a_check_value K) _ 2 (spCheck 7) := ok_check_value T
  refine ok_of T.f_Raise_init sc_Raise_init (fun _ _ _ _ _ _ us hl => match us, hl with | [_, _, _], _ => rfl) (fun vs H Q E h => ?_) (fun cdv A outer s0 H vs Q E hr h => ?_)
  · obtain ⟨p, dx, s, v, rfl, _⟩ := h
    rfl
  · obtain ⟨p, dx, s, v, rfl, ⟨hs, hv, hv2, hne⟩, hp, k⟩ := h
    have b1 : (0 : Int) ≤ (s : Int) := Int.natCast_nonneg _
    have b2 : (s : Int) ≤ 2 := Int.ofNat_le.mpr hs
    have b3 : (0 : Int) ≤ (v : Int) := Int.natCast_nonneg _
    have b4 : (v : Int) ≤ 7 := Int.ofNat_le.mpr hv
    refine ⟨_, pss_cons (ps_expr (pe_c GS hr T.g_check_slot (pa_cons (pv 1) pa_nil))) (pss_cons (ps_expr (pe_c GV hr T.g_check_value (pa_cons (pv 2) pa_nil))) (pss_cons (ps_fld (pv 0) (pv 1) rfl) (pss_one (ps_fld (pv 0) (pv 2) rfl)))), ?_⟩
    refine ⟨_, rfl, s, rfl, b1, b2, _, rfl, v, rfl, b3, b4, _, rfl, _, rfl, p, c_Raise K, dx, [], rfl, hp, T.o_Raise.cl, T.n_Raise_slot, (by show 0 < 1000; decide), _, rfl, _, rfl, p, c_Raise K, dx, _, rfl, upd_same, T.o_Raise.cl, T.n_Raise_value, (by show 1 < 1000; decide), ?_⟩
    refine k _ (fun b u hb e => ?_) ?_
    · rw [upd_ne hb, upd_ne hb]
      exact e
    · rw [upd_same, putF2 slot_value] <;> rfl
theorem sc_Raise_slots : FnScope ["self"] ["self"] (defScope s_Raise_slots) := ⟨rfl, rfl, rfl, by decide +kernel, rfl, by decide +kernel, by decide +kernel⟩
theorem ok_Raise_slots (T : Txt K mg) : Ok P w K mg base (a_Raise_slots K) ["self"] 1 (spSlots K .rais) := by
  refine ok_of T.f_Raise_slots sc_Raise_slots (fun _ _ _ _ _ _ us hl => match us, hl with | [_], _ => rfl) (fun vs H Q E h => ?_) (fun cdv A outer s0 H vs Q E hr h => ?_)
  · obtain ⟨a, s, v, rfl, _⟩ := h
    rfl
  · obtain ⟨a, s, v, rfl, ⟨dx, ha⟩, ok, k⟩ := h
    refine ⟨_, pss_one (ps_ret (pe_lst (pa_cons (pe_fld (pv 0) rfl) pa_nil))), ?_⟩
    refine ⟨_, rfl, a, c_Raise K, dx, _, _, rfl, ha, T.o_Raise.cl, T.n_Raise_slot, look1, (by show 1 ≤ sizeLine; decide), fun l hl => ?_⟩
    exact k l _ (same_upd hl) upd_same
theorem sc_Raise_eq : FnScope ["self", "other"] ["self", "other"] (defScope s_Raise_eq) := ⟨rfl, rfl, rfl, by decide +kernel, rfl, by decide +kernel, by decide +kernel⟩
theorem kit_Raise {K : PySem.W.Frag} : PySem.W.kitOne K (.ref (c_Raise K)) (.ref (c_Raise K)) = some true := by
  unfold PySem.W.kitOne
  rw [if_pos (by simp)]
theorem ok_Raise_eq (T : Txt K mg) : Ok P w K mg base (a_Raise_eq K) ["self", "other"] 1 (spEqOne K .rais) := by
  refine ok_of T.f_Raise_eq sc_Raise_eq (fun _ _ _ _ _ _ us hl => match us, hl with | [_, _], _ => rfl) (fun vs H Q E h => ?_) (fun cdv A outer s0 H vs Q E hr h => ?_)
  · obtain ⟨a, b, s, v, rfl, _⟩ := h
    rfl
  · obtain ⟨a, b, s, v, rfl, ⟨dx, ha⟩, ⟨dy, hb⟩, k⟩ := h
    refine ⟨_, pss_one (ps_ret (pe_and (pe_callB call_isi (by rfl) T.z_isinstance (by decide +kernel) (pa_cons (pv 1) (pa_cons (pe_glob (v := .ref (c_Raise K)) (by rfl) T.g_Raise rfl) pa_nil)))
      (pe_and (pe_cmpR op_eq (pe_fld (pv 0) rfl) (pe_fld (pv 1) rfl) (nomark _)) (pe_one (pe_cmpR op_eq (pe_fld (pv 0) rfl) (pe_fld (pv 1) rfl) (nomark _)))))), ?_⟩
    refine ⟨_, rfl, _, _, _, _, true, rfl, .own (c_Raise K), T.o_Raise.ty hb, kit_Raise, true, rfl, iteT ?_⟩
    refine ⟨_, rfl, a, c_Raise K, dx, _, _, rfl, ha, T.o_Raise.cl, T.n_Raise_slot, look1, _, rfl, b, c_Raise K, dy, _, _, rfl, hb, T.o_Raise.cl, T.n_Raise_slot, look1, rfl, true, congrArg V.bl (decide_eq_true rfl), iteT ?_⟩
    refine ⟨_, rfl, a, c_Raise K, dx, _, _, rfl, ha, T.o_Raise.cl, T.n_Raise_value, look2 slot_value.symm, _, rfl, b, c_Raise K, dy, _, _, rfl, hb, T.o_Raise.cl, T.n_Raise_value, look2 slot_value.symm, rfl, ?_⟩
    have e : decide (V.int (v : Int) = V.int (v : Int)) = true := decide_eq_true rfl
    show Q (.bl (decide (V.int (v : Int) = V.int (v : Int)))) H
    rw [e]
    exact k
/-! Lower -/
theorem sc_Lower_init : FnScope ["self", "slot", "value"] ["self", "slot", "value"] (defScope s_Lower_init) := ⟨rfl, rfl, rfl, by decide +kernel, rfl, by decide +kernel, by decide +kernel⟩
theorem ok_Lower_init (T : Txt K mg) : Ok P w K mg base (a_Lower_init K) ["self", "slot", "value"] 3 (spInit (c_Lower K) .lower) := by
  have GS : Ok P w K mg base (a_check_slot K) _ 2 (spCheck 2) := ok_check_slot T
  have GV : Ok P w K mg base (a_check_value K) _ 2 (spCheck 7) := ok_check_value T
  refine ok_of T.f_Lower_init sc_Lower_init (fun _ _ _ _ _ _ us hl => match us, hl with | [_, _, _], _ => rfl) (fun vs H Q E h => ?_) (fun cdv A outer s0 H vs Q E hr h => ?_)
  · obtain ⟨p, dx, s, v, rfl, _⟩ := h
    rfl
  · obtain ⟨p, dx, s, v, rfl, ⟨hs, hv, hv2, hne⟩, hp, k⟩ := h
    have b1 : (0 : Int) ≤ (s : Int) := Int.natCast_nonneg _
    have b2 : (s : Int) ≤ 2 := Int.ofNat_le.mpr hs
    have b3 : (0 : Int) ≤ (v : Int) := Int.natCast_nonneg _
    have b4 : (v : Int) ≤ 7 := Int.ofNat_le.mpr hv
    refine ⟨_, pss_cons (ps_expr (pe_c GS hr T.g_check_slot (pa_cons (pv 1) pa_nil))) (pss_cons (ps_expr (pe_c GV hr T.g_check_value (pa_cons (pv 2) pa_nil))) (pss_cons (ps_fld (pv 0) (pv 1) rfl) (pss_one (ps_fld (pv 0) (pv 2) rfl)))), ?_⟩
    refine ⟨_, rfl, s, rfl, b1, b2, _, rfl, v, rfl, b3, b4, _, rfl, _, rfl, p, c_Lower K, dx, [], rfl, hp, T.o_Lower.cl, T.n_Lower_slot, (by show 0 < 1000; decide), _, rfl, _, rfl, p, c_Lower K, dx, _, rfl, upd_same, T.o_Lower.cl, T.n_Lower_value, (by show 1 < 1000; decide), ?_⟩
    refine k _ (fun b u hb e => ?_) ?_
    · rw [upd_ne hb, upd_ne hb]
      exact e
    · rw [upd_same, putF2 slot_value] <;> rfl
theorem sc_Lower_slots : FnScope ["self"] ["self"] (defScope s_Lower_slots) := ⟨rfl, rfl, rfl, by decide +kernel, rfl, by decide +kernel, by decide +kernel⟩
theorem ok_Lower_slots (T : Txt K mg) : Ok P w K mg base (a_Lower_slots K) ["self"] 1 (spSlots K .lower) := by
  refine ok_of T.f_Lower_slots sc_Lower_slots (fun _ _ _ _ _ _ us hl => match us, hl with | [_], _ => rfl) (fun vs H Q E h => ?_) (fun cdv A outer s0 H vs Q E hr h => ?_)
  · obtain ⟨a, s, v, rfl, _⟩ := h
    rfl
  · obtain ⟨a, s, v, rfl, ⟨dx, ha⟩, ok, k⟩ := h
    refine ⟨_, pss_one (ps_ret (pe_lst (pa_cons (pe_fld (pv 0) rfl) pa_nil))), ?_⟩
    refine ⟨_, rfl, a, c_Lower K, dx, _, _, rfl, ha, T.o_Lower.cl, T.n_Lower_slot, look1, (by show 1 ≤ sizeLine; decide), fun l hl => ?_⟩
    exact k l _ (same_upd hl) upd_same
theorem sc_Lower_eq : FnScope ["self", "other"] ["self", "other"] (defScope s_Lower_eq) := ⟨rfl, rfl, rfl, by decide +kernel, rfl, by decide +kernel, by decide +kernel⟩
theorem kit_Lower {K : PySem.W.Frag} : PySem.W.kitOne K (.ref (c_Lower K)) (.ref (c_Lower K)) = some true := by
  unfold PySem.W.kitOne
  rw [if_pos (by simp)]
theorem ok_Lower_eq (T : Txt K mg) : Ok P w K mg base (a_Lower_eq K) ["self", "other"] 1 (spEqOne K .lower) := by
  refine ok_of T.f_Lower_eq sc_Lower_eq (fun _ _ _ _ _ _ us hl => match us, hl with | [_, _], _ => rfl) (fun vs H Q E h => ?_) (fun cdv A outer s0 H vs Q E hr h => ?_)
  · obtain ⟨a, b, s, v, rfl, _⟩ := h
    rfl
  · obtain ⟨a, b, s, v, rfl, ⟨dx, ha⟩, ⟨dy, hb⟩, k⟩ := h
    refine ⟨_, pss_one (ps_ret (pe_and (pe_callB call_isi (by rfl) T.z_isinstance (by decide +kernel) (pa_cons (pv 1) (pa_cons (pe_glob (v := .ref (c_Lower K)) (by rfl) T.g_Lower rfl) pa_nil)))
      (pe_and (pe_cmpR op_eq (pe_fld (pv 0) rfl) (pe_fld (pv 1) rfl) (nomark _)) (pe_one (pe_cmpR op_eq (pe_fld (pv 0) rfl) (pe_fld (pv 1) rfl) (nomark _)))))), ?_⟩
    refine ⟨_, rfl, _, _, _, _, true, rfl, .own (c_Lower K), T.o_Lower.ty hb, kit_Lower, true, rfl, iteT ?_⟩
    refine ⟨_, rfl, a, c_Lower K, dx, _, _, rfl, ha, T.o_Lower.cl, T.n_Lower_slot, look1, _, rfl, b, c_Lower K, dy, _, _, rfl, hb, T.o_Lower.cl, T.n_Lower_slot, look1, rfl, true, congrArg V.bl (decide_eq_true rfl), iteT ?_⟩
    refine ⟨_, rfl, a, c_Lower K, dx, _, _, rfl, ha, T.o_Lower.cl, T.n_Lower_value, look2 slot_value.symm, _, rfl, b, c_Lower K, dy, _, _, rfl, hb, T.o_Lower.cl, T.n_Lower_value, look2 slot_value.symm, rfl, ?_⟩
    have e : decide (V.int (v : Int) = V.int (v : Int)) = true := decide_eq_true rfl
    show Q (.bl (decide (V.int (v : Int) = V.int (v : Int)))) H
    rw [e]
    exact k
end
end OP
namespace OP
open PySem PySem.Spec PyProof.Rows L2
theorem One.s_mem (o : One) : (o.s : Int) ∈ o.slots := by
  unfold One.slots
  split
  · exact two_mem.mpr List.mem_cons_self
  · exact List.mem_cons_self
theorem One.v_mem (o : One) (h : o.k.src = true) : (o.v : Int) ∈ o.slots := by
  unfold One.slots
  rw [if_pos h]
  exact two_mem.mpr (List.mem_cons_of_mem _ List.mem_cons_self)
theorem two_len (s v : Nat) : (two s v).length ≤ 2 := by
  unfold two
  split
  · show 1 ≤ 2; decide
  · split <;> exact Nat.le_refl 2
theorem One.slots_len (o : One) : o.slots.length ≤ 2 := by
  unfold One.slots
  split
  · exact two_len _ _
  · show 1 ≤ 2; decide
section
variable {P : Program} {w : World} {K : PySem.W.Frag} {mg : Str → Option Value} {base : Heap}
theorem sc_Put_apply : FnScope ["self", "store"] ["self", "store"] (defScope s_Put_apply) := ⟨rfl, rfl, rfl, by decide +kernel, rfl, by decide +kernel, by decide +kernel⟩
theorem ok_Put_apply (T : Txt K mg) : Ok P w K mg base (a_Put_apply K) ["self", "store"] 4 (spApply K .put) := by
  have GL : Ok P w K mg base (a_Put_slots K) _ 1 (spSlots K .put) := ok_Put_slots T
  have GC : Ok P w K mg base (a_check_store K) _ 3 (spCheckStore K) := ok_check_store T
  have GR : Ok P w K mg base (a_replaced K) _ 1 spReplaced := ok_replaced T
  obtain ⟨u8, cr, cv⟩ := T.modulus
  refine ok_of T.f_Put_apply sc_Put_apply (fun _ _ _ _ _ _ us hl => match us, hl with | [_, _], _ => rfl) (fun vs H Q E h => ?_) (fun cdv A outer s0 H vs Q E hr h => ?_)
  · obtain ⟨a, st, s, v, xs, rfl, _⟩ := h
    rfl
  · obtain ⟨a, st, s, v, xs, rfl, ⟨dx, ha⟩, ok, hst, sok, hlt, k⟩ := h
    have hr1 : Room 1 _ := hr.mono (by decide)
    have hr2 : Room 2 _ := hr.mono (by decide)
    have slt : s < xs.length := Int.ofNat_lt.mp (hlt _ (One.s_mem ⟨.put, s, v⟩))
    have u0 := ok.v7
    refine ⟨_, pss_cons (ps_expr (pe_c GC hr T.g_check_store (pa_cons (pv 1) (pa_cons (pe_pr (pv 0) T.o_Put T.p_Put_slots GL hr2) pa_nil))))
      (pss_one (ps_ret (pe_c GR hr1 T.g_replaced (pa_cons (pv 1) (pa_cons (pe_fld (pv 0) rfl) (pa_cons (pe_fld (pv 0) rfl) pa_nil)))))), ?_⟩
    refine ⟨_, rfl, _, rfl, a, dx, _, rfl, ha, a, s, v, rfl, ⟨dx, ha⟩, ok, fun r H1 s1 e1 => ?_⟩
    refine ⟨st, r, xs, _, rfl, s1 _ _ hst, sok, SqL.of e1, Nat.le_trans (One.slots_len _) (by decide), hlt, fun H2 s2 => ?_⟩
    have ha2 := s2 _ _ (s1 _ _ ha)
    have hst2 := s2 _ _ (s1 _ _ hst)
    refine ⟨_, rfl, _, rfl, a, c_Put K, dx, _, _, rfl, ha2, T.o_Put.cl, T.n_Put_slot, look1, _, rfl, a, c_Put K, dx, _, _, rfl, ha2, T.o_Put.cl, T.n_Put_value, look2 slot_value.symm, st, xs, s, _, rfl, hst2, sok.hi, slt, fun r3 H3 s3 e3 => ?_⟩
    exact k r3 H3 ((s1.trans s2).trans s3) e3
theorem sc_Move_apply : FnScope ["self", "store"] ["self", "store"] (defScope s_Move_apply) := ⟨rfl, rfl, rfl, by decide +kernel, rfl, by decide +kernel, by decide +kernel⟩
theorem ok_Move_apply (T : Txt K mg) : Ok P w K mg base (a_Move_apply K) ["self", "store"] 4 (spApply K .move) := by
  have GL : Ok P w K mg base (a_Move_slots K) _ 1 (spSlots K .move) := ok_Move_slots T
  have GC : Ok P w K mg base (a_check_store K) _ 3 (spCheckStore K) := ok_check_store T
  have GR : Ok P w K mg base (a_replaced K) _ 1 spReplaced := ok_replaced T
  obtain ⟨u8, cr, cv⟩ := T.modulus
  refine ok_of T.f_Move_apply sc_Move_apply (fun _ _ _ _ _ _ us hl => match us, hl with | [_, _], _ => rfl) (fun vs H Q E h => ?_) (fun cdv A outer s0 H vs Q E hr h => ?_)
  · obtain ⟨a, st, s, v, xs, rfl, _⟩ := h
    rfl
  · obtain ⟨a, st, s, v, xs, rfl, ⟨dx, ha⟩, ok, hst, sok, hlt, k⟩ := h
    have hr1 : Room 1 _ := hr.mono (by decide)
    have hr2 : Room 2 _ := hr.mono (by decide)
    have slt : s < xs.length := Int.ofNat_lt.mp (hlt _ (One.s_mem ⟨.move, s, v⟩))
    have vlt : v < xs.length := Int.ofNat_lt.mp (hlt _ (One.v_mem ⟨.move, s, v⟩ rfl))
    refine ⟨_, pss_cons (ps_expr (pe_c GC hr T.g_check_store (pa_cons (pv 1) (pa_cons (pe_pr (pv 0) T.o_Move T.p_Move_slots GL hr2) pa_nil))))
      (pss_one (ps_ret (pe_c GR hr1 T.g_replaced (pa_cons (pv 1) (pa_cons (pe_fld (pv 0) rfl) (pa_cons (pe_ix ix_tup (pv 1) (pe_fld (pv 0) rfl) (fun _ _ => rfl)) pa_nil)))))), ?_⟩
    refine ⟨_, rfl, _, rfl, a, dx, _, rfl, ha, a, s, v, rfl, ⟨dx, ha⟩, ok, fun r H1 s1 e1 => ?_⟩
    refine ⟨st, r, xs, _, rfl, s1 _ _ hst, sok, SqL.of e1, Nat.le_trans (One.slots_len _) (by decide), hlt, fun H2 s2 => ?_⟩
    have ha2 := s2 _ _ (s1 _ _ ha)
    have hst2 := s2 _ _ (s1 _ _ hst)
    refine ⟨_, rfl, _, rfl, a, c_Move K, dx, _, _, rfl, ha2, T.o_Move.cl, T.n_Move_slot, look1, _, rfl, _, rfl, a, c_Move K, dx, _, _, rfl, ha2, T.o_Move.cl, T.n_Move_source, look2 slot_source.symm, st, _, _, _, rfl, rfl, SqT.of hst2, at_int vlt, st, xs, s, _, rfl, hst2, sok.hi, slt, fun r3 H3 s3 e3 => ?_⟩
    exact k r3 H3 ((s1.trans s2).trans s3) e3
theorem sc_Add_apply : FnScope ["self", "store"] ["self", "store"] (defScope s_Add_apply) := ⟨rfl, rfl, rfl, by decide +kernel, rfl, by decide +kernel, by decide +kernel⟩
theorem ok_Add_apply (T : Txt K mg) : Ok P w K mg base (a_Add_apply K) ["self", "store"] 4 (spApply K .add) := by
  have GL : Ok P w K mg base (a_Add_slots K) _ 1 (spSlots K .add) := ok_Add_slots T
  have GC : Ok P w K mg base (a_check_store K) _ 3 (spCheckStore K) := ok_check_store T
  have GR : Ok P w K mg base (a_replaced K) _ 1 spReplaced := ok_replaced T
  obtain ⟨u8, cr, cv⟩ := T.modulus
  refine ok_of T.f_Add_apply sc_Add_apply (fun _ _ _ _ _ _ us hl => match us, hl with | [_, _], _ => rfl) (fun vs H Q E h => ?_) (fun cdv A outer s0 H vs Q E hr h => ?_)
  · obtain ⟨a, st, s, v, xs, rfl, _⟩ := h
    rfl
  · obtain ⟨a, st, s, v, xs, rfl, ⟨dx, ha⟩, ok, hst, sok, hlt, k⟩ := h
    have hr1 : Room 1 _ := hr.mono (by decide)
    have hr2 : Room 2 _ := hr.mono (by decide)
    have slt : s < xs.length := Int.ofNat_lt.mp (hlt _ (One.s_mem ⟨.add, s, v⟩))
    have u0 := ok.v7
    refine ⟨_, pss_cons (ps_expr (pe_c GC hr T.g_check_store (pa_cons (pv 1) (pa_cons (pe_pr (pv 0) T.o_Add T.p_Add_slots GL hr2) pa_nil))))
      (pss_one (ps_ret (pe_c GR hr1 T.g_replaced (pa_cons (pv 1) (pa_cons (pe_fld (pv 0) rfl) (pa_cons (pe_op op_mod (pe_op op_add (pe_ix ix_tup (pv 1) (pe_fld (pv 0) rfl) (fun _ _ => rfl)) (pe_fld (pv 0) rfl)) (pe_cv K cr cv T.g_Change)) pa_nil)))))), ?_⟩
    refine ⟨_, rfl, _, rfl, a, dx, _, rfl, ha, a, s, v, rfl, ⟨dx, ha⟩, ok, fun r H1 s1 e1 => ?_⟩
    refine ⟨st, r, xs, _, rfl, s1 _ _ hst, sok, SqL.of e1, Nat.le_trans (One.slots_len _) (by decide), hlt, fun H2 s2 => ?_⟩
    have ha2 := s2 _ _ (s1 _ _ ha)
    have hst2 := s2 _ _ (s1 _ _ hst)
    refine ⟨_, rfl, _, rfl, a, c_Add K, dx, _, _, rfl, ha2, T.o_Add.cl, T.n_Add_slot, look1, _, rfl, _, rfl, a, c_Add K, dx, _, _, rfl, ha2, T.o_Add.cl, T.n_Add_slot, look1, st, _, _, _, rfl, rfl, SqT.of hst2, at_int slt, _, rfl, a, c_Add K, dx, _, _, rfl, ha2, T.o_Add.cl, T.n_Add_value, look2 slot_value.symm, _, _, rfl, rfl, _, _, rfl, rfl, (by show (0 : Int) < 8; decide), st, xs, s, _, rfl, hst2, sok.hi, slt, fun r3 H3 s3 e3 => ?_⟩
    exact k r3 H3 ((s1.trans s2).trans s3) e3
theorem sc_AddSlot_apply : FnScope ["self", "store"] ["self", "store"] (defScope s_AddSlot_apply) := ⟨rfl, rfl, rfl, by decide +kernel, rfl, by decide +kernel, by decide +kernel⟩
theorem ok_AddSlot_apply (T : Txt K mg) : Ok P w K mg base (a_AddSlot_apply K) ["self", "store"] 4 (spApply K .addslot) := by
  have GL : Ok P w K mg base (a_AddSlot_slots K) _ 1 (spSlots K .addslot) := ok_AddSlot_slots T
  have GC : Ok P w K mg base (a_check_store K) _ 3 (spCheckStore K) := ok_check_store T
  have GR : Ok P w K mg base (a_replaced K) _ 1 spReplaced := ok_replaced T
  obtain ⟨u8, cr, cv⟩ := T.modulus
  refine ok_of T.f_AddSlot_apply sc_AddSlot_apply (fun _ _ _ _ _ _ us hl => match us, hl with | [_, _], _ => rfl) (fun vs H Q E h => ?_) (fun cdv A outer s0 H vs Q E hr h => ?_)
  · obtain ⟨a, st, s, v, xs, rfl, _⟩ := h
    rfl
  · obtain ⟨a, st, s, v, xs, rfl, ⟨dx, ha⟩, ok, hst, sok, hlt, k⟩ := h
    have hr1 : Room 1 _ := hr.mono (by decide)
    have hr2 : Room 2 _ := hr.mono (by decide)
    have slt : s < xs.length := Int.ofNat_lt.mp (hlt _ (One.s_mem ⟨.addslot, s, v⟩))
    have vlt : v < xs.length := Int.ofNat_lt.mp (hlt _ (One.v_mem ⟨.addslot, s, v⟩ rfl))
    refine ⟨_, pss_cons (ps_expr (pe_c GC hr T.g_check_store (pa_cons (pv 1) (pa_cons (pe_pr (pv 0) T.o_AddSlot T.p_AddSlot_slots GL hr2) pa_nil))))
      (pss_one (ps_ret (pe_c GR hr1 T.g_replaced (pa_cons (pv 1) (pa_cons (pe_fld (pv 0) rfl) (pa_cons (pe_op op_mod (pe_op op_add (pe_ix ix_tup (pv 1) (pe_fld (pv 0) rfl) (fun _ _ => rfl)) (pe_ix ix_tup (pv 1) (pe_fld (pv 0) rfl) (fun _ _ => rfl))) (pe_cv K cr cv T.g_Change)) pa_nil)))))), ?_⟩
    refine ⟨_, rfl, _, rfl, a, dx, _, rfl, ha, a, s, v, rfl, ⟨dx, ha⟩, ok, fun r H1 s1 e1 => ?_⟩
    refine ⟨st, r, xs, _, rfl, s1 _ _ hst, sok, SqL.of e1, Nat.le_trans (One.slots_len _) (by decide), hlt, fun H2 s2 => ?_⟩
    have ha2 := s2 _ _ (s1 _ _ ha)
    have hst2 := s2 _ _ (s1 _ _ hst)
    refine ⟨_, rfl, _, rfl, a, c_AddSlot K, dx, _, _, rfl, ha2, T.o_AddSlot.cl, T.n_AddSlot_slot, look1, _, rfl, _, rfl, a, c_AddSlot K, dx, _, _, rfl, ha2, T.o_AddSlot.cl, T.n_AddSlot_slot, look1, st, _, _, _, rfl, rfl, SqT.of hst2, at_int slt, _, rfl, _, rfl, a, c_AddSlot K, dx, _, _, rfl, ha2, T.o_AddSlot.cl, T.n_AddSlot_source, look2 slot_source.symm, st, _, _, _, rfl, rfl, SqT.of hst2, at_int vlt, _, _, rfl, rfl, _, _, rfl, rfl, (by show (0 : Int) < 8; decide), st, xs, s, _, rfl, hst2, sok.hi, slt, fun r3 H3 s3 e3 => ?_⟩
    exact k r3 H3 ((s1.trans s2).trans s3) e3
theorem sc_Raise_apply : FnScope ["self", "store"] ["self", "store"] (defScope s_Raise_apply) := ⟨rfl, rfl, rfl, by decide +kernel, rfl, by decide +kernel, by decide +kernel⟩
theorem ok_Raise_apply (T : Txt K mg) : Ok P w K mg base (a_Raise_apply K) ["self", "store"] 4 (spApply K .rais) := by
  have GL : Ok P w K mg base (a_Raise_slots K) _ 1 (spSlots K .rais) := ok_Raise_slots T
  have GC : Ok P w K mg base (a_check_store K) _ 3 (spCheckStore K) := ok_check_store T
  have GR : Ok P w K mg base (a_replaced K) _ 1 spReplaced := ok_replaced T
  obtain ⟨u8, cr, cv⟩ := T.modulus
  refine ok_of T.f_Raise_apply sc_Raise_apply (fun _ _ _ _ _ _ us hl => match us, hl with | [_, _], _ => rfl) (fun vs H Q E h => ?_) (fun cdv A outer s0 H vs Q E hr h => ?_)
  · obtain ⟨a, st, s, v, xs, rfl, _⟩ := h
    rfl
  · obtain ⟨a, st, s, v, xs, rfl, ⟨dx, ha⟩, ok, hst, sok, hlt, k⟩ := h
    have hr1 : Room 1 _ := hr.mono (by decide)
    have hr2 : Room 2 _ := hr.mono (by decide)
    have slt : s < xs.length := Int.ofNat_lt.mp (hlt _ (One.s_mem ⟨.rais, s, v⟩))
    have u0 := ok.v7
    refine ⟨_, pss_cons (ps_expr (pe_c GC hr T.g_check_store (pa_cons (pv 1) (pa_cons (pe_pr (pv 0) T.o_Raise T.p_Raise_slots GL hr2) pa_nil))))
      (pss_one (ps_ret (pe_c GR hr1 T.g_replaced (pa_cons (pv 1) (pa_cons (pe_fld (pv 0) rfl) (pa_cons (pe_callB (call_max2 rfl) (by rfl) T.z_max (by decide +kernel) (pa_cons (pe_ix ix_tup (pv 1) (pe_fld (pv 0) rfl) (fun _ _ => rfl)) (pa_cons (pe_fld (pv 0) rfl) pa_nil))) pa_nil)))))), ?_⟩
    refine ⟨_, rfl, _, rfl, a, dx, _, rfl, ha, a, s, v, rfl, ⟨dx, ha⟩, ok, fun r H1 s1 e1 => ?_⟩
    refine ⟨st, r, xs, _, rfl, s1 _ _ hst, sok, SqL.of e1, Nat.le_trans (One.slots_len _) (by decide), hlt, fun H2 s2 => ?_⟩
    have ha2 := s2 _ _ (s1 _ _ ha)
    have hst2 := s2 _ _ (s1 _ _ hst)
    refine ⟨_, rfl, _, rfl, a, c_Raise K, dx, _, _, rfl, ha2, T.o_Raise.cl, T.n_Raise_slot, look1, _, rfl, _, rfl, a, c_Raise K, dx, _, _, rfl, ha2, T.o_Raise.cl, T.n_Raise_slot, look1, st, _, _, _, rfl, rfl, SqT.of hst2, at_int slt, _, rfl, a, c_Raise K, dx, _, _, rfl, ha2, T.o_Raise.cl, T.n_Raise_value, look2 slot_value.symm, _, _, rfl, st, xs, s, _, rfl, hst2, sok.hi, slt, fun r3 H3 s3 e3 => ?_⟩
    exact k r3 H3 ((s1.trans s2).trans s3) e3
theorem sc_Lower_apply : FnScope ["self", "store"] ["self", "store"] (defScope s_Lower_apply) := ⟨rfl, rfl, rfl, by decide +kernel, rfl, by decide +kernel, by decide +kernel⟩
theorem ok_Lower_apply (T : Txt K mg) : Ok P w K mg base (a_Lower_apply K) ["self", "store"] 4 (spApply K .lower) := by
  have GL : Ok P w K mg base (a_Lower_slots K) _ 1 (spSlots K .lower) := ok_Lower_slots T
  have GC : Ok P w K mg base (a_check_store K) _ 3 (spCheckStore K) := ok_check_store T
  have GR : Ok P w K mg base (a_replaced K) _ 1 spReplaced := ok_replaced T
  obtain ⟨u8, cr, cv⟩ := T.modulus
  refine ok_of T.f_Lower_apply sc_Lower_apply (fun _ _ _ _ _ _ us hl => match us, hl with | [_, _], _ => rfl) (fun vs H Q E h => ?_) (fun cdv A outer s0 H vs Q E hr h => ?_)
  · obtain ⟨a, st, s, v, xs, rfl, _⟩ := h
    rfl
  · obtain ⟨a, st, s, v, xs, rfl, ⟨dx, ha⟩, ok, hst, sok, hlt, k⟩ := h
    have hr1 : Room 1 _ := hr.mono (by decide)
    have hr2 : Room 2 _ := hr.mono (by decide)
    have slt : s < xs.length := Int.ofNat_lt.mp (hlt _ (One.s_mem ⟨.lower, s, v⟩))
    have u0 := ok.v7
    refine ⟨_, pss_cons (ps_expr (pe_c GC hr T.g_check_store (pa_cons (pv 1) (pa_cons (pe_pr (pv 0) T.o_Lower T.p_Lower_slots GL hr2) pa_nil))))
      (pss_one (ps_ret (pe_c GR hr1 T.g_replaced (pa_cons (pv 1) (pa_cons (pe_fld (pv 0) rfl) (pa_cons (pe_callB (call_min2 rfl) (by rfl) T.z_min (by decide +kernel) (pa_cons (pe_ix ix_tup (pv 1) (pe_fld (pv 0) rfl) (fun _ _ => rfl)) (pa_cons (pe_fld (pv 0) rfl) pa_nil))) pa_nil)))))), ?_⟩
    refine ⟨_, rfl, _, rfl, a, dx, _, rfl, ha, a, s, v, rfl, ⟨dx, ha⟩, ok, fun r H1 s1 e1 => ?_⟩
    refine ⟨st, r, xs, _, rfl, s1 _ _ hst, sok, SqL.of e1, Nat.le_trans (One.slots_len _) (by decide), hlt, fun H2 s2 => ?_⟩
    have ha2 := s2 _ _ (s1 _ _ ha)
    have hst2 := s2 _ _ (s1 _ _ hst)
    refine ⟨_, rfl, _, rfl, a, c_Lower K, dx, _, _, rfl, ha2, T.o_Lower.cl, T.n_Lower_slot, look1, _, rfl, _, rfl, a, c_Lower K, dx, _, _, rfl, ha2, T.o_Lower.cl, T.n_Lower_slot, look1, st, _, _, _, rfl, rfl, SqT.of hst2, at_int slt, _, rfl, a, c_Lower K, dx, _, _, rfl, ha2, T.o_Lower.cl, T.n_Lower_value, look2 slot_value.symm, _, _, rfl, st, xs, s, _, rfl, hst2, sok.hi, slt, fun r3 H3 s3 e3 => ?_⟩
    exact k r3 H3 ((s1.trans s2).trans s3) e3
end
end OP
namespace OP
open PySem PySem.Spec PyProof.Rows L2
/-! ### the six classes as one family -/
def slotsA (K : PySem.W.Frag) : Kind → Addr
  | .put => a_Put_slots K
  | .move => a_Move_slots K
  | .add => a_Add_slots K
  | .addslot => a_AddSlot_slots K
  | .rais => a_Raise_slots K
  | .lower => a_Lower_slots K
def applyA (K : PySem.W.Frag) : Kind → Addr
  | .put => a_Put_apply K
  | .move => a_Move_apply K
  | .add => a_Add_apply K
  | .addslot => a_AddSlot_apply K
  | .rais => a_Raise_apply K
  | .lower => a_Lower_apply K
def eqA (K : PySem.W.Frag) : Kind → Addr
  | .put => a_Put_eq K
  | .move => a_Move_eq K
  | .add => a_Add_eq K
  | .addslot => a_AddSlot_eq K
  | .rais => a_Raise_eq K
  | .lower => a_Lower_eq K
section
variable {P : Program} {w : World} {K : PySem.W.Frag} {mg : Str → Option Value} {base : Heap}
theorem Txt.own (T : Txt K mg) (k : Kind) : Own K (k.cls K) := by
  cases k
  · exact T.o_Put
  · exact T.o_Move
  · exact T.o_Add
  · exact T.o_AddSlot
  · exact T.o_Raise
  · exact T.o_Lower
theorem Txt.kitC (T : Txt K mg) (k : Kind) : PySem.W.kitOne K (.ref (k.cls K)) (.ref (c_Change K)) = some true := by
  cases k
  · exact T.k_Put
  · exact T.k_Move
  · exact T.k_Add
  · exact T.k_AddSlot
  · exact T.k_Raise
  · exact T.k_Lower
theorem Txt.kitIf (T : Txt K mg) (k : Kind) : PySem.W.kitOne K (.ref (k.cls K)) (.ref (c_If K)) = some false := by
  cases k
  · exact T.kIf_Put
  · exact T.kIf_Move
  · exact T.kIf_Add
  · exact T.kIf_AddSlot
  · exact T.kIf_Raise
  · exact T.kIf_Lower
theorem Txt.propS (T : Txt K mg) (k : Kind) : PropOf K (k.cls K) "slots" (He.ma K (k.cls K) "slots") (slotsA K k) := by
  cases k
  · exact T.p_Put_slots
  · exact T.p_Move_slots
  · exact T.p_Add_slots
  · exact T.p_AddSlot_slots
  · exact T.p_Raise_slots
  · exact T.p_Lower_slots
theorem Txt.methA (T : Txt K mg) (k : Kind) : Meth K (k.cls K) "apply" (applyA K k) := by
  cases k
  · exact T.m_Put_apply
  · exact T.m_Move_apply
  · exact T.m_Add_apply
  · exact T.m_AddSlot_apply
  · exact T.m_Raise_apply
  · exact T.m_Lower_apply
theorem Txt.methE (T : Txt K mg) (k : Kind) : Meth K (k.cls K) "__eq__" (eqA K k) := by
  cases k
  · exact T.m_Put_eq
  · exact T.m_Move_eq
  · exact T.m_Add_eq
  · exact T.m_AddSlot_eq
  · exact T.m_Raise_eq
  · exact T.m_Lower_eq
theorem ok_slots (T : Txt K mg) (k : Kind) : Ok P w K mg base (slotsA K k) ["self"] 1 (spSlots K k) := by
  cases k
  · exact ok_Put_slots T
  · exact ok_Move_slots T
  · exact ok_Add_slots T
  · exact ok_AddSlot_slots T
  · exact ok_Raise_slots T
  · exact ok_Lower_slots T
theorem ok_apply (T : Txt K mg) (k : Kind) : Ok P w K mg base (applyA K k) ["self", "store"] 4 (spApply K k) := by
  cases k
  · exact ok_Put_apply T
  · exact ok_Move_apply T
  · exact ok_Add_apply T
  · exact ok_AddSlot_apply T
  · exact ok_Raise_apply T
  · exact ok_Lower_apply T
theorem ok_eq (T : Txt K mg) (k : Kind) : Ok P w K mg base (eqA K k) ["self", "other"] 1 (spEqOne K k) := by
  cases k
  · exact ok_Put_eq T
  · exact ok_Move_eq T
  · exact ok_Add_eq T
  · exact ok_AddSlot_eq T
  · exact ok_Raise_eq T
  · exact ok_Lower_eq T
end
section
variable {X : Cx} {m : Str} {pos apos : Pos} {e o : Expr} {es : List Expr} {t : TA} {ta : TE} {f C : Addr} {ps : List Str} {k : Nat} {sp : Sp}
/-- o.m(e, ..) of an own class -/
theorem pe_mt {pl : Sem Bool} (he : PE X o ta) (c : Own X.K C) (hm : Meth X.K C m f) (O : Ok X.prog X.w X.K X.mg X.base f ps k sp) (hr : Room k X.A) (ha : PA X (e :: es) t)
    (h1 : starEach (e :: es) X.env = (false, eval e X.env) :: starEach es X.env := by rfl) (h2 : (backTo pos (starEach es X.env)).any (·.1) = false := by rfl)
    (h3 : eval (.Call (.Attribute o m apos) (e :: es) [] pos) X.env = (eval o X.env >>= fun ov => standAt apos.atName >>= fun _ => holding [ov] (getMethod ov m pl) >>= fun q => callWith pos q.1 q.2 (backTo pos (starEach (e :: es) X.env)) (backToKw pos (keywordEach [] X.env))) := by rfl) :
    PE X (.Call (.Attribute o m apos) (e :: es) [] pos) (tMeth C m sp [] E0 ta t) := by
  obtain ⟨⟨fd, G, b⟩, kp⟩ := O
  exact pe_meth he c.cl hm G hr b .nil pass0 ha h1 h2 h3
end
/-! ### If, and all changes -/
inductive Chg where
  | one (o : One)
  | iff (s v : Nat) (o : One)
deriving DecidableEq
def ifFlds (s v : Nat) (b : Addr) : List (Str × V) := [("slot", .int s), ("value", .int v), ("inner", .ref b)]
def ChgAt (K : PySem.W.Frag) (H : Hp) (a : Addr) : Chg → Prop
  | .one o => OneAt K H a o
  | .iff s v o => ∃ dx b, H a = some (.ins (c_If K) dx (ifFlds s v b)) ∧ OneAt K H b o
def Chg.Ok : Chg → Prop
  | .one o => o.Ok
  | .iff s v o => s ≤ 2 ∧ v ≤ 7 ∧ o.Ok
/-- those of 0, 1, 2 that are s or among the others -/
def three (s : Nat) (ns : List Int) : List Int := ((List.range 3).map fun n : Nat => (n : Int)).filter fun z => decide (z = s ∨ z ∈ ns)
def Chg.slots : Chg → List Int
  | .one o => o.slots
  | .iff s _ o => three s o.slots
def Chg.app : Chg → List Int → List Int
  | .one o, xs => o.app xs
  | .iff s v o, xs => if xs.getD s 0 = (v : Int) then o.app xs else xs
theorem OneAt.ext {K : PySem.W.Frag} {H H' : Hp} {a : Addr} {o : One} (e : Same H H') (h : OneAt K H a o) : OneAt K H' a o := by
  obtain ⟨dx, h⟩ := h
  exact ⟨dx, e _ _ h⟩
theorem ChgAt.ext {K : PySem.W.Frag} {H H' : Hp} {a : Addr} {c : Chg} (e : Same H H') (h : ChgAt K H a c) : ChgAt K H' a c := by
  cases c with
  | one o => exact OneAt.ext e h
  | iff s v o =>
    obtain ⟨dx, b, h1, h2⟩ := h
    exact ⟨dx, b, e _ _ h1, OneAt.ext e h2⟩
theorem One.slots_bd {o : One} (h : o.Ok) : ∀ z ∈ o.slots, 0 ≤ z ∧ z ≤ 2 := fun z hz => by
  have a := h.s2
  unfold One.slots at hz
  split at hz
  · rename_i q
    have b := h.v2 q
    rcases List.mem_cons.mp (two_mem.mp hz) with r | r
    · omega
    · rw [List.mem_singleton.mp r]; omega
  · rw [List.mem_singleton.mp hz]; omega
theorem three_lt (s : Nat) (ns : List Int) : (three s ns).Pairwise (· < ·) := List.Pairwise.filter _ (by decide)
theorem three_mem {s : Nat} {ns : List Int} (hs : s ≤ 2) (h : ∀ z ∈ ns, 0 ≤ z ∧ z ≤ 2) (z : Int) : z ∈ three s ns ↔ z = s ∨ z ∈ ns := by
  unfold three
  rw [List.mem_filter, decide_eq_true_iff]
  refine ⟨fun q => q.2, fun q => ⟨?_, q⟩⟩
  have b : 0 ≤ z ∧ z ≤ 2 := q.elim (fun q => by omega) (h z)
  have : z = 0 ∨ z = 1 ∨ z = 2 := by omega
  rcases this with r | r | r <;> subst r <;> decide
theorem three_set {s : Nat} {ms ns : List Int} (hs : s ≤ 2) (h : ∀ z ∈ ns, 0 ≤ z ∧ z ≤ 2) (srt : ms.Pairwise (· < ·)) (mem : ∀ z, z ∈ ms ↔ z ∈ (s : Int) :: ns) : ms = three s ns :=
  lt_uniq srt (three_lt s ns) fun z => (mem z).trans (List.mem_cons.trans (three_mem hs h z).symm)
theorem three_len (s : Nat) (ns : List Int) : (three s ns).length ≤ 3 := Nat.le_trans (List.length_filter_le _ _) (by decide)
theorem lookA {f g h : Str} {x y z : V} : ([(f, x), (g, y), (h, z)] : List (Str × V)).lookup f = some x := by simp [List.lookup]
theorem lookB {f g h : Str} {x y z : V} (q : g ≠ f) : ([(f, x), (g, y), (h, z)] : List (Str × V)).lookup g = some y := by
  have e : (g == f) = false := beq_eq_false_iff_ne.mpr q
  simp [List.lookup, e]
theorem lookC {f g h : Str} {x y z : V} (q : h ≠ f) (r : h ≠ g) : ([(f, x), (g, y), (h, z)] : List (Str × V)).lookup h = some z := by
  have e : (h == f) = false := beq_eq_false_iff_ne.mpr q
  have e2 : (h == g) = false := beq_eq_false_iff_ne.mpr r
  simp [List.lookup, e, e2]
theorem in_slot : ("inner" : Str) ≠ "slot" := by decide +kernel
theorem in_value : ("inner" : Str) ≠ "value" := by decide +kernel
theorem putF3 {f g h : Str} {x y z : V} (a : f ≠ g) (b : f ≠ h) (c : g ≠ h) : putF h z (putF g y (putF f x [])) = [(f, x), (g, y), (h, z)] := by
  rw [putF2 a]
  show (if f = h then _ else (f, x) :: (if g = h then _ else (g, y) :: putF h z [])) = _
  rw [if_neg b, if_neg c] <;> rfl
section
variable {P : Program} {w : World} {K : PySem.W.Frag} {mg : Str → Option Value} {base : Heap}
def spIfInit (K : PySem.W.Frag) : Sp := fun vs H Q _ => ∃ (p dx b : Addr) (s v : Nat) (o : One), vs = [.ref p, .int s, .int v, .ref b] ∧ s ≤ 2 ∧ v ≤ 7 ∧ OneAt K H b o ∧ H p = some (.ins (c_If K) dx []) ∧
  ∀ H', (∀ c u, c ≠ p → H c = some u → H' c = some u) → H' p = some (.ins (c_If K) dx (ifFlds s v b)) → Q .non H'
theorem sc_If_init : FnScope ["self", "slot", "value", "change"] ["self", "slot", "value", "change"] (defScope s_If_init) := ⟨rfl, rfl, rfl, by decide +kernel, rfl, by decide +kernel, by decide +kernel⟩
theorem ok_If_init (T : Txt K mg) : Ok P w K mg base (a_If_init K) ["self", "slot", "value", "change"] 3 (spIfInit K) := by
  have GS : Ok P w K mg base (a_check_slot K) _ 2 (spCheck 2) := ok_check_slot T
  have GV : Ok P w K mg base (a_check_value K) _ 2 (spCheck 7) := ok_check_value T
  refine ok_of T.f_If_init sc_If_init (fun _ _ _ _ _ _ us hl => match us, hl with | [_, _, _, _], _ => rfl) (fun vs H Q E h => ?_) (fun cdv A outer s0 H vs Q E hr h => ?_)
  · obtain ⟨p, dx, b, s, v, o, rfl, _⟩ := h
    rfl
  · obtain ⟨p, dx, b, s, v, o, rfl, hs, hv, ⟨dy, hb⟩, hp, k⟩ := h
    have b1 : (0 : Int) ≤ (s : Int) := Int.natCast_nonneg _
    have b2 : (s : Int) ≤ 2 := Int.ofNat_le.mpr hs
    have b3 : (0 : Int) ≤ (v : Int) := Int.natCast_nonneg _
    have b4 : (v : Int) ≤ 7 := Int.ofNat_le.mpr hv
    refine ⟨_, pss_cons (ps_expr (pe_c GS hr T.g_check_slot (pa_cons (pv 1) pa_nil))) (pss_cons (ps_expr (pe_c GV hr T.g_check_value (pa_cons (pv 2) pa_nil)))
      (pss_cons (ps_if (PW.pt (pw_or (pt_not (pt_val (pe_callB call_isi (by rfl) T.z_isinstance (by decide +kernel) (pa_cons (pv 3) (pa_cons (pe_glob (v := .ref (c_Change K)) (by rfl) T.g_Change rfl) pa_nil)))))
        (pw_or1 (pt_val (pe_callB call_isi (by rfl) T.z_isinstance (by decide +kernel) (pa_cons (pv 3) (pa_cons (pe_glob (v := .ref (c_If K)) (by rfl) T.g_If rfl) pa_nil))))))) (pss_one ps_never) pss_nil)
      (pss_cons (ps_fld (pv 0) (pv 1) rfl) (pss_cons (ps_fld (pv 0) (pv 2) rfl) (pss_one (ps_fld (pv 0) (pv 3) rfl)))))), ?_⟩
    refine ⟨_, rfl, s, rfl, b1, b2, _, rfl, v, rfl, b3, b4, ?_⟩
    refine ⟨_, rfl, _, _, _, _, true, rfl, .own (c_Change K), (T.own o.k).ty hb, T.kitC o.k, true, rfl, iteF ?_⟩
    refine ⟨_, rfl, _, _, _, _, false, rfl, .own (c_If K), (T.own o.k).ty hb, T.kitIf o.k, false, rfl, iteF ?_⟩
    refine ⟨_, rfl, _, rfl, p, c_If K, dx, [], rfl, hp, T.o_If.cl, T.n_If_slot, (by show 0 < 1000; decide), _, rfl, _, rfl, p, c_If K, dx, _, rfl, upd_same, T.o_If.cl, T.n_If_value, (by show 1 < 1000; decide),
      _, rfl, _, rfl, p, c_If K, dx, _, rfl, upd_same, T.o_If.cl, T.n_If_inner, (by rw [putF2 slot_value]; show 2 < 1000; decide), ?_⟩
    refine k _ (fun c u hc e => ?_) ?_
    · rw [upd_ne hc, upd_ne hc, upd_ne hc]
      exact e
    · rw [upd_same, putF3 slot_value in_slot.symm in_value.symm] <;> rfl
def spIfSlots (K : PySem.W.Frag) : Sp := fun vs H Q _ => ∃ (a dx b : Addr) (s v : Nat) (o : One), vs = [.ref a] ∧ H a = some (.ins (c_If K) dx (ifFlds s v b)) ∧ OneAt K H b o ∧ s ≤ 2 ∧ o.Ok ∧ ∀ r H', Same H H' → H' r = some (.lst ((three s o.slots).map V.int)) → Q (.ref r) H'
theorem sc_If_slots : FnScope ["self"] ["self"] (defScope s_If_slots) := ⟨rfl, rfl, rfl, by decide +kernel, rfl, by decide +kernel, by decide +kernel⟩
theorem ok_If_slots (T : Txt K mg) : Ok P w K mg base (a_If_slots K) ["self"] 3 (spIfSlots K) := by
  have GL : ∀ k, Ok P w K mg base (slotsA K k) ["self"] 1 (spSlots K k) := ok_slots T
  refine ok_of T.f_If_slots sc_If_slots (fun _ _ _ _ _ _ us hl => match us, hl with | [_], _ => rfl) (fun vs H Q E h => ?_) (fun cdv A outer s0 H vs Q E hr h => ?_)
  · obtain ⟨a, dx, b, s, v, o, rfl, _⟩ := h
    rfl
  · obtain ⟨a, dx, b, s, v, ⟨kd, os, ov⟩, rfl, ha, ⟨dy, hb⟩, hs, ok, k⟩ := h
    refine ⟨_, pss_one (ps_ret (pe_callB (cr_sortedSet rfl) (by rfl) T.z_sorted (by decide +kernel) (pa_cons (pe_callTy (cr_setI rfl) (by rfl) T.z_set (by decide +kernel) (pa_cons (pe_op op_cat (pe_lst (pa_cons (pe_fld (pv 0) rfl) pa_nil))
      (pe_any fun k : Kind => pe_pr (pe_fld (pv 0) rfl) (T.own k) (T.propS k) (GL k) hr)) pa_nil)) pa_nil))), ?_⟩
    refine ⟨_, rfl, a, c_If K, dx, _, _, rfl, ha, T.o_If.cl, T.n_If_slot, lookA, (by show 1 ≤ sizeLine; decide), fun l hl => ?_⟩
    have s1 : Same H _ := same_upd (o := .lst [V.int s]) hl
    refine ⟨kd, _, rfl, a, c_If K, dx, _, _, rfl, s1 _ _ ha, T.o_If.cl, T.n_If_inner, lookC in_slot in_value, b, dy, _, rfl, s1 _ _ hb, b, os, ov, rfl, ⟨dy, s1 _ _ hb⟩, ok, fun r H2 s2 e2 => ?_⟩
    have hl2 : H2 l = some (.lst [V.int s]) := s2 _ _ upd_same
    have hlen := One.slots_len ⟨kd, os, ov⟩
    refine ⟨l, r, _, _, rfl, rfl, hl2, e2, (by rw [List.length_map]; exact Nat.le_trans (show _ ≤ 3 by simp; omega) (by decide)), fun p hp => ?_⟩
    refine ⟨p, (s : Int) :: One.slots ⟨kd, os, ov⟩, rfl, SqL.of upd_same, (by rw [List.length_cons]; omega), fun q c hq hc => ?_⟩
    refine ⟨q, _, c, rfl, upd_same, Nat.lt_of_le_of_lt hc (by rw [List.length_cons]; omega), fun ns p2 srt mem _ hp2 => ?_⟩
    refine k p2 _ ((((s1.trans s2).trans (same_upd hp)).trans (same_upd hq)).trans (same_upd hp2)) ?_
    have e : ns = three s (One.slots ⟨kd, os, ov⟩) := three_set hs (One.slots_bd ok) srt fun z => (mem z).trans decide_eq_true_iff
    rw [upd_same, e]
def spIfApply (K : PySem.W.Frag) : Sp := fun vs H Q _ => ∃ (a st dx b : Addr) (s v : Nat) (o : One) (xs : List Int), vs = [.ref a, .ref st] ∧ H a = some (.ins (c_If K) dx (ifFlds s v b)) ∧ OneAt K H b o ∧ s ≤ 2 ∧ o.Ok ∧ H st = some (.tup (xs.map V.int)) ∧ StoreOk xs ∧
  (∀ n ∈ three s o.slots, n < (xs.length : Int)) ∧ ∀ r H', Same H H' → H' r = some (.tup ((Chg.app (.iff s v o) xs).map V.int)) → Q (.ref r) H'
theorem sc_If_apply : FnScope ["self", "store"] ["self", "store"] (defScope s_If_apply) := ⟨rfl, rfl, rfl, by decide +kernel, rfl, by decide +kernel, by decide +kernel⟩
theorem no_apply {k : Kind} {x y : V} : ([("slot", x), (k.fld, y)] : List (Str × V)).lookup ("apply" : Str) = none := by
  have e : (("apply" : Str) == "slot") = false := by decide +kernel
  have e2 : (("apply" : Str) == k.fld) = false := by cases k <;> decide +kernel
  simp [List.lookup, e, e2]
theorem ok_If_apply (T : Txt K mg) : Ok P w K mg base (a_If_apply K) ["self", "store"] 5 (spIfApply K) := by
  have GL : Ok P w K mg base (a_If_slots K) _ 3 (spIfSlots K) := ok_If_slots T
  have GC : Ok P w K mg base (a_check_store K) _ 3 (spCheckStore K) := ok_check_store T
  have GA : ∀ k, Ok P w K mg base (applyA K k) ["self", "store"] 4 (spApply K k) := ok_apply T
  refine ok_of T.f_If_apply sc_If_apply (fun _ _ _ _ _ _ us hl => match us, hl with | [_, _], _ => rfl) (fun vs H Q E h => ?_) (fun cdv A outer s0 H vs Q E hr h => ?_)
  · obtain ⟨a, st, dx, b, s, v, o, xs, rfl, _⟩ := h
    rfl
  · obtain ⟨a, st, dx, b, s, v, ⟨kd, os, ov⟩, xs, rfl, ha, ⟨dy, hb⟩, hs, ok, hst, sok, hlt, k⟩ := h
    have hr3 : Room 3 _ := hr.mono (by decide)
    have mem := three_mem hs (One.slots_bd ok)
    have slt : s < xs.length := Int.ofNat_lt.mp (hlt _ ((mem _).mpr (.inl rfl)))
    refine ⟨_, pss_cons (ps_expr (pe_c GC hr3 T.g_check_store (pa_cons (pv 1) (pa_cons (pe_pr (pv 0) T.o_If T.p_If_slots GL hr) pa_nil))))
      (pss_one (ps_ret (pe_ifExp (pt_cmpR op_eq (pe_ix ix_tup (pv 1) (pe_fld (pv 0) rfl) (fun _ _ => rfl)) (pe_fld (pv 0) rfl) (nomark _)) (pe_any fun k : Kind => pe_mt (pe_fld (pv 0) rfl) (T.own k) (T.methA k) (GA k) hr (pa_cons (pv 1) pa_nil)) (pv 1)))), ?_⟩
    refine ⟨_, rfl, _, rfl, a, dx, _, rfl, ha, a, dx, b, s, v, ⟨kd, os, ov⟩, rfl, ha, ⟨dy, hb⟩, hs, ok, fun r H1 s1 e1 => ?_⟩
    refine ⟨st, r, xs, _, rfl, s1 _ _ hst, sok, SqL.of e1, Nat.le_trans (three_len _ _) (by decide), hlt, fun H2 s2 => ?_⟩
    have ha2 := s2 _ _ (s1 _ _ ha)
    have hb2 := s2 _ _ (s1 _ _ hb)
    have hst2 := s2 _ _ (s1 _ _ hst)
    refine ⟨_, rfl, _, rfl, a, c_If K, dx, _, _, rfl, ha2, T.o_If.cl, T.n_If_slot, lookA, st, _, _, _, rfl, rfl, SqT.of hst2, at_int slt, _, rfl, a, c_If K, dx, _, _, rfl, ha2, T.o_If.cl, T.n_If_value, lookB slot_value.symm, rfl, _, rfl, ?_⟩
    by_cases hc : xs.getD s 0 = (v : Int)
    · have e : decide (V.int (xs.getD s 0) = V.int (v : Int)) = true := decide_eq_true (by rw [hc])
      rw [e]
      refine iteT ⟨kd, _, rfl, a, c_If K, dx, _, _, rfl, ha2, T.o_If.cl, T.n_If_inner, lookC in_slot in_value, b, dy, _, rfl, hb2, no_apply, _, rfl, b, st, os, ov, xs, rfl, ⟨dy, hb2⟩, ok, hst2, sok, fun n hn => hlt n ((mem n).mpr (.inr hn)), fun r3 H3 s3 e3 => ?_⟩
      refine k r3 H3 ((s1.trans s2).trans s3) ?_
      rw [e3]
      show _ = some (HO.tup ((if xs.getD s 0 = (v : Int) then One.app ⟨kd, os, ov⟩ xs else xs).map V.int))
      rw [if_pos hc]
    · have e : decide (V.int (xs.getD s 0) = V.int (v : Int)) = false := decide_eq_false fun z => hc (V.int.inj z)
      rw [e]
      refine iteF ⟨_, rfl, k st H2 (s1.trans s2) ?_⟩
      rw [hst2]
      show _ = some (HO.tup ((if xs.getD s 0 = (v : Int) then One.app ⟨kd, os, ov⟩ xs else xs).map V.int))
      rw [if_neg hc]
end
end OP
namespace OP
open PySem PySem.Spec PyProof.Rows L2
/-! ### all seven classes -/
inductive CK where
  | of (k : Kind)
  | iff
def CK.cls (K : PySem.W.Frag) : CK → Addr
  | .of k => k.cls K
  | .iff => c_If K
def CK.slotsA (K : PySem.W.Frag) : CK → Addr
  | .of k => OP.slotsA K k
  | .iff => a_If_slots K
def CK.applyA (K : PySem.W.Frag) : CK → Addr
  | .of k => OP.applyA K k
  | .iff => a_If_apply K
def CK.eqA (K : PySem.W.Frag) : CK → Addr
  | .of k => OP.eqA K k
  | .iff => a_If_eq K
def Chg.ck : Chg → CK
  | .one o => .of o.k
  | .iff _ _ _ => .iff
theorem ChgAt.obj {K : PySem.W.Frag} {H : Hp} {a : Addr} {c : Chg} (h : ChgAt K H a c) : ∃ dx fs, H a = some (.ins (c.ck.cls K) dx fs) ∧ fs.lookup ("apply" : Str) = none := by
  cases c with
  | one o =>
    obtain ⟨dx, h⟩ := h
    exact ⟨dx, _, h, no_apply⟩
  | iff s v o =>
    obtain ⟨dx, b, h, _⟩ := h
    refine ⟨dx, _, h, ?_⟩
    have e : (("apply" : Str) == "slot") = false := by decide +kernel
    have e1 : (("apply" : Str) == "value") = false := by decide +kernel
    have e2 : (("apply" : Str) == "inner") = false := by decide +kernel
    simp [ifFlds, List.lookup, e, e1, e2]
section
variable {P : Program} {w : World} {K : PySem.W.Frag} {mg : Str → Option Value} {base : Heap}
theorem Ok.imp {f : Addr} {ps : List Str} {k : Nat} {sp sp' : Sp} (O : Ok P w K mg base f ps k sp) (h : ∀ vs H Q E, sp' vs H Q E → sp vs H Q E) : Ok P w K mg base f ps k sp' := by
  obtain ⟨⟨fd, G, b⟩, kp⟩ := O
  exact ⟨⟨fd, G.imp h, b⟩, kp⟩
theorem Txt.ownC (T : Txt K mg) (q : CK) : Own K (q.cls K) := by
  cases q with
  | of k => exact T.own k
  | iff => exact T.o_If
theorem Txt.kitCC (T : Txt K mg) (q : CK) : PySem.W.kitOne K (.ref (q.cls K)) (.ref (c_Change K)) = some true := by
  cases q with
  | of k => exact T.kitC k
  | iff => exact T.k_If
theorem Txt.propSC (T : Txt K mg) (q : CK) : PropOf K (q.cls K) "slots" (He.ma K (q.cls K) "slots") (q.slotsA K) := by
  cases q with
  | of k => exact T.propS k
  | iff => exact T.p_If_slots
theorem Txt.methAC (T : Txt K mg) (q : CK) : Meth K (q.cls K) "apply" (q.applyA K) := by
  cases q with
  | of k => exact T.methA k
  | iff => exact T.m_If_apply
theorem Txt.methEC (T : Txt K mg) (q : CK) : Meth K (q.cls K) "__eq__" (q.eqA K) := by
  cases q with
  | of k => exact T.methE k
  | iff => exact T.m_If_eq
def spCS (K : PySem.W.Frag) (q : CK) : Sp := fun vs H Q _ => ∃ (a : Addr) (c : Chg), vs = [.ref a] ∧ c.ck = q ∧ ChgAt K H a c ∧ c.Ok ∧ ∀ r H', Same H H' → H' r = some (.lst (c.slots.map V.int)) → Q (.ref r) H'
theorem okC_slots (T : Txt K mg) (q : CK) : Ok P w K mg base (q.slotsA K) ["self"] 3 (spCS K q) := by
  cases q with
  | of k =>
    refine ((ok_slots T k).mono (show 1 ≤ 3 by decide)).imp fun vs H Q E h => ?_
    obtain ⟨a, c, e, hk, hc, ok, q⟩ := h
    cases c with
    | one o =>
      obtain ⟨kd, s, v⟩ := o
      obtain rfl : kd = k := CK.of.inj hk
      exact ⟨a, s, v, e, hc, ok, q⟩
    | iff s v o => cases hk
  | iff =>
    refine (ok_If_slots T).imp fun vs H Q E h => ?_
    obtain ⟨a, c, e, hk, hc, ok, q⟩ := h
    cases c with
    | one o => cases hk
    | iff s v o =>
      obtain ⟨dx, b, h1, h2⟩ := hc
      exact ⟨a, dx, b, s, v, o, e, h1, h2, ok.1, ok.2.2, q⟩
def spCA (K : PySem.W.Frag) (q : CK) : Sp := fun vs H Q _ => ∃ (a st : Addr) (c : Chg) (xs : List Int), vs = [.ref a, .ref st] ∧ c.ck = q ∧ ChgAt K H a c ∧ c.Ok ∧ H st = some (.tup (xs.map V.int)) ∧ StoreOk xs ∧ (∀ n ∈ c.slots, n < (xs.length : Int)) ∧
  ∀ r H', Same H H' → H' r = some (.tup ((c.app xs).map V.int)) → Q (.ref r) H'
theorem okC_apply (T : Txt K mg) (q : CK) : Ok P w K mg base (q.applyA K) ["self", "store"] 5 (spCA K q) := by
  cases q with
  | of k =>
    refine ((ok_apply T k).mono (show 4 ≤ 5 by decide)).imp fun vs H Q E h => ?_
    obtain ⟨a, st, c, xs, e, hk, hc, ok, h1, h2, h3, q⟩ := h
    cases c with
    | one o =>
      obtain ⟨kd, s, v⟩ := o
      obtain rfl : kd = k := CK.of.inj hk
      exact ⟨a, st, s, v, xs, e, hc, ok, h1, h2, h3, q⟩
    | iff s v o => cases hk
  | iff =>
    refine (ok_If_apply T).imp fun vs H Q E h => ?_
    obtain ⟨a, st, c, xs, e, hk, hc, ok, h1, h2, h3, q⟩ := h
    cases c with
    | one o => cases hk
    | iff s v o =>
      obtain ⟨dx, b, g1, g2⟩ := hc
      exact ⟨a, st, dx, b, s, v, o, xs, e, g1, g2, ok.1, ok.2.2, h1, h2, h3, q⟩
/-- two equal changes -/
def REq (K : PySem.W.Frag) (q : CK) (a b : Addr) (H : Hp) : Prop := ∃ c : Chg, c.ck = q ∧ ChgAt K H a c ∧ ChgAt K H b c
theorem op_any {X : Cx} {ι : Type} {f : Value → Value → Sem Value} {r : ι → R2} (h : ∀ i, OpR X f (r i)) : OpR X f (fun x y H Q => ∃ i, r i x y H Q) := fun pins s σ H x y v u Q I rx ry ⟨i, q⟩ => h i pins s σ H x y v u Q I rx ry q
theorem okC_eq1 (T : Txt K mg) (k : Kind) : Ok P w K mg base (OP.eqA K k) ["self", "other"] 1 (spEq (REq K (.of k))) := by
  refine (ok_eq T k).imp fun vs H Q E h => ?_
  obtain ⟨a, b, e, ⟨c, hk, h1, h2⟩, q⟩ := h
  cases c with
  | one o =>
    obtain ⟨kd, s, v⟩ := o
    obtain rfl : kd = k := CK.of.inj hk
    exact ⟨a, b, s, v, e, h1, h2, q H fun _ _ z => z⟩
  | iff s v o => cases hk
theorem rc_of {X : Cx} {n : Nat} {f C : Addr} {ps : List Str} {R : Addr → Addr → Hp → Prop} (O : Ok X.prog X.w X.K X.mg X.base f ps n (spEq R)) (m : Meth X.K C "__eq__" f) : RcG X n (DIns C R) := by
  obtain ⟨⟨fd, G, b⟩, kp⟩ := O
  exact rcG_ins G m.at_ m.fn b pass0
theorem sc_If_eq : FnScope ["self", "other"] ["self", "other"] (defScope s_If_eq) := ⟨rfl, rfl, rfl, by decide +kernel, rfl, by decide +kernel, by decide +kernel⟩
theorem kit_If {K : PySem.W.Frag} : PySem.W.kitOne K (.ref (c_If K)) (.ref (c_If K)) = some true := by
  unfold PySem.W.kitOne
  rw [if_pos (by simp)]
theorem ok_If_eq (T : Txt K mg) : Ok P w K mg base (a_If_eq K) ["self", "other"] 2 (spEq (REq K .iff)) := by
  have GE : ∀ k, Ok P w K mg base (OP.eqA K k) ["self", "other"] 1 (spEq (REq K (.of k))) := okC_eq1 T
  refine ok_of T.f_If_eq sc_If_eq (fun _ _ _ _ _ _ us hl => match us, hl with | [_, _], _ => rfl) (fun vs H Q E h => ?_) (fun cdv A outer s0 H vs Q E hr h => ?_)
  · obtain ⟨a, b, rfl, _⟩ := h
    rfl
  · obtain ⟨a, b, rfl, ⟨c, hk, h1, h2⟩, k⟩ := h
    cases c with
    | one o => cases hk
    | iff s v o =>
      obtain ⟨dx, ia, ha, hia⟩ := h1
      obtain ⟨dy, ib, hb, hib⟩ := h2
      refine ⟨_, pss_one (ps_ret (pe_and (pe_callB call_isi (by rfl) T.z_isinstance (by decide +kernel) (pa_cons (pv 1) (pa_cons (pe_glob (v := .ref (c_If K)) (by rfl) T.g_If rfl) pa_nil)))
        (pe_and (pe_cmpR op_eq (pe_fld (pv 0) rfl) (pe_fld (pv 1) rfl) (nomark _)) (pe_and (pe_cmpR op_eq (pe_fld (pv 0) rfl) (pe_fld (pv 1) rfl) (nomark _))
        (pe_one (pe_cmpR (op_any fun k : Kind => op_eqG (rc_of (GE k) (T.methE k)) hr) (pe_fld (pv 0) rfl) (pe_fld (pv 1) rfl) (nomark _))))))), ?_⟩
      refine ⟨_, rfl, _, _, _, _, true, rfl, .own (c_If K), T.o_If.ty hb, kit_If, true, rfl, iteT ?_⟩
      refine ⟨_, rfl, a, c_If K, dx, _, _, rfl, ha, T.o_If.cl, T.n_If_slot, lookA, _, rfl, b, c_If K, dy, _, _, rfl, hb, T.o_If.cl, T.n_If_slot, lookA, rfl, true, congrArg V.bl (decide_eq_true rfl), iteT ?_⟩
      refine ⟨_, rfl, a, c_If K, dx, _, _, rfl, ha, T.o_If.cl, T.n_If_value, lookB slot_value.symm, _, rfl, b, c_If K, dy, _, _, rfl, hb, T.o_If.cl, T.n_If_value, lookB slot_value.symm, rfl, true, congrArg V.bl (decide_eq_true rfl), iteT ?_⟩
      refine ⟨_, rfl, a, c_If K, dx, _, _, rfl, ha, T.o_If.cl, T.n_If_inner, lookC in_slot in_value, _, rfl, b, c_If K, dy, _, _, rfl, hb, T.o_If.cl, T.n_If_inner, lookC in_slot in_value, o.k, ⟨ia, ib, ?_⟩, fun H' e => k H' e⟩
      obtain ⟨du, hu⟩ := id hia
      obtain ⟨dv, hv⟩ := id hib
      exact ⟨du, dv, _, _, rfl, rfl, hu, hv, .one o, rfl, hia, hib⟩
theorem okC_eq (T : Txt K mg) (q : CK) : Ok P w K mg base (q.eqA K) ["self", "other"] 2 (spEq (REq K q)) := by
  cases q with
  | of k => exact (okC_eq1 T k).mono (show 1 ≤ 2 by decide)
  | iff => exact ok_If_eq T
end
end OP
namespace OP
open PySem PySem.Spec PyProof.Rows L2
/-- a comprehension over any walk that leaves the heap as it is, each element's value known -/
theorem lcW_map {J : It} {n : Nat} {G : Hp → Prop} {Y : Nat → Hp → V → Hp → Prop} {D : Addr} {te : TE} {j : Nat} {σ : L2.St} {H1 : Hp} {Qd : Hp → Prop} (Ix : Nat → V → Prop) (ys : List V) (wk : Walk J n G Y) (hD : H1 D = none) (hsz : n ≤ 1000) (hy : ys.length = n)
    (hG : ∀ H, Same H1 H → G H) (hY : ∀ i H x H', i < n → Y i H x H' → H' = H ∧ Ix i x)
    (hs : ∀ (i : Nat) x y H (Qe : VK), Ix i x → ys[i]? = some y → Same H1 H → (∀ H', Same H H' → Qe y H') → te ((wipe σ [j]).set j (some x)) H Qe)
    (hd : ∀ H, Same H1 H → H D = some (.lst ys) → Qd H)
    (hw : ∀ x, wipe ((wipe σ [j]).set j (some x)) [j] = wipe σ [j] := by intro _; rfl) : LcOk J (gName j) tYes te [j] σ H1 D Qd := by
  refine lc_it wk (fun i H => Grow H1 D (ys.take i) H) (by rw [List.take_zero]; exact Grow.start hD) (fun i H _ g => hG H g.1) (fun i x H H' hi g y => ?_) (fun H g => ?_)
  · obtain ⟨rfl, hx⟩ := hY i H x H' hi y
    refine ⟨hw x, tyes (iteT ?_)⟩
    have hil : i < ys.length := by rw [hy]; exact hi
    refine hs i x ys[i] H' _ hx (List.getElem?_eq_getElem hil) g.1 fun H2 s2 => ?_
    obtain ⟨e1, g2⟩ := g.step (y := ys[i]) hD s2
    refine ⟨_, e1, small1000 (by rw [List.length_take]; omega), ?_⟩
    rw [show ys.take (i + 1) = ys.take i ++ [ys[i]] by rw [List.take_add_one, List.getElem?_eq_getElem hil] <;> rfl]
    exact g2
  · rw [List.take_of_length_le (by omega)] at g
    exact hd H g.1 g.2
section
variable {P : Program} {w : World} {K : PySem.W.Frag} {mg : Str → Option Value} {base : Heap}
/-- is_store_of(store, slots) of a store of so many slots -/
def spIsStoreOf : Sp := fun vs H Q _ => ∃ (a : Addr) (xs : List Int) (n : Int), vs = [.ref a, .int n] ∧ H a = some (.tup (xs.map V.int)) ∧ StoreOk xs ∧ n = (xs.length : Int) ∧ ∀ H', Same H H' → Q (.bl true) H'
theorem sc_iso : FnScope ["store", "slots"] ["store", "slots"] (defScope s_is_store_of) := ⟨rfl, rfl, rfl, by decide +kernel, rfl, by decide +kernel, by decide +kernel⟩
theorem ok_is_store_of (T : Txt K mg) : Ok P w K mg base (a_is_store_of K) ["store", "slots"] 3 spIsStoreOf := by
  have GS : Ok P w K mg base (a_is_store K) _ 2 spIsStore := ok_is_store T
  refine ok_of T.f_is_store_of sc_iso (fun _ _ _ _ _ _ us hl => match us, hl with | [_, _], _ => rfl) (fun vs H Q E h => ?_) (fun cdv A outer s H vs Q E hr h => ?_)
  · obtain ⟨a, xs, n, rfl, _⟩ := h
    rfl
  · obtain ⟨a, xs, n, rfl, ha, ok, e, k⟩ := h
    refine ⟨_, pss_one (ps_ret (pe_and (pe_c GS hr T.g_is_store (pa_cons (pv 0) pa_nil)) (pe_one (pe_cmpR op_eq (pe_callB call_len_seq (by rfl) T.z_len PySem.boot_len (pa_cons (pv 0) pa_nil)) (pv 1) (nomark _))))), ?_⟩
    refine ⟨_, rfl, a, xs, rfl, ha, ok, fun H1 s1 => ⟨true, rfl, iteT ?_⟩⟩
    refine ⟨_, rfl, a, _, rfl, .inr (SqT.of (s1 _ _ ha)), _, rfl, rfl, ?_⟩
    have e2 : decide (V.int ((xs.map V.int).length : Int) = V.int n) = true := decide_eq_true (by rw [List.length_map, e])
    show Q (.bl (decide (V.int ((xs.map V.int).length : Int) = V.int n))) H1
    rw [e2]
    exact k H1 s1
/-- stores at their places -/
abbrev Sts := List (Addr × List Int)
def StsAt (H : Hp) (S : Sts) : Prop := ∀ p ∈ S, H p.1 = some (.tup (p.2.map V.int))
theorem StsAt.ext {H H' : Hp} {S : Sts} (e : Same H H') (h : StsAt H S) : StsAt H' S := fun p hp => e _ _ (h p hp)
structure StsOk (n : Nat) (S : Sts) : Prop where
  lo : 1 ≤ S.length
  hi : S.length ≤ 8
  each : ∀ p ∈ S, StoreOk p.2 ∧ p.2.length = n
  nd : (S.map (·.2)).Nodup
def refs (S : Sts) : List V := S.map fun p => V.ref p.1
def spInitial (K : PySem.W.Frag) : Sp := fun vs H Q _ => ∃ (l : Addr) (S : Sts) (n : Nat), vs = [.ref l, .int n] ∧ H l = some (.lst (refs S)) ∧ StsAt H S ∧ StsOk n S ∧ ∀ H', Same H H' → Q (.bl true) H'
theorem sc_ais : FnScope ["stores", "slots", "store"] ["stores", "slots"] (defScope s_are_initial_stores) := ⟨rfl, rfl, rfl, by decide +kernel, rfl, by decide +kernel, by decide +kernel⟩
theorem kit_list {K : PySem.W.Frag} : PySem.W.kitOne K (.type "list") (.type "list") = some true := kit_ty (by decide +kernel)
theorem ok_initial (T : Txt K mg) : Ok P w K mg base (a_are_initial_stores K) ["stores", "slots"] 4 (spInitial K) := by
  have GO : Ok P w K mg base (a_is_store_of K) _ 3 spIsStoreOf := ok_is_store_of T
  obtain ⟨t8, m8⟩ := T.i_MOST_STORES
  refine ok_of T.f_are_initial_stores sc_ais (fun _ _ _ _ _ _ us hl => match us, hl with | [_, _], _ => rfl) (fun vs H Q E h => ?_) (fun cdv A outer s H vs Q E hr h => ?_)
  · obtain ⟨l, S, n, rfl, _⟩ := h
    rfl
  · obtain ⟨l, S, n, rfl, hl, hS, ⟨lo, hi, each, nd⟩, k⟩ := h
    have hu : _ + 64 < cLine := hr.units
    have hlen : (refs S).length = S.length := List.length_map ..
    refine ⟨_, pss_cons (ps_if (PW.pt (pw_or (pt_not (pt_val (pe_callB call_isiT (by rfl) T.z_isinstance (by decide +kernel) (pa_cons (pv 0) (pa_cons (pe_tup (pa_cons (pe_bltn (v := .ty "list") (by rfl) T.z_list (by decide +kernel) rfl) (pa_cons (pe_bltn (v := .ty "tuple") (by rfl) T.z_tuple (by decide +kernel) rfl) pa_nil))) pa_nil)))))
        (pw_or1 (pt_not (pt_chain op_le op_le pe_int (pe_callB call_len_seq (by rfl) T.z_len PySem.boot_len (pa_cons (pv 0) pa_nil)) (pe_glob (v := .int 8) (by rfl) m8 ⟨_, rfl⟩))))))
        (pss_one (ps_ret pe_bl)) pss_nil)
      (pss_one (ps_ret (pe_and (pe_callB (cr_all rfl) (by rfl) T.z_all (by decide +kernel) (pa_cons (pe_lc (own := [("store", 2)]) (g := gName 2) (tt := tYes) rfl sc_ais.nd (pi_list (pv 0)) (blkOk_by (own := [("store", 2)]) (N := ["stores", "slots", "store"]) (sc := defScope s_are_initial_stores) (by decide +kernel))
        (fun _ _ _ _ _ => pg_name (i := 2) sc_ais.nd rfl (Or.inl rfl)) (fun _ _ _ _ _ => pts_nil)
        (fun _ _ _ _ _ => pe_c GO hr T.g_is_store_of (pa_cons (pv 2) (pa_cons (pv 1) pa_nil)))) pa_nil))
        (pe_one (pe_cmpR op_eq (pe_callB call_lenT (by rfl) T.z_len PySem.boot_len (pa_cons (pe_callTy (cr_setOfT rfl hu) (by rfl) T.z_set (by decide +kernel) (pa_cons (pv 0) pa_nil)) pa_nil)) (pe_callB call_len_seq (by rfl) T.z_len PySem.boot_len (pa_cons (pv 0) pa_nil)) (nomark _)))))), ?_⟩
    refine ⟨_, rfl, (by show 2 ≤ sizeLine; decide), fun t ht => ?_⟩
    have s1 : Same H _ := same_upd (o := .tup [V.ty "list", V.ty "tuple"]) ht
    refine ⟨_, t, _, .type "list", [.type "list", .type "tuple"], true, rfl, upd_same, .cons (.ty _) (.cons (.ty _) .nil), .base (.lst (s1 _ _ hl)), kitAny_cons kit_list (fun z => by cases z) (fun _ => rfl), true, rfl, iteF ?_⟩
    refine ⟨_, rfl, l, _, rfl, .inl (SqL.of (s1 _ _ hl)), _, _, rfl, rfl, true, ?_, iteT ⟨_, _, rfl, rfl, true, ?_, iteF ?_⟩⟩
    · rw [hlen]
      exact congrArg V.bl (decide_eq_true (by omega))
    · rw [hlen]
      exact congrArg V.bl (decide_eq_true (by omega))
    refine ⟨_, rfl, l, rfl, ⟨_, SqL.of (s1 _ _ hl)⟩, fun D hD => ?_⟩
    refine lcL_map (K := K) (a := l) (xs := refs S) (List.replicate S.length (.bl true)) hD (SqL.of (s1 _ _ hl)) (by rw [hlen]; omega) (by rw [hlen, List.length_replicate]) (fun i x y H' Qe hx hy s2 kk => ?_) fun H' s2 e => ?_
    · obtain rfl := rep_at hy
      unfold refs at hx
      rw [List.getElem?_map] at hx
      obtain ⟨p, hp, rfl⟩ := Option.map_eq_some_iff.mp hx
      have mem := List.mem_of_getElem? hp
      exact ⟨_, rfl, _, rfl, p.1, p.2, n, rfl, s2 _ _ (s1 _ _ (hS p mem)), (each p mem).1, by rw [(each p mem).2], kk⟩
    · refine ⟨D, List.replicate S.length true, rfl, ?_, true, by rw [all_true], iteT ?_⟩
      · rw [map_rep]
        exact SqL.of e
      have s3 := s1.trans s2
      refine ⟨_, rfl, l, S, rfl, SqL.of (s3 _ _ hl), fun p hp => SqT.of (s3 _ _ (hS p hp)), by omega, fun q L hq sub all => ?_⟩
      refine ⟨q, L, rfl, upd_same, fun ndL => ?_⟩
      have s4 : Same H' _ := same_upd (o := SetTO P w q L) hq
      refine ⟨_, rfl, l, _, rfl, .inl (SqL.of (s4 _ _ (s3 _ _ hl))), rfl, ?_⟩
      have l1 : (L.map (·.2)).length ≤ (S.map (·.2)).length := nodup_le ndL fun z hz => by
        obtain ⟨p, hp, e2⟩ := List.mem_map.mp hz
        exact List.mem_map.mpr ⟨p, sub p hp, e2⟩
      have l2 : (S.map (·.2)).length ≤ (L.map (·.2)).length := nodup_le nd fun z hz => by
        obtain ⟨p, hp, e2⟩ := List.mem_map.mp hz
        rw [← e2]
        exact all p hp
      rw [List.length_map, List.length_map] at l1 l2
      have e2 : decide (V.int (L.length : Int) = V.int ((refs S).length : Int)) = true := decide_eq_true (by rw [hlen, Nat.le_antisymm l1 l2])
      show Q (.bl (decide (V.int (L.length : Int) = V.int ((refs S).length : Int)))) _
      rw [e2]
      exact k _ (s3.trans s4)
/-- a name: one to eight lowercase letters -/
structure NameOk (x : Str) : Prop where
  lo : 1 ≤ x.length
  hi : x.length ≤ 8
  each : ∀ c ∈ x.cps.toList, c ∈ ("abcdefghijklmnopqrstuvwxyz" : Str).cps.toList
def spIsName : Sp := fun vs H Q _ => ∃ x : Str, vs = [.str x] ∧ NameOk x ∧ ∀ H', Same H H' → Q (.bl true) H'
theorem kit_str {K : PySem.W.Frag} : PySem.W.kitOne K (.type "str") (.type "str") = some true := kit_ty (by decide +kernel)
theorem sc_in : FnScope ["name", "letter"] ["name"] (defScope s_is_name) := ⟨rfl, rfl, rfl, by decide +kernel, rfl, by decide +kernel, by decide +kernel⟩
theorem ok_is_name (T : Txt K mg) : Ok P w K mg base (a_is_name K) ["name"] 1 spIsName := by
  obtain ⟨t8, m8⟩ := T.i_MOST_LETTERS
  obtain ⟨tl, ml⟩ := T.letters
  refine ok_of T.f_is_name sc_in (fun _ _ _ _ _ _ us hl => match us, hl with | [_], _ => rfl) (fun vs H Q E h => ?_) (fun cdv A outer s H vs Q E hr h => ?_)
  · obtain ⟨x, rfl, _⟩ := h
    rfl
  · obtain ⟨x, rfl, ⟨lo, hi, each⟩, k⟩ := h
    refine ⟨_, pss_cons (ps_if (PW.pt (pw_or (pt_not (pt_val (pe_callB call_isi (by rfl) T.z_isinstance (by decide +kernel) (pa_cons (pv 0) (pa_cons (pe_bltn (v := .ty "str") (by rfl) T.z_str (by decide +kernel) rfl) pa_nil)))))
        (pw_or1 (pt_not (pt_chain op_le op_le pe_int (pe_callB call_len_str (by rfl) T.z_len PySem.boot_len (pa_cons (pv 0) pa_nil)) (pe_glob (v := .int 8) (by rfl) m8 ⟨_, rfl⟩))))))
        (pss_one (ps_ret pe_bl)) pss_nil)
      (pss_one (ps_ret (pe_callB (cr_all rfl) (by rfl) T.z_all (by decide +kernel) (pa_cons (pe_lc (own := [("letter", 1)]) (g := gName 1) (tt := tYes) rfl sc_in.nd (pi_str (pv 0)) (blkOk_by (own := [("letter", 1)]) (N := ["name", "letter"]) (sc := defScope s_is_name) (by decide +kernel))
        (fun _ _ _ _ _ => pg_name (i := 1) sc_in.nd rfl (Or.inl rfl)) (fun _ _ _ _ _ => pts_nil)
        (fun _ _ _ _ _ => pe_cmpR op_in_sign (pv 1) (pe_glob (v := .str "abcdefghijklmnopqrstuvwxyz") (by rfl) ml ⟨_, rfl⟩) (by rfl))) pa_nil)))), ?_⟩
    refine ⟨_, rfl, _, _, _, _, true, rfl, .ty "str", .base (.str x), kit_str, true, rfl, iteF ?_⟩
    refine ⟨_, rfl, x, rfl, Nat.le_trans hi (by decide), _, _, rfl, rfl, true, congrArg V.bl (decide_eq_true (by omega)), iteT ⟨_, _, rfl, rfl, true, congrArg V.bl (decide_eq_true (by omega)), iteF ?_⟩⟩
    refine ⟨_, rfl, x, rfl, fun D hD => ?_⟩
    have hn : x.cps.size = x.length := rfl
    refine lcW_map (fun i v => ∃ c, x.cps[i]? = some c ∧ v = .str ⟨#[c]⟩) (List.replicate x.cps.size (.bl true)) walk_str hD (by rw [hn]; omega) (List.length_replicate ..) (fun _ _ => trivial) (fun i H1 v H2 _ y => y) (fun i v y H1 Qe hx hy s2 kk => ?_) fun H1 s2 e => ?_
    · obtain rfl := rep_at hy
      obtain ⟨c, hc, rfl⟩ := hx
      have mem : c ∈ x.cps.toList := by
        have q : x.cps.toList[i]? = some c := by rw [Array.getElem?_toList]; exact hc
        exact List.mem_of_getElem? q
      refine ⟨_, rfl, c, _, rfl, rfl, ?_⟩
      rw [decide_eq_true (each c mem)]
      exact kk H1 (Same.refl _)
    · refine ⟨D, List.replicate x.cps.size true, rfl, ?_, ?_⟩
      · rw [map_rep]
        exact SqL.of e
      · rw [all_true]
        exact k H1 s2
/-- uses_only(change, slots) -/
def spUses (K : PySem.W.Frag) : Sp := fun vs H Q _ => ∃ (a : Addr) (c : Chg) (n : Nat), vs = [.ref a, .int n] ∧ ChgAt K H a c ∧ c.Ok ∧ (∀ z ∈ c.slots, z < (n : Int)) ∧ ∀ H', Same H H' → Q (.bl true) H'
theorem Chg.slots_len (c : Chg) : c.slots.length ≤ 3 := by
  cases c with
  | one o => exact Nat.le_succ_of_le (One.slots_len o)
  | iff s v o => exact three_len _ _
theorem sc_uo : FnScope ["change", "slots", "slot"] ["change", "slots"] (defScope s_uses_only) := ⟨rfl, rfl, rfl, by decide +kernel, rfl, by decide +kernel, by decide +kernel⟩
theorem ok_uses_only (T : Txt K mg) : Ok P w K mg base (a_uses_only K) ["change", "slots"] 5 (spUses K) := by
  have GL : ∀ q, Ok P w K mg base (CK.slotsA K q) ["self"] 3 (spCS K q) := okC_slots T
  refine ok_of T.f_uses_only sc_uo (fun _ _ _ _ _ _ us hl => match us, hl with | [_, _], _ => rfl) (fun vs H Q E h => ?_) (fun cdv A outer s H vs Q E hr h => ?_)
  · obtain ⟨a, c, n, rfl, _⟩ := h
    rfl
  · obtain ⟨a, c, n, rfl, ha, ok, hlt, k⟩ := h
    obtain ⟨dx, fs, ho, _⟩ := ha.obj
    refine ⟨_, pss_one (ps_ret (pe_and (pe_callB call_isi (by rfl) T.z_isinstance (by decide +kernel) (pa_cons (pv 0) (pa_cons (pe_glob (v := .ref (c_Change K)) (by rfl) T.g_Change rfl) pa_nil)))
      (pe_one (pe_callB (cr_all rfl) (by rfl) T.z_all (by decide +kernel) (pa_cons (pe_lc (own := [("slot", 2)]) (g := gName 2) (tt := tYes) rfl sc_uo.nd (pi_list (pe_any fun q : CK => pe_pr (pv 0) (T.ownC q) (T.propSC q) (GL q) hr)) (blkOk_by (own := [("slot", 2)]) (N := ["change", "slots", "slot"]) (sc := defScope s_uses_only) (by decide +kernel))
        (fun _ _ _ _ _ => pg_name (i := 2) sc_uo.nd rfl (Or.inl rfl)) (fun _ _ _ _ _ => pts_nil)
        (fun _ _ _ _ _ => pe_cmpR op_lt (pv 2) (pv 1) (nomark _))) pa_nil))))), ?_⟩
    refine ⟨_, rfl, _, _, _, _, true, rfl, .own (c_Change K), (T.ownC c.ck).ty ho, T.kitCC c.ck, true, rfl, iteT ?_⟩
    refine ⟨c.ck, _, rfl, a, dx, fs, rfl, ho, a, c, rfl, rfl, ha, ok, fun r H1 s1 e1 => ⟨r, rfl, ⟨_, SqL.of e1⟩, fun D hD => ?_⟩⟩
    have hm : (c.slots.map V.int).length = c.slots.length := List.length_map ..
    refine lcL_map (K := K) (a := r) (xs := c.slots.map V.int) (List.replicate c.slots.length (.bl true)) hD (SqL.of e1) (by rw [hm]; exact Nat.le_trans (Chg.slots_len c) (by decide)) (by rw [hm, List.length_replicate]) (fun i x y H' Qe hx hy s2 kk => ?_) fun H' s2 e => ?_
    · obtain ⟨z, hz, rfl⟩ := ints_at hx
      obtain rfl := rep_at hy
      refine ⟨_, rfl, _, rfl, _, _, rfl, rfl, ?_⟩
      show Qe (.bl (decide (z < (n : Int)))) H'
      rw [decide_eq_true (hlt z (List.mem_of_getElem? hz))]
      exact kk H' (Same.refl _)
    · refine ⟨D, List.replicate c.slots.length true, rfl, ?_, ?_⟩
      · rw [map_rep]
        exact SqL.of e
      · rw [all_true]
        exact k H' (s1.trans s2)
end
end OP
namespace OP
open PySem PySem.Spec PyProof.Rows L2
/-! ### named changes: name, place, what it is -/
abbrev Ncs := List (Str × Addr × Chg)
def kvs (L : Ncs) : List (Key × V) := L.map fun p => (Sum.inr p.1, V.ref p.2.1)
def names (L : Ncs) : List Str := L.map (·.1)
def ChgsAt (K : PySem.W.Frag) (H : Hp) (L : Ncs) : Prop := ∀ p ∈ L, ChgAt K H p.2.1 p.2.2
structure ChgsOk (n : Nat) (L : Ncs) : Prop where
  lo : 2 ≤ L.length
  hi : L.length ≤ 4
  name : ∀ p ∈ L, NameOk p.1
  chg : ∀ p ∈ L, p.2.2.Ok ∧ ∀ z ∈ p.2.2.slots, z < (n : Int)
  nd : (names L).Nodup
theorem ChgsAt.ext {K : PySem.W.Frag} {H H' : Hp} {L : Ncs} (e : Same H H') (h : ChgsAt K H L) : ChgsAt K H' L := fun p hp => (h p hp).ext e
theorem ins_ne {H : Hp} {a d C dx : Addr} {fs : List (Str × V)} {kv : List (Key × V)} (h : H a = some (.ins C dx fs)) (hd : H d = some (.dK kv)) : a ≠ d := fun z => by
  rw [z, hd] at h
  cases h
theorem OneAt.lock {K : PySem.W.Frag} {H : Hp} {a d : Addr} {o : One} {kv : List (Key × V)} {u : HO} (hd : H d = some (.dK kv)) (h : OneAt K H a o) : OneAt K (upd H d u) a o := by
  obtain ⟨dx, h⟩ := h
  exact ⟨dx, by rw [upd_ne (ins_ne h hd)]; exact h⟩
theorem ChgAt.lock {K : PySem.W.Frag} {H : Hp} {a d : Addr} {c : Chg} {kv : List (Key × V)} {u : HO} (hd : H d = some (.dK kv)) (h : ChgAt K H a c) : ChgAt K (upd H d u) a c := by
  cases c with
  | one o => exact OneAt.lock hd h
  | iff s v o =>
    obtain ⟨dx, b, h1, h2⟩ := h
    exact ⟨dx, b, by rw [upd_ne (ins_ne h1 hd)]; exact h1, OneAt.lock hd h2⟩
theorem lock_same {H H' : Hp} {d : Addr} {u v : HO} (hd : H d = some u) (s : Same (upd H d v) H') : Same H (upd H' d u) := fun b o e => by
  by_cases hb : b = d
  · rw [hb, upd_same, ← hd, ← e, hb]
  · rw [upd_ne hb]
    exact s _ _ (by rw [upd_ne hb]; exact e)
theorem kvs_at {L : Ncs} {i : Nat} (h : i < L.length) : (kvs L)[i]? = some (Sum.inr L[i].1, V.ref L[i].2.1) := by
  unfold kvs
  rw [List.getElem?_map, List.getElem?_eq_getElem h] <;> rfl
theorem kvs_len (L : Ncs) : (kvs L).length = L.length := List.length_map ..
section
variable {P : Program} {w : World} {K : PySem.W.Frag} {mg : Str → Option Value} {base : Heap}
def spCheckChanges (K : PySem.W.Frag) : Sp := fun vs H Q _ => ∃ (d : Addr) (L : Ncs) (n : Nat), vs = [.ref d, .int n] ∧ H d = some (.dK (kvs L)) ∧ ChgsAt K H L ∧ ChgsOk n L ∧ ∀ H', Same H H' → Q .non H'
theorem kit_dict {K : PySem.W.Frag} : PySem.W.kitOne K (.type "dict") (.type "dict") = some true := kit_ty (by decide +kernel)
theorem sc_cc : FnScope ["changes", "slots", "name", "change"] ["changes", "slots"] (defScope s_check_changes) := ⟨rfl, rfl, rfl, by decide +kernel, rfl, by decide +kernel, by decide +kernel⟩
theorem ok_check_changes (T : Txt K mg) : Ok P w K mg base (a_check_changes K) ["changes", "slots"] 6 (spCheckChanges K) := by
  have GN : Ok P w K mg base (a_is_name K) _ 1 spIsName := ok_is_name T
  have GU : Ok P w K mg base (a_uses_only K) _ 5 (spUses K) := ok_uses_only T
  obtain ⟨t2, m2⟩ := T.i_LEAST_CHANGES
  obtain ⟨t4, m4⟩ := T.i_MOST_CHANGES
  refine ok_of T.f_check_changes sc_cc (fun _ _ _ _ _ _ us hl => match us, hl with | [_, _], _ => rfl) (fun vs H Q E h => ?_) (fun cdv A outer s0 H vs Q E hr h => ?_)
  · obtain ⟨d, L, n, rfl, _⟩ := h
    rfl
  · obtain ⟨d, L, n, rfl, hd, hL, ⟨lo, hi, nm, ch, _⟩, k⟩ := h
    have hr1 : Room 1 _ := hr.mono (by decide)
    refine ⟨_, pss_cons (ps_if (PW.pt (pw_or (pt_not (pt_val (pe_callB call_isi (by rfl) T.z_isinstance (by decide +kernel) (pa_cons (pv 0) (pa_cons (pe_bltn (v := .ty "dict") (by rfl) T.z_dict (by decide +kernel) rfl) pa_nil)))))
        (pw_or1 (pt_not (pt_chain op_le op_le (pe_glob (v := .int 2) (by rfl) m2 ⟨_, rfl⟩) (pe_callB call_lenD (by rfl) T.z_len PySem.boot_len (pa_cons (pv 0) pa_nil)) (pe_glob (v := .int 4) (by rfl) m4 ⟨_, rfl⟩))))))
        (pss_one ps_never) pss_nil)
      (pss_one (ps_lock (ps_for PassesOwn.never rfl (pi_items (pv 0)) (pg_tup rfl (pgs_cons (pg_name (i := 2) sc_cc.nd rfl (Or.inl rfl)) (pgs_cons (pg_name (i := 3) sc_cc.nd rfl (Or.inl rfl)) pgs_nil)))
        (pss_one (ps_if (PW.pt (pw_or (pt_not (pt_val (pe_c GN hr1 T.g_is_name (pa_cons (pv 2) pa_nil)))) (pw_or1 (pt_not (pt_val (pe_c GU hr T.g_uses_only (pa_cons (pv 3) (pa_cons (pv 1) pa_nil)))))))) (pss_one ps_never) pss_nil))))), ?_⟩
    refine ⟨_, rfl, _, _, _, _, true, rfl, .ty "dict", .base (.dK hd), kit_dict, true, rfl, iteF ?_⟩
    refine ⟨_, rfl, d, _, rfl, hd, _, _, rfl, rfl, true, ?_, iteT ⟨_, _, rfl, rfl, true, ?_, iteF ?_⟩⟩
    · rw [kvs_len]
      exact congrArg V.bl (decide_eq_true (by omega))
    · rw [kvs_len]
      exact congrArg V.bl (decide_eq_true (by omega))
    refine ⟨d, _, hd, trivial, fun od => ⟨_, rfl, d, od, kvs L, rfl, upd_same, ?_⟩⟩
    refine for_it walk_items (fun _ σ H' => (∃ v2 v3, σ = [some (.ref d), some (.int n), v2, v3]) ∧ Same (upd H d (.frz od (.dK (kvs L)))) H') ⟨⟨none, none, rfl⟩, Same.refl _⟩ (fun i σ H' _ p => p.2 _ _ upd_same) (fun i x σ H1 H2 hi p y => ?_) (fun σ H' p => ?_)
    · obtain ⟨⟨v2, v3, rfl⟩, s1⟩ := p
      obtain ⟨t, x1, x2, rfl, ht, rfl, e1, e2⟩ := y
      have hiL : i < L.length := by rw [kvs_len] at hi; exact hi
      dsimp only at e1 e2
      rw [kvs_at hiL] at e1 e2
      cases e1
      cases e2
      have mem : L[i] ∈ L := List.getElem_mem hiL
      have s2 : Same H1 _ := same_upd (o := .tup [V.str L[i].1, V.ref L[i].2.1]) ht
      refine ⟨t, _, rfl, SqT.of upd_same, rfl, _, _, rfl, _, _, rfl, rfl, ?_⟩
      refine ⟨_, rfl, L[i].1, rfl, nm _ mem, fun H3 s3 => ⟨true, rfl, iteF ?_⟩⟩
      refine ⟨_, rfl, _, rfl, L[i].2.1, L[i].2.2, n, rfl, ((hL _ mem).lock hd).ext ((s1.trans s2).trans s3), (ch _ mem).1, (ch _ mem).2, fun H4 s4 => ⟨true, rfl, iteF ?_⟩⟩
      exact ⟨⟨_, _, rfl⟩, ((s1.trans s2).trans s3).trans s4⟩
    · exact ⟨p.2 _ _ upd_same, k _ (lock_same hd p.2)⟩
end
end OP
namespace OP
open PySem PySem.Spec PyProof.Rows L2
theorem valV_kvs : ∀ {L : Ncs} {i : Nat} (nd : (names L).Nodup) (h : i < L.length), valV (kvs L) (Sum.inr L[i].1 : Key) = some (V.ref L[i].2.1)
  | [], i, _, h => absurd h (Nat.not_lt_zero _)
  | p :: L, 0, _, _ => valV_pos rfl
  | p :: L, i + 1, nd, h => by
    obtain ⟨n1, n2⟩ := List.nodup_cons.mp nd
    have hi : i < L.length := Nat.lt_of_succ_lt_succ h
    have ne : ¬ ((Sum.inr p.1 : Key) = Sum.inr L[i].1) := fun z => n1 (by
      have e : p.1 = L[i].1 := Sum.inr.inj z
      show p.1 ∈ names L
      rw [e]
      exact List.mem_map.mpr ⟨L[i], List.getElem_mem hi, rfl⟩)
    show valV ((Sum.inr p.1, V.ref p.2.1) :: kvs L) (Sum.inr L[i].1 : Key) = _
    rw [valV_neg ne]
    exact valV_kvs n2 hi
theorem valV_not {L : Ncs} {x : Str} (h : x ∉ names L) : valV (kvs L) (Sum.inr x : Key) = none := by
  induction L with
  | nil => rfl
  | cons p L ih =>
    have ne : ¬ ((Sum.inr p.1 : Key) = Sum.inr x) := fun z => h (by
      have e : p.1 = x := Sum.inr.inj z
      show x ∈ p.1 :: names L
      rw [e]
      exact List.mem_cons_self)
    show valV ((Sum.inr p.1, V.ref p.2.1) :: kvs L) (Sum.inr x : Key) = none
    rw [valV_neg ne]
    exact ih fun z => h (List.mem_cons_of_mem _ z)
theorem name_fresh {L : Ncs} {i : Nat} (nd : (names L).Nodup) (h : i < L.length) : L[i].1 ∉ names (L.take i) := fun z => by
  unfold names at z nd
  rw [List.map_take] at z
  obtain ⟨m, hm, em⟩ := List.mem_take_iff_getElem.mp z
  have e2 : (L.map (·.1))[m] = (L.map (·.1))[i]'(by rw [List.length_map]; exact h) := by rw [em, List.getElem_map]
  have := (List.getElem_inj nd).mp e2
  omega
theorem kvs_snoc {L : Ncs} {i : Nat} (nd : (names L).Nodup) (h : i < L.length) : putK (kvs (L.take i)) (Sum.inr L[i].1 : Key) (V.ref L[i].2.1) = kvs (L.take (i + 1)) := by
  rw [putK_new _ (valV_not (name_fresh nd h))]
  have e : L.take (i + 1) = L.take i ++ [L[i]] := by rw [List.take_add_one, List.getElem?_eq_getElem h] <;> rfl
  rw [e]
  unfold kvs
  rw [List.map_append] <;> rfl
/-- a dict comprehension over any walk -/
def DcOk (J : It) (g : TG) (tt : TT) (tk tv : TE) (vs : List Nat) (σ : L2.St) (H1 : Hp) (D : Addr) (Qd : Hp → Prop) : Prop :=
  ∃ W : Nat → Nat → Hp → Prop, (∃ m, W 0 m (upd H1 D (.dK []))) ∧ ∀ i m H, W i m H → (J.stop i H ∧ Qd H) ∨ (J.go i H ∧ ∃ Nx : Hp → Prop, (∀ H', Nx H' → ∃ m', m' < m ∧ W (i + 1) m' H') ∧
    ∀ x H', J.yld i H x H' → g x (wipe σ vs) H' fun σ2 H2 => wipe σ2 vs = wipe σ vs ∧ tt σ2 H2 fun b H3 => if b = true then tk σ2 H3 fun y H4 => tv σ2 H4 fun z H5 => ∃ kv k, y = kV k ∧ H5 D = some (.dK kv) ∧ kv.length < sizeLine ∧ Nx (upd H5 D (.dK (putK kv k z))) else Nx H3)
theorem dc_it {J : It} {n : Nat} {G : Hp → Prop} {Y : Nat → Hp → V → Hp → Prop} (wk : Walk J n G Y) {g : TG} {tt : TT} {tk tv : TE} {vs : List Nat} {σ : L2.St} {H1 : Hp} {D : Addr} {Qd : Hp → Prop} (Pv : Nat → Hp → Prop) (h0 : Pv 0 (upd H1 D (.dK []))) (hG : ∀ i H, i ≤ n → Pv i H → G H)
    (hs : ∀ i x H H', i < n → Pv i H → Y i H x H' → g x (wipe σ vs) H' fun σ2 H2 => wipe σ2 vs = wipe σ vs ∧ tt σ2 H2 fun b H3 =>
      if b = true then tk σ2 H3 fun y H4 => tv σ2 H4 fun z H5 => ∃ kv k, y = kV k ∧ H5 D = some (.dK kv) ∧ kv.length < sizeLine ∧ Pv (i + 1) (upd H5 D (.dK (putK kv k z))) else Pv (i + 1) H3) (hd : ∀ H, Pv n H → Qd H) :
    DcOk J g tt tk tv vs σ H1 D Qd := by
  refine ⟨fun i m H => m = n - i ∧ i ≤ n ∧ Pv i H, ⟨n, rfl, Nat.zero_le _, h0⟩, fun i m H hW => ?_⟩
  obtain ⟨rfl, hi, p⟩ := hW
  by_cases lt : i < n
  · exact .inr ⟨wk.goes i H lt (hG i H hi p), Pv (i + 1), fun H' p' => ⟨n - (i + 1), by omega, rfl, lt, p'⟩, fun x H' y => hs i x H H' lt p (wk.yields i H x H' lt (hG i H hi p) y)⟩
  · obtain rfl : i = n := by omega
    exact .inl ⟨wk.stops H (hG _ H hi p), hd H p⟩
/-! ### worlds -/
def wFlds (n : Nat) (l d : Addr) : List (Str × V) := [("width", .int n), ("starts", .ref l), ("made", .ref d)]
theorem w_s : ("starts" : Str) ≠ "width" := by decide +kernel
theorem w_m : ("made" : Str) ≠ "width" := by decide +kernel
theorem s_m : ("made" : Str) ≠ "starts" := by decide +kernel
structure WorldAt (K : PySem.W.Frag) (H : Hp) (p : Addr) (n : Nat) (S : Sts) (L : Ncs) : Prop where
  ob : ∃ dx l d, H p = some (.ins (c_World K) dx (wFlds n l d)) ∧ H l = some (.lst (refs S)) ∧ H d = some (.dK (kvs L))
  sts : StsAt H S
  chgs : ChgsAt K H L
structure WOk (n : Nat) (S : Sts) (L : Ncs) : Prop where
  n1 : 1 ≤ n
  n3 : n ≤ 3
  sts : StsOk n S
  chgs : ChgsOk n L
theorem WorldAt.ext {K : PySem.W.Frag} {H H' : Hp} {p : Addr} {n : Nat} {S : Sts} {L : Ncs} (e : Same H H') (h : WorldAt K H p n S L) : WorldAt K H' p n S L := by
  obtain ⟨⟨dx, l, d, h1, h2, h3⟩, h4, h5⟩ := h
  exact ⟨⟨dx, l, d, e _ _ h1, e _ _ h2, e _ _ h3⟩, h4.ext e, h5.ext e⟩
theorem OneAt.off {K : PySem.W.Frag} {H H' : Hp} {a p C dp : Addr} {o : One} (hp : H p = some (.ins C dp [])) (e : ∀ b u, b ≠ p → H b = some u → H' b = some u) (h : OneAt K H a o) : OneAt K H' a o := by
  obtain ⟨dx, h⟩ := h
  exact ⟨dx, e _ _ (fun z => by rw [z, hp] at h; cases h) h⟩
theorem ChgAt.off {K : PySem.W.Frag} {H H' : Hp} {a p C dp : Addr} {c : Chg} (hp : H p = some (.ins C dp [])) (e : ∀ b u, b ≠ p → H b = some u → H' b = some u) (h : ChgAt K H a c) : ChgAt K H' a c := by
  cases c with
  | one o => exact OneAt.off hp e h
  | iff s v o =>
    obtain ⟨dx, b, h1, h2⟩ := h
    exact ⟨dx, b, e _ _ (fun z => by rw [z, hp] at h1; cases h1) h1, OneAt.off hp e h2⟩
section
variable {P : Program} {w : World} {K : PySem.W.Frag} {mg : Str → Option Value} {base : Heap}
def spWInit (K : PySem.W.Frag) : Sp := fun vs H Q _ => ∃ (p dx l d : Addr) (n : Nat) (S : Sts) (L : Ncs), vs = [.ref p, .int n, .ref l, .ref d] ∧ WOk n S L ∧ H p = some (.ins (c_World K) dx []) ∧ H l = some (.lst (refs S)) ∧ StsAt H S ∧ H d = some (.dK (kvs L)) ∧ ChgsAt K H L ∧
  ∀ H', (∀ b u, b ≠ p → H b = some u → H' b = some u) → WorldAt K H' p n S L → Q .non H'
theorem sc_wi : FnScope ["self", "slots", "stores", "changes", "name"] ["self", "slots", "stores", "changes"] (defScope s_World_init) := ⟨rfl, rfl, rfl, by decide +kernel, rfl, by decide +kernel, by decide +kernel⟩
theorem ok_World_init (T : Txt K mg) : Ok P w K mg base (a_World_init K) ["self", "slots", "stores", "changes"] 7 (spWInit K) := by
  have GN : Ok P w K mg base (a_is_number K) _ 1 spIsNumber := ok_is_number T
  have GI : Ok P w K mg base (a_are_initial_stores K) _ 4 (spInitial K) := ok_initial T
  have GC : Ok P w K mg base (a_check_changes K) _ 6 (spCheckChanges K) := ok_check_changes T
  obtain ⟨t3, m3⟩ := T.i_MOST_SLOTS
  refine ok_of T.f_World_init sc_wi (fun _ _ _ _ _ _ us hl => match us, hl with | [_, _, _, _], _ => rfl) (fun vs H Q E h => ?_) (fun cdv A outer s0 H vs Q E hr h => ?_)
  · obtain ⟨p, dx, l, d, n, S, L, rfl, _⟩ := h
    rfl
  · obtain ⟨p, dx, l, d, n, S, L, rfl, ok, hp, hl, hS, hd, hL, k⟩ := h
    have hr1 : Room 1 _ := hr.mono (by decide)
    have hr4 : Room 4 _ := hr.mono (by decide)
    have n1 := ok.n1
    have n3 := ok.n3
    refine ⟨_, pss_cons (ps_if (pt_not (pt_val (pe_c GN hr1 T.g_is_number (pa_cons (pv 1) (pa_cons pe_int (pa_cons (pe_glob (v := .int 3) (by rfl) m3 ⟨_, rfl⟩) pa_nil)))))) (pss_one ps_never) pss_nil)
      (pss_cons (ps_if (pt_not (pt_val (pe_c GI hr4 T.g_are_initial_stores (pa_cons (pv 2) (pa_cons (pv 1) pa_nil))))) (pss_one ps_never) pss_nil)
      (pss_cons (ps_expr (pe_c GC hr T.g_check_changes (pa_cons (pv 3) (pa_cons (pv 1) pa_nil))))
      (pss_cons (ps_fld (pv 0) (pv 1) rfl)
      (pss_cons (ps_fld (pv 0) (pe_callTy call_list_of (by rfl) T.z_list (by decide +kernel) (pa_cons (pv 2) pa_nil)) rfl)
      (pss_one (ps_fld (pv 0) (pe_lock (pe_dc (own := [("name", 4)]) (g := gName 4) (tt := tYes) rfl sc_wi.nd (pi_keys (pv 3)) (blkOk_by (own := [("name", 4)]) (N := ["self", "slots", "stores", "changes", "name"]) (sc := defScope s_World_init) (by decide +kernel))
        (fun _ _ _ _ _ => pg_name (i := 4) sc_wi.nd rfl (Or.inl rfl)) (fun _ _ _ _ _ => pts_nil) (fun _ _ _ _ _ => pv 4) (fun _ _ _ _ _ => pe_dget (hu_of hr) (pv 3) (pv 4) (fun _ _ => rfl)))) rfl)))))), ?_⟩
    refine ⟨_, rfl, n, 1, 3, rfl, true, ?_, iteF ?_⟩
    · rw [decide_eq_true (show (1 : Int) ≤ n by omega), decide_eq_true (show (n : Int) ≤ 3 by omega)] <;> rfl
    refine ⟨_, rfl, _, rfl, l, S, n, rfl, hl, hS, ok.sts, fun H1 s1 => ⟨true, rfl, iteF ?_⟩⟩
    refine ⟨_, rfl, _, rfl, d, L, n, rfl, s1 _ _ hd, hL.ext s1, ok.chgs, fun H2 s2 => ?_⟩
    have s12 := s1.trans s2
    have hp2 := s12 _ _ hp
    refine ⟨_, rfl, _, rfl, p, c_World K, dx, [], rfl, hp2, T.o_World.cl, T.n_World_width, (by show 0 < 1000; decide), ?_⟩
    have npl : l ≠ p := fun z => by rw [z, hp] at hl; cases hl
    have npd : d ≠ p := fun z => by rw [z, hp] at hd; cases hd
    refine ⟨_, rfl, l, _, rfl, .inl (SqL.of (by rw [upd_ne npl]; exact s12 _ _ hl)), fun l2 hl2 => ?_⟩
    have nlp : l2 ≠ p := fun z => by rw [z, upd_same] at hl2; cases hl2
    refine ⟨_, rfl, p, c_World K, dx, _, rfl, Eq.trans (upd_ne nlp.symm) upd_same, T.o_World.cl, T.n_World_starts, (by show 1 < 1000; decide), ?_⟩
    -- the heap now
    generalize hH : upd (upd (upd H2 p (.ins (c_World K) dx (putF "width" (.int n) []))) l2 (.lst (refs S))) p (.ins (c_World K) dx (putF "starts" (.ref l2) (putF "width" (.int n) []))) = H5
    have o5 : ∀ b u, b ≠ p → H b = some u → H5 b = some u := fun b u hb e => by
      have e2 := s12 _ _ e
      rw [← hH, upd_ne hb, upd_ne (ne_of_none (by rw [upd_ne hb]; exact e2) hl2), upd_ne hb]
      exact e2
    have hp5 : H5 p = some (.ins (c_World K) dx (putF "starts" (.ref l2) (putF "width" (.int n) []))) := by rw [← hH, upd_same]
    have hl5 : H5 l2 = some (.lst (refs S)) := by rw [← hH, upd_ne nlp, upd_same]
    have hd5 := o5 _ _ npd hd
    refine ⟨d, _, hd5, trivial, fun od => ⟨_, rfl, d, od, rfl, .inl ⟨kvs L, upd_same, fun D hD => ?_⟩⟩⟩
    have nDd : D ≠ d := fun z => by rw [z, upd_same] at hD; cases hD
    have nd := ok.chgs.nd
    refine dc_it walk_keys (fun i H' => (∀ b u, b ≠ D → upd H5 d (.frz od (.dK (kvs L))) b = some u → H' b = some u) ∧ H' D = some (.dK (kvs (L.take i)))) ⟨fun b u hb e => by rw [upd_ne hb]; exact e, upd_same⟩ (fun i H' _ q => q.1 _ _ nDd.symm upd_same) (fun i x H6 H7 hi q y => ?_) (fun H6 q => ?_)
    · obtain ⟨rfl, kk, vv, ekv, rfl⟩ := y
      have hiL : i < L.length := by rw [kvs_len] at hi; exact hi
      rw [kvs_at hiL] at ekv
      cases ekv
      refine ⟨rfl, tyes (iteT ⟨_, rfl, _, rfl, _, rfl, d, V.ref L[i].2.1, rfl, ?_, ?_⟩)⟩
      · exact .inl ⟨kvs L, Sum.inr L[i].1, .inr ⟨od, q.1 _ _ nDd.symm upd_same⟩, rfl, (valV_kvs nd hiL).symm⟩
      · refine ⟨kvs (L.take i), Sum.inr L[i].1, rfl, q.2, small1000 (by rw [kvs_len, List.length_take]; have := ok.chgs.hi; omega), fun b u hb e => ?_, ?_⟩
        · rw [upd_ne hb]
          exact q.1 b u hb e
        · rw [upd_same, kvs_snoc nd hiL]
    · rw [kvs_len, List.take_length] at q
      obtain ⟨q1, q2⟩ := q
      refine ⟨q1 _ _ nDd.symm upd_same, ?_⟩
      have nDp : D ≠ p := fun z => by
        rw [upd_ne nDd, z, hp5] at hD
        cases hD
      have nDl : D ≠ l2 := fun z => by
        rw [upd_ne nDd, z, hl5] at hD
        cases hD
      have n2d : l2 ≠ d := fun z => by
        rw [z, hd5] at hl5
        cases hl5
      have o6 : ∀ b u, b ≠ d → H5 b = some u → upd H6 d (.dK (kvs L)) b = some u := fun b u hb e => by
        rw [upd_ne hb]
        refine q1 b u (fun z => ?_) (by rw [upd_ne hb]; exact e)
        rw [upd_ne nDd, ← z, e] at hD
        cases hD
      have hp6 := o6 _ _ npd.symm hp5
      refine ⟨_, rfl, p, c_World K, dx, _, rfl, hp6, T.o_World.cl, T.n_World_made, (by rw [putF2 w_s.symm]; show 2 < 1000; decide), ?_⟩
      rw [putF3 w_s.symm w_m.symm s_m.symm]
      have o7 : ∀ b u, b ≠ p → H b = some u → upd (upd H6 d (.dK (kvs L))) p (.ins (c_World K) dx [("width", .int n), ("starts", .ref l2), ("made", .ref D)]) b = some u := fun b u hb e => by
        rw [upd_ne hb]
        by_cases hbd : b = d
        · rw [hbd, upd_same]
          rw [hbd, hd] at e
          exact e
        · exact o6 b u hbd (o5 b u hb e)
      refine k _ o7 ⟨⟨dx, l2, D, upd_same, ?_, ?_⟩, fun q hq => ?_, fun q hq => ?_⟩
      · rw [upd_ne nlp]
        exact o6 _ _ n2d hl5
      · rw [upd_ne nDp, upd_ne nDd]
        exact q2
      · exact o7 _ _ (fun z => by have e := hS q hq; rw [z, hp] at e; cases e) (hS q hq)
      · exact (hL q hq).off hp o7
end
end OP
namespace OP
open PySem PySem.Spec PyProof.Rows L2
/-! ### what the changes compute -/
theorem val_ok {o : One} {xs : List Int} (ok : o.Ok) (sx : StoreOk xs) (h : ∀ n ∈ o.slots, n < (xs.length : Int)) : 0 ≤ o.val xs ∧ o.val xs ≤ 7 := by
  obtain ⟨k, s, v⟩ := o
  have v7 : v ≤ 7 := ok.v7
  have at_ : ∀ i, i < xs.length → 0 ≤ xs.getD i 0 ∧ xs.getD i 0 ≤ 7 := fun i hi => sx.each _ (List.mem_of_getElem? (getD_at hi))
  have hs := at_ s (Int.ofNat_lt.mp (h _ (One.s_mem ⟨k, s, v⟩)))
  cases k with
  | put => show 0 ≤ (v : Int) ∧ (v : Int) ≤ 7; omega
  | move => exact at_ v (Int.ofNat_lt.mp (h _ (One.v_mem ⟨.move, s, v⟩ rfl)))
  | add => show 0 ≤ (xs.getD s 0 + v) % 8 ∧ (xs.getD s 0 + v) % 8 ≤ 7; omega
  | addslot => show 0 ≤ (xs.getD s 0 + xs.getD v 0) % 8 ∧ (xs.getD s 0 + xs.getD v 0) % 8 ≤ 7; omega
  | rais =>
    show 0 ≤ (if (v : Int) > xs.getD s 0 then (v : Int) else xs.getD s 0) ∧ (if (v : Int) > xs.getD s 0 then (v : Int) else xs.getD s 0) ≤ 7
    split <;> omega
  | lower =>
    show 0 ≤ (if (v : Int) < xs.getD s 0 then (v : Int) else xs.getD s 0) ∧ (if (v : Int) < xs.getD s 0 then (v : Int) else xs.getD s 0) ≤ 7
    split <;> omega
theorem One.app_ok {o : One} {xs : List Int} (ok : o.Ok) (sx : StoreOk xs) (h : ∀ n ∈ o.slots, n < (xs.length : Int)) : StoreOk (o.app xs) ∧ (o.app xs).length = xs.length := by
  have hl : (o.app xs).length = xs.length := List.length_set ..
  refine ⟨⟨by rw [hl]; exact sx.lo, by rw [hl]; exact sx.hi, fun z hz => ?_⟩, hl⟩
  rcases List.mem_or_eq_of_mem_set hz with q | q
  · exact sx.each z q
  · rw [q]
    exact val_ok ok sx h
theorem Chg.app_ok {c : Chg} {xs : List Int} (ok : c.Ok) (sx : StoreOk xs) (h : ∀ n ∈ c.slots, n < (xs.length : Int)) : StoreOk (c.app xs) ∧ (c.app xs).length = xs.length := by
  cases c with
  | one o => exact One.app_ok ok sx h
  | iff s v o =>
    show StoreOk (if xs.getD s 0 = (v : Int) then o.app xs else xs) ∧ (if xs.getD s 0 = (v : Int) then o.app xs else xs).length = xs.length
    split
    · exact One.app_ok ok.2.2 sx fun n hn => h n ((three_mem ok.1 (One.slots_bd ok.2.2) n).mpr (.inr hn))
    · exact ⟨sx, rfl⟩
/-- the change of a name -/
def chgOf (L : Ncs) (x : Str) : Chg := ((L.find? fun p => decide (p.1 = x)).map (·.2.2)).getD (.one ⟨.put, 0, 0⟩)
def appAll (L : Ncs) (ys : List Str) (xs : List Int) : List Int := ys.foldl (fun z y => (chgOf L y).app z) xs
theorem mem_names {L : Ncs} {x : Str} (h : x ∈ names L) : ∃ i, ∃ hi : i < L.length, L[i].1 = x := by
  obtain ⟨p, hp, e⟩ := List.mem_map.mp h
  obtain ⟨i, hi, e2⟩ := List.mem_iff_getElem.mp hp
  exact ⟨i, hi, by rw [e2]; exact e⟩
theorem chgOf_at : ∀ {L : Ncs} {i : Nat} (nd : (names L).Nodup) (h : i < L.length), chgOf L L[i].1 = L[i].2.2
  | [], i, _, h => absurd h (Nat.not_lt_zero _)
  | p :: L, 0, _, _ => by
    show chgOf (p :: L) p.1 = p.2.2
    unfold chgOf
    rw [List.find?_cons_of_pos (by simp)] <;> rfl
  | p :: L, i + 1, nd, h => by
    obtain ⟨n1, n2⟩ := List.nodup_cons.mp nd
    have hi : i < L.length := Nat.lt_of_succ_lt_succ h
    have ne : ¬ (p.1 = L[i].1) := fun z => n1 (by
      show p.1 ∈ names L
      rw [z]
      exact List.mem_map.mpr ⟨L[i], List.getElem_mem hi, rfl⟩)
    have ih := chgOf_at n2 hi
    show chgOf (p :: L) L[i].1 = L[i].2.2
    unfold chgOf at ih ⊢
    rw [List.find?_cons_of_neg (by simpa using ne)]
    exact ih
section
variable {P : Program} {w : World} {K : PySem.W.Frag} {mg : Str → Option Value} {base : Heap}
def spKnown (K : PySem.W.Frag) : Sp := fun vs H Q _ => ∃ (p : Addr) (x : Str) (n : Nat) (S : Sts) (L : Ncs), vs = [.ref p, .str x] ∧ WorldAt K H p n S L ∧ (names L).Nodup ∧ x ∈ names L ∧ Q (.bl true) H
theorem sc_ik : FnScope ["world", "name"] ["world", "name"] (defScope s_is_known) := ⟨rfl, rfl, rfl, by decide +kernel, rfl, by decide +kernel, by decide +kernel⟩
theorem ok_is_known (T : Txt K mg) : Ok P w K mg base (a_is_known K) ["world", "name"] 1 (spKnown K) := by
  refine ok_of T.f_is_known sc_ik (fun _ _ _ _ _ _ us hl => match us, hl with | [_, _], _ => rfl) (fun vs H Q E h => ?_) (fun cdv A outer s H vs Q E hr h => ?_)
  · obtain ⟨p, x, n, S, L, rfl, _⟩ := h
    rfl
  · obtain ⟨p, x, n, S, L, rfl, ⟨⟨dx, l, d, hp, hl, hd⟩, _, _⟩, nd, hx, k⟩ := h
    obtain ⟨i, hi, rfl⟩ := mem_names hx
    refine ⟨_, pss_one (ps_ret (pe_and (pe_callB call_isi (by rfl) T.z_isinstance (by decide +kernel) (pa_cons (pv 1) (pa_cons (pe_bltn (v := .ty "str") (by rfl) T.z_str (by decide +kernel) rfl) pa_nil)))
      (pe_one (pe_cmp (pc_din (hu_of hr) (pv 1) (pe_fld (pv 0) rfl)) rfl)))), ?_⟩
    refine ⟨_, rfl, _, _, _, _, true, rfl, .ty "str", .base (.str _), kit_str, true, rfl, iteT ?_⟩
    refine ⟨_, rfl, _, rfl, p, c_World K, dx, _, _, rfl, hp, T.o_World.cl, T.n_World_made, lookC w_m s_m, d, _, rfl, DGet.k (k := Sum.inr L[i].1) hd, ?_⟩
    rw [valV_kvs nd hi]
    exact k
def spWidth (K : PySem.W.Frag) : Sp := fun vs H Q _ => ∃ (p : Addr) (n : Nat) (S : Sts) (L : Ncs), vs = [.ref p] ∧ WorldAt K H p n S L ∧ Q (.int n) H
theorem sc_ws : FnScope ["self"] ["self"] (defScope s_World_slots) := ⟨rfl, rfl, rfl, by decide +kernel, rfl, by decide +kernel, by decide +kernel⟩
theorem ok_World_slots (T : Txt K mg) : Ok P w K mg base (a_World_slots K) ["self"] 1 (spWidth K) := by
  refine ok_of T.f_World_slots sc_ws (fun _ _ _ _ _ _ us hl => match us, hl with | [_], _ => rfl) (fun vs H Q E h => ?_) (fun cdv A outer s H vs Q E hr h => ?_)
  · obtain ⟨p, n, S, L, rfl, _⟩ := h
    rfl
  · obtain ⟨p, n, S, L, rfl, ⟨⟨dx, l, d, hp, hl, hd⟩, _, _⟩, k⟩ := h
    refine ⟨_, pss_one (ps_ret (pe_fld (pv 0) rfl)), ?_⟩
    exact ⟨_, rfl, p, c_World K, dx, _, _, rfl, hp, T.o_World.cl, T.n_World_width, lookA, k⟩
def spStores (K : PySem.W.Frag) : Sp := fun vs H Q _ => ∃ (p : Addr) (n : Nat) (S : Sts) (L : Ncs), vs = [.ref p] ∧ WorldAt K H p n S L ∧ ∀ r H', Same H H' → H' r = some (.lst (refs S)) → Q (.ref r) H'
theorem sc_wst : FnScope ["self"] ["self"] (defScope s_World_stores) := ⟨rfl, rfl, rfl, by decide +kernel, rfl, by decide +kernel, by decide +kernel⟩
theorem ok_World_stores (T : Txt K mg) : Ok P w K mg base (a_World_stores K) ["self"] 1 (spStores K) := by
  refine ok_of T.f_World_stores sc_wst (fun _ _ _ _ _ _ us hl => match us, hl with | [_], _ => rfl) (fun vs H Q E h => ?_) (fun cdv A outer s H vs Q E hr h => ?_)
  · obtain ⟨p, n, S, L, rfl, _⟩ := h
    rfl
  · obtain ⟨p, n, S, L, rfl, ⟨⟨dx, l, d, hp, hl, hd⟩, _, _⟩, k⟩ := h
    refine ⟨_, pss_one (ps_ret (pe_callTy call_list_of (by rfl) T.z_list (by decide +kernel) (pa_cons (pe_fld (pv 0) rfl) pa_nil))), ?_⟩
    exact ⟨_, rfl, p, c_World K, dx, _, _, rfl, hp, T.o_World.cl, T.n_World_starts, lookB w_s, l, _, rfl, .inl (SqL.of hl), fun r hr => k r _ (same_upd hr) upd_same⟩
def spNames (K : PySem.W.Frag) : Sp := fun vs H Q _ => ∃ (p : Addr) (n : Nat) (S : Sts) (L : Ncs), vs = [.ref p] ∧ WorldAt K H p n S L ∧ ∀ r H', Same H H' → H' r = some (.lst ((names L).map V.str)) → Q (.ref r) H'
theorem kvs_keys (L : Ncs) : (kvs L).map (fun kv => kV kv.1) = (names L).map V.str := by
  unfold kvs names
  rw [List.map_map, List.map_map] <;> rfl
theorem sc_wn : FnScope ["self"] ["self"] (defScope s_World_names) := ⟨rfl, rfl, rfl, by decide +kernel, rfl, by decide +kernel, by decide +kernel⟩
theorem ok_World_names (T : Txt K mg) : Ok P w K mg base (a_World_names K) ["self"] 1 (spNames K) := by
  refine ok_of T.f_World_names sc_wn (fun _ _ _ _ _ _ us hl => match us, hl with | [_], _ => rfl) (fun vs H Q E h => ?_) (fun cdv A outer s H vs Q E hr h => ?_)
  · obtain ⟨p, n, S, L, rfl, _⟩ := h
    rfl
  · obtain ⟨p, n, S, L, rfl, ⟨⟨dx, l, d, hp, hl, hd⟩, _, _⟩, k⟩ := h
    refine ⟨_, pss_one (ps_ret (pe_callTy (call_list_dK rfl) (by rfl) T.z_list (by decide +kernel) (pa_cons (pe_fld (pv 0) rfl) pa_nil))), ?_⟩
    refine ⟨_, rfl, p, c_World K, dx, _, _, rfl, hp, T.o_World.cl, T.n_World_made, lookC w_m s_m, d, _, rfl, hd, fun r hr => k r _ (same_upd hr) ?_⟩
    rw [upd_same, kvs_keys]
def spChange (K : PySem.W.Frag) : Sp := fun vs H Q _ => ∃ (p : Addr) (n : Nat) (S : Sts) (L : Ncs) (i : Nat) (hi : i < L.length), vs = [.ref p, .str L[i].1] ∧ WorldAt K H p n S L ∧ (names L).Nodup ∧ Q (.ref L[i].2.1) H
theorem sc_wc : FnScope ["self", "name"] ["self", "name"] (defScope s_World_change) := ⟨rfl, rfl, rfl, by decide +kernel, rfl, by decide +kernel, by decide +kernel⟩
theorem ok_World_change (T : Txt K mg) : Ok P w K mg base (a_World_change K) ["self", "name"] 2 (spChange K) := by
  have GK : Ok P w K mg base (a_is_known K) _ 1 (spKnown K) := ok_is_known T
  refine ok_of T.f_World_change sc_wc (fun _ _ _ _ _ _ us hl => match us, hl with | [_, _], _ => rfl) (fun vs H Q E h => ?_) (fun cdv A outer s H vs Q E hr h => ?_)
  · obtain ⟨p, n, S, L, i, hi, rfl, _⟩ := h
    rfl
  · obtain ⟨p, n, S, L, i, hi, rfl, W, nd, k⟩ := h
    obtain ⟨⟨dx, l, d, hp, hl, hd⟩, _, _⟩ := id W
    refine ⟨_, pss_cons (ps_if (pt_not (pt_val (pe_c GK hr T.g_is_known (pa_cons (pv 0) (pa_cons (pv 1) pa_nil))))) (pss_one ps_never) pss_nil) (pss_one (ps_ret (pe_dget (hu_of hr) (pe_fld (pv 0) rfl) (pv 1) (fun _ _ => rfl)))), ?_⟩
    refine ⟨_, rfl, _, rfl, p, L[i].1, n, S, L, rfl, W, nd, List.mem_map.mpr ⟨L[i], List.getElem_mem hi, rfl⟩, true, rfl, iteF ?_⟩
    refine ⟨_, rfl, p, c_World K, dx, _, _, rfl, hp, T.o_World.cl, T.n_World_made, lookC w_m s_m, _, rfl, d, V.ref L[i].2.1, rfl, .inl ⟨kvs L, Sum.inr L[i].1, .inl hd, rfl, (valV_kvs nd hi).symm⟩, k⟩
def spIsOrder (K : PySem.W.Frag) : Sp := fun vs H Q _ => ∃ (p a : Addr) (ys : List Str) (n : Nat) (S : Sts) (L : Ncs), vs = [.ref p, .ref a] ∧ WorldAt K H p n S L ∧ (names L).Nodup ∧ H a = some (.tup (ys.map V.str)) ∧ ys.Nodup ∧ ys.length ≤ 4 ∧ (∀ y ∈ ys, y ∈ names L) ∧ ∀ H', Same H H' → Q (.bl true) H'
theorem strs_at' {ns : List Str} {i : Nat} {x : V} (h : (ns.map V.str)[i]? = some x) : ∃ n, ns[i]? = some n ∧ x = .str n := by
  rw [List.getElem?_map] at h
  cases e : ns[i]? with
  | none => rw [e] at h; cases h
  | some n => rw [e] at h; exact ⟨n, rfl, (Option.some.inj h).symm⟩
theorem sc_io : FnScope ["world", "order", "name"] ["world", "order"] (defScope s_is_order) := ⟨rfl, rfl, rfl, by decide +kernel, rfl, by decide +kernel, by decide +kernel⟩
theorem ok_is_order (T : Txt K mg) : Ok P w K mg base (a_is_order K) ["world", "order"] 2 (spIsOrder K) := by
  have GK : Ok P w K mg base (a_is_known K) _ 1 (spKnown K) := ok_is_known T
  refine ok_of T.f_is_order sc_io (fun _ _ _ _ _ _ us hl => match us, hl with | [_, _], _ => rfl) (fun vs H Q E h => ?_) (fun cdv A outer s H vs Q E hr h => ?_)
  · obtain ⟨p, a, ys, n, S, L, rfl, _⟩ := h
    rfl
  · obtain ⟨p, a, ys, n, S, L, rfl, W, ndL, ha, nd, h4, hin, k⟩ := h
    have hm : (ys.map V.str).length = ys.length := List.length_map ..
    refine ⟨_, pss_cons (ps_if (PW.pt (pw_or (pt_not (pt_val (pe_callB call_isi (by rfl) T.z_isinstance (by decide +kernel) (pa_cons (pv 1) (pa_cons (pe_bltn (v := .ty "tuple") (by rfl) T.z_tuple (by decide +kernel) rfl) pa_nil)))))
        (pw_or1 (pt_not (pt_val (pe_callB (cr_all rfl) (by rfl) T.z_all (by decide +kernel) (pa_cons (pe_lc (own := [("name", 2)]) (g := gName 2) (tt := tYes) rfl sc_io.nd (pi_tup (pv 1)) (blkOk_by (own := [("name", 2)]) (N := ["world", "order", "name"]) (sc := defScope s_is_order) (by decide +kernel))
          (fun _ _ _ _ _ => pg_name (i := 2) sc_io.nd rfl (Or.inl rfl)) (fun _ _ _ _ _ => pts_nil)
          (fun _ _ _ _ _ => pe_c GK hr T.g_is_known (pa_cons (pv 0) (pa_cons (pv 2) pa_nil)))) pa_nil))))))) (pss_one (ps_ret pe_bl)) pss_nil)
      (pss_one (ps_ret (pe_cmpR op_eq (pe_callB call_lenK (by rfl) T.z_len PySem.boot_len (pa_cons (pe_callTy (cr_setS rfl) (by rfl) T.z_set (by decide +kernel) (pa_cons (pv 1) pa_nil)) pa_nil)) (pe_callB call_len_seq (by rfl) T.z_len PySem.boot_len (pa_cons (pv 1) pa_nil)) (nomark _)))), ?_⟩
    refine ⟨_, rfl, _, _, _, _, true, rfl, .ty "tuple", .base (.tup ha), kit_tup, true, rfl, iteF ?_⟩
    refine ⟨_, rfl, a, rfl, ⟨_, SqT.of ha⟩, fun D hD => ?_⟩
    refine lcT_map (K := K) (a := a) (xs := ys.map V.str) (List.replicate ys.length (.bl true)) hD (SqT.of ha) (by rw [hm]; omega) (by rw [hm, List.length_replicate]) (fun i x y H' Qe hx hy s1 kk => ?_) fun H' s1 e => ?_
    · obtain ⟨z, hz, rfl⟩ := strs_at' hx
      obtain rfl := rep_at hy
      exact ⟨_, rfl, _, rfl, p, z, n, S, L, rfl, W.ext s1, ndL, hin z (List.mem_of_getElem? hz), kk H' (Same.refl _)⟩
    · refine ⟨D, List.replicate ys.length true, rfl, ?_, true, by rw [all_true], iteF ?_⟩
      · rw [map_rep]
        exact SqL.of e
      refine ⟨_, rfl, a, ys, rfl, SqT.of (s1 _ _ ha), by omega, nd, fun q hq => ?_⟩
      have s2 : Same H' _ := same_upd (o := SetK P w q (inS ys) ys.length) hq
      refine ⟨q, _, ys.length, rfl, upd_same, by omega, ?_⟩
      refine ⟨_, rfl, a, _, rfl, .inr (SqT.of (s2 _ _ (s1 _ _ ha))), rfl, ?_⟩
      have e2 : decide (V.int (ys.length : Int) = V.int ((ys.map V.str).length : Int)) = true := decide_eq_true (by rw [hm])
      show Q (.bl (decide (V.int (ys.length : Int) = V.int ((ys.map V.str).length : Int)))) _
      rw [e2]
      exact k _ (s1.trans s2)
def spEnd (K : PySem.W.Frag) : Sp := fun vs H Q _ => ∃ (p st a : Addr) (xs : List Int) (ys : List Str) (n : Nat) (S : Sts) (L : Ncs), vs = [.ref p, .ref st, .ref a] ∧ WorldAt K H p n S L ∧ WOk n S L ∧ H st = some (.tup (xs.map V.int)) ∧ StoreOk xs ∧ xs.length = n ∧
  H a = some (.tup (ys.map V.str)) ∧ ys.Nodup ∧ ys.length ≤ 4 ∧ (∀ y ∈ ys, y ∈ names L) ∧ ∀ r H', Same H H' → H' r = some (.tup ((appAll L ys xs).map V.int)) → Q (.ref r) H'
theorem sc_we : FnScope ["self", "store", "order", "reached", "name"] ["self", "store", "order"] (defScope s_World_end) := ⟨rfl, rfl, rfl, by decide +kernel, rfl, by decide +kernel, by decide +kernel⟩
theorem ok_World_end (T : Txt K mg) : Ok P w K mg base (a_World_end K) ["self", "store", "order"] 6 (spEnd K) := by
  have GS : Ok P w K mg base (a_is_store_of K) _ 3 spIsStoreOf := ok_is_store_of T
  have GO : Ok P w K mg base (a_is_order K) _ 2 (spIsOrder K) := ok_is_order T
  have GA : ∀ q, Ok P w K mg base (CK.applyA K q) ["self", "store"] 5 (spCA K q) := okC_apply T
  refine ok_of T.f_World_end sc_we (fun _ _ _ _ _ _ us hl => match us, hl with | [_, _, _], _ => rfl) (fun vs H Q E h => ?_) (fun cdv A outer s H vs Q E hr h => ?_)
  · obtain ⟨p, st, a, xs, ys, n, S, L, rfl, _⟩ := h
    rfl
  · obtain ⟨p, st, a, xs, ys, n, S, L, rfl, W, ok, hst, sx, hn, ha, nd, h4, hin, k⟩ := h
    obtain ⟨⟨dx, l, d, hp, hl, hd⟩, _, hL⟩ := id W
    have hr2 : Room 2 _ := hr.mono (by decide)
    have hr3 : Room 3 _ := hr.mono (by decide)
    refine ⟨_, pss_cons (ps_if (pt_not (pt_val (pe_c GS hr3 T.g_is_store_of (pa_cons (pv 1) (pa_cons (pe_fld (pv 0) rfl) pa_nil))))) (pss_one ps_never) pss_nil)
      (pss_cons (ps_if (pt_not (pt_val (pe_c GO hr2 T.g_is_order (pa_cons (pv 0) (pa_cons (pv 2) pa_nil))))) (pss_one ps_never) pss_nil)
      (pss_cons (ps_set (i := 3) sc_we.nd rfl (Or.inl rfl) (pv 1))
      (pss_cons (ps_for PassesOwn.never rfl (pi_tup (pv 2)) (pg_name (i := 4) sc_we.nd rfl (Or.inl rfl))
        (pss_one (ps_set (i := 3) sc_we.nd rfl (Or.inl rfl) (pe_any fun q : CK => pe_mt (pe_dget (hu_of hr) (pe_fld (pv 0) rfl) (pv 4) (fun _ _ => rfl)) (T.ownC q) (T.methAC q) (GA q) hr (pa_cons (pv 3) pa_nil)))))
      (pss_one (ps_ret (pv 3)))))), ?_⟩
    refine ⟨_, rfl, _, rfl, p, c_World K, dx, _, _, rfl, hp, T.o_World.cl, T.n_World_width, lookA, st, xs, n, rfl, hst, sx, by rw [hn], fun H1 s1 => ⟨true, rfl, iteF ?_⟩⟩
    refine ⟨_, rfl, _, rfl, p, a, ys, n, S, L, rfl, W.ext s1, ok.chgs.nd, s1 _ _ ha, nd, h4, hin, fun H2 s2 => ⟨true, rfl, iteF ?_⟩⟩
    refine ⟨_, rfl, ?_⟩
    have s12 := s1.trans s2
    have hm : (ys.map V.str).length = ys.length := List.length_map ..
    refine ⟨_, rfl, a, rfl, ⟨_, SqT.of (s12 _ _ ha)⟩, for_tup (K := K) (a := a) (xs := ys.map V.str) (fun i σ H' => ∃ r v zs, σ = [some (.ref p), some (.ref st), some (.ref a), some (.ref r), v] ∧ Same H H' ∧ zs = appAll L (ys.take i) xs ∧ StoreOk zs ∧ zs.length = n ∧ H' r = some (.tup (zs.map V.int)))
      ⟨st, none, xs, rfl, s12, rfl, sx, hn, s12 _ _ hst⟩ (fun i σ H' _ q => ?_) (fun i x σ H' hx q => ?_) fun σ H' q => ?_⟩
    · obtain ⟨_, _, _, _, s3, _⟩ := q
      exact SqT.of (s3 _ _ ha)
    · obtain ⟨r, v, zs, rfl, s3, ez, sz, hz, hr'⟩ := q
      obtain ⟨y, hy, rfl⟩ := strs_at' hx
      obtain ⟨j, hj, rfl⟩ := mem_names (hin y (List.mem_of_getElem? hy))
      have mem : L[j] ∈ L := List.getElem_mem hj
      have hc := (hL _ mem).ext s3
      obtain ⟨dc, fs, ho, hna⟩ := hc.obj
      have ch := ok.chgs.chg _ mem
      have hlt : ∀ z ∈ L[j].2.2.slots, z < (zs.length : Int) := fun z h => by rw [hz]; exact ch.2 z h
      refine ⟨L[j].2.2.ck, _, rfl, p, c_World K, dx, _, _, rfl, s3 _ _ hp, T.o_World.cl, T.n_World_made, lookC w_m s_m, _, rfl, d, V.ref L[j].2.1, rfl, .inl ⟨kvs L, Sum.inr L[j].1, .inl (s3 _ _ hd), rfl, (valV_kvs ok.chgs.nd hj).symm⟩, L[j].2.1, dc, fs, rfl, ho, hna,
        _, rfl, L[j].2.1, r, L[j].2.2, zs, rfl, rfl, hc, ch.1, hr', sz, hlt, fun r2 H4 s4 e4 => ?_⟩
      have ap := Chg.app_ok ch.1 sz hlt
      refine ⟨r2, _, L[j].2.2.app zs, rfl, s3.trans s4, ?_, ap.1, ap.2.trans hz, e4⟩
      rw [ez, List.take_add_one, hy]
      unfold appAll
      rw [List.foldl_append]
      show _ = (chgOf L L[j].1).app _
      rw [chgOf_at ok.chgs.nd hj]
    · obtain ⟨r, v, zs, rfl, s3, ez, sz, hz, hr'⟩ := q
      refine ⟨_, rfl, k r H' s3 ?_⟩
      rw [hr', ez, hm, List.take_length]
end
end OP
namespace OP
open PySem PySem.Spec PyProof.Rows L2
/-! ### data: stores, lists of stores, texts -/
def dT (xs : List Int) : PyData := .tuple (xs.map PyData.int)
def dN (ys : List Str) : PyData := .tuple (ys.map PyData.str)
theorem lay_T (xs : List Int) : (dT xs).canLay0 = true := by
  unfold dT
  simp only [PyData.canLay0]
  exact PySem.W.ke_canLayAll0 xs
theorem dep_T (xs : List Int) : (dT xs).depth = 1 := by
  unfold dT
  simp only [PyData.depth, PySem.W.ke_depthAll xs]
theorem lay_strs : ∀ ys : List Str, (∀ y ∈ ys, PyData.strOk y = true) → PyData.canLayAll0 (ys.map PyData.str) = true
  | [], _ => rfl
  | y :: ys, h => by
    simp only [List.map_cons, PyData.canLayAll0, PyData.canLay0, h y List.mem_cons_self, lay_strs ys fun z hz => h z (List.mem_cons_of_mem _ hz), Bool.and_self]
theorem dep_strs : ∀ ys : List Str, PyData.depthAll (ys.map PyData.str) = 0
  | [] => rfl
  | y :: ys => by simp only [List.map_cons, PyData.depthAll, PyData.depth, dep_strs ys, Nat.max_self]
theorem lay_all {α : Type} {f : α → PyData} : ∀ xs : List α, (∀ x ∈ xs, (f x).canLay0 = true) → PyData.canLayAll0 (xs.map f) = true
  | [], _ => rfl
  | x :: xs, h => by
    simp only [List.map_cons, PyData.canLayAll0, h x List.mem_cons_self, lay_all xs fun z hz => h z (List.mem_cons_of_mem _ hz), Bool.and_self]
theorem dep_all {α : Type} {f : α → PyData} {n : Nat} : ∀ xs : List α, (∀ x ∈ xs, (f x).depth ≤ n) → PyData.depthAll (xs.map f) ≤ n
  | [], _ => Nat.zero_le _
  | x :: xs, h => by
    simp only [List.map_cons, PyData.depthAll]
    exact Nat.max_le.mpr ⟨h x List.mem_cons_self, dep_all xs fun z hz => h z (List.mem_cons_of_mem _ hz)⟩
theorem shp {d : PyData} (h1 : d.canLay0 = true) (h2 : d.depth ≤ 64) : SeqAt.shaped d = true := by
  show (d.canLay0 && decide (d.depth ≤ 64)) = true
  rw [h1, decide_eq_true h2]
  rfl
theorem shp_T (xs : List Int) : SeqAt.shaped (dT xs) = true := shp (lay_T xs) (by rw [dep_T]; decide)
theorem shp_Ts (xs : List (List Int)) : SeqAt.shaped (.list (xs.map dT)) = true := shp (by simp only [PyData.canLay0]; exact lay_all xs fun x _ => lay_T x) (by
  simp only [PyData.depth]
  have := dep_all (n := 1) (f := dT) xs fun x _ => by rw [dep_T]; exact Nat.le_refl _
  omega)
theorem shp_strs {ys : List Str} (h : ∀ y ∈ ys, PyData.strOk y = true) : SeqAt.shaped (.list (ys.map PyData.str)) = true := shp (by simp only [PyData.canLay0]; exact lay_strs ys h) (by
  simp only [PyData.depth, dep_strs]
  decide)
theorem lay_N {ys : List Str} (h : ∀ y ∈ ys, PyData.strOk y = true) : (dN ys).canLay0 = true := by
  unfold dN
  simp only [PyData.canLay0]
  exact lay_strs ys h
theorem dep_N (ys : List Str) : (dN ys).depth = 1 := by
  unfold dN
  simp only [PyData.depth, dep_strs]
theorem shp_Ns {zs : List (List Str)} (h : ∀ z ∈ zs, ∀ y ∈ z, PyData.strOk y = true) : SeqAt.shaped (.list (zs.map dN)) = true := shp (by simp only [PyData.canLay0]; exact lay_all zs fun x hx => lay_N (h x hx)) (by
  simp only [PyData.depth]
  have := dep_all (n := 1) (f := dN) zs fun x _ => by rw [dep_N]; exact Nat.le_refl _
  omega)
theorem eqv_shp {d : PyData} (h : SeqAt.shaped d = true) : PyData.eqv d d = true := SeqAt.eqv_refl d (SeqAt.canLay_of_shaped h)
theorem eqvAll_ints : ∀ xs ys : List Int, PyData.eqvAll (xs.map PyData.int) (ys.map PyData.int) = decide (xs = ys)
  | [], [] => by simp [PyData.eqvAll]
  | [], _ :: _ => by simp [PyData.eqvAll]
  | _ :: _, [] => by simp [PyData.eqvAll]
  | a :: r, b :: t => by
    simp only [List.map_cons, PyData.eqvAll, PyData.eqv, eqvAll_ints r t]
    by_cases h : a = b <;> by_cases h' : r = t <;> simp [h, h']
theorem eqv_T (xs ys : List Int) : PyData.eqv (dT xs) (dT ys) = decide (xs = ys) := by
  unfold dT
  simp only [PyData.eqv]
  exact eqvAll_ints xs ys
section
variable {K : PySem.W.Frag} {H : Hp}
theorem dp_ints : ∀ xs : List Int, DpAll K H (xs.map V.int) (xs.map PyData.int)
  | [] => .nil
  | x :: xs => .cons (.int x) (dp_ints xs)
theorem dp_strs : ∀ xs : List Str, DpAll K H (xs.map V.str) (xs.map PyData.str)
  | [] => .nil
  | x :: xs => .cons (.str x) (dp_strs xs)
theorem dp_T {a : Addr} {xs : List Int} (h : H a = some (.tup (xs.map V.int))) : Dp K H (.ref a) (dT xs) := .tup (SqT.of h) (dp_ints xs)
theorem dp_N {a : Addr} {xs : List Str} (h : H a = some (.tup (xs.map V.str))) : Dp K H (.ref a) (dN xs) := .tup (SqT.of h) (dp_strs xs)
theorem dp_refs : ∀ S : Sts, StsAt H S → DpAll K H (refs S) ((S.map (·.2)).map dT)
  | [], _ => .nil
  | p :: S, h => .cons (dp_T (h p List.mem_cons_self)) (dp_refs S fun q hq => h q (List.mem_cons_of_mem _ hq))
theorem dp_Ts {l : Addr} {S : Sts} (hl : H l = some (.lst (refs S))) (h : StsAt H S) : Dp K H (.ref l) (.list ((S.map (·.2)).map dT)) := .lst (SqL.of hl) (dp_refs S h)
end
/-! ### the same rules, the written part by its name -/
section
variable {X : Cx}
theorem op_eqDK (K : PySem.W.Frag) (hu : X.A.units + 64 < cLine) (hK : X.K = K := by rfl) : OpR X (compareOp .Eq) (rEqD K) := by
  subst hK
  exact op_eqD hu
theorem op_neDK (K : PySem.W.Frag) (hu : X.A.units + 64 < cLine) (hK : X.K = K := by rfl) : OpR X (compareOp .NotEq) (rNeD K) := by
  subst hK
  exact op_neD hu
theorem ix_tupK (K : PySem.W.Frag) (hK : X.K = K := by rfl) : IxR X (rIxT K) := by
  subst hK
  exact ix_tup
theorem ix_listK (K : PySem.W.Frag) (hK : X.K = K := by rfl) : IxR X (rIxL K) := by
  subst hK
  exact ix_list
theorem op_catAK (K : PySem.W.Frag) (hK : X.K = K := by rfl) : OpR X (binaryOp .Add) (rCatA K) := by
  subst hK
  exact op_catA
end
end OP
namespace OP
open PySem PySem.Spec PyProof.Rows L2
/-! the written part by its name, for what stands in a comprehension -/
section
variable {X : Cx}
theorem pg_tupK {es : List Expr} {k n : Nat} {t : TGs} {pos : Pos} (K : PySem.W.Frag) (hc : X.calm = true) (h : PGs X es t) (hn : (assignEach es X.env).length = n := by rfl) (hst : (assignEach es X.env).findIdx? (·.1) = none := by rfl) (hK : X.K = K := by rfl) : PG X (.Tuple es k pos) (gTup K n t) := by
  subst hK
  exact pg_tup hc h hn hst
theorem pi_listK {tg e : Expr} {te : TE} (K : PySem.W.Frag) (h : PE X e te) (hK : X.K = K := by rfl) : PI X tg e (iList K te) := by
  subst hK
  exact pi_list h
theorem pi_tupK {tg e : Expr} {te : TE} (K : PySem.W.Frag) (h : PE X e te) (hK : X.K = K := by rfl) : PI X tg e (iTup K te) := by
  subst hK
  exact pi_tup h
theorem tbmK {T : String} {r : V → List V → Hp → VK → Prop} {to : TE} {t : TA} {e : Expr} (K : PySem.W.Frag) (h : PE X e (tBM X.K T r to t)) (hK : X.K = K := by rfl) : PE X e (tBM K T r to t) := by
  subst hK
  exact h
theorem mt_indexK (K : PySem.W.Frag) (hK : X.K = K := by rfl) : MtR X "list.index" (rIndex K) := by
  subst hK
  exact mt_index
theorem cr_anyK (K : PySem.W.Frag) (hc : X.calm = true) (hK : X.K = K := by rfl) : CallR X (.builtin "any") (rAny K) := by
  subst hK
  exact cr_any hc
theorem cr_allK (K : PySem.W.Frag) (hc : X.calm = true) (hK : X.K = K := by rfl) : CallR X (.builtin "all") (rAll K) := by
  subst hK
  exact cr_all hc
theorem op_notInK (K : PySem.W.Frag) (hK : X.K = K := by rfl) : OpR X (compareOp .NotIn) (rIn K true) := by
  subst hK
  exact op_notIn_seq
theorem op_inK (K : PySem.W.Frag) (hK : X.K = K := by rfl) : OpR X (compareOp .In) (rIn K false) := by
  subst hK
  exact op_in_seq
end
end OP
namespace OP
open PySem PySem.Spec PyProof.Rows L2
theorem inV_strs (y : Str) : ∀ ys : List Str, inV (.str y) (ys.map V.str) = decide (y ∈ ys)
  | [] => rfl
  | x :: ys => by
    have ih := inV_strs y ys
    unfold inV at ih ⊢
    rw [List.map_cons, List.any_cons, ih]
    show ((x == y) || decide (y ∈ ys)) = _
    by_cases h : x = y
    · rw [h, beq_self_eq_true, Bool.true_or, decide_eq_true List.mem_cons_self]
    · rw [beq_eq_false_iff_ne.mpr h, Bool.false_or]
      refine decide_eq_decide.mpr ⟨fun z => List.mem_cons_of_mem _ z, fun z => ?_⟩
      rcases List.mem_cons.mp z with z | z
      · exact absurd z.symm h
      · exact z
theorem flat_strs (ys : List Str) : (ys.map V.str).all flatV = true := by
  rw [List.all_eq_true]
  intro v hv
  obtain ⟨_, _, rfl⟩ := List.mem_map.mp hv
  rfl
end OP
/-! xs += ys of two lists: the left one grows in place -/
namespace OP
open PySem PySem.Spec PyProof.Rows L2
theorem li_seq : isSeqSlot (some (.builtin "list.__iadd__")) = true := by decide +kernel
theorem li_slot : seqSlot? (.type "list") (dunderI "add") = pure (some (.builtin "list.__iadd__")) := PySem.seqSlot_of F.slot_list_iadd.lookup li_seq
theorem li_fill : fillsInplaceSlot (.type "list") "add" (Operator.Add == .Add) = pure false := by
  unfold fillsInplaceSlot
  show (typeLookup (.type "list") (dunderI "add") >>= fun fi => pure (fi.isSome && !isSeqSlot fi)) = pure false
  have lk : typeLookup (.type "list") (dunderI "add") = pure (some (.builtin "list.__iadd__")) := F.slot_list_iadd.lookup
  rw [lk]
  show (pure (true && !isSeqSlot (some (.builtin "list.__iadd__"))) : Sem Bool) = pure false
  rw [li_seq] <;> rfl
section
variable {X : Cx}
def rIadd : V → V → Hp → VK → Prop := fun x y H Q => ∃ l b xs zs, x = .ref l ∧ y = .ref b ∧ H l = some (.lst xs) ∧ H b = some (.lst zs) ∧ xs.length + zs.length ≤ sizeLine ∧ Q (.ref l) (upd H l (.lst (xs ++ zs)))
theorem ip_list : PIp X .Add rIadd := by
  intro pins s σ H x y v u Q I rx ry h
  obtain ⟨l, b, xs, zs, rfl, rfl, hH, hB, hz, q⟩ := h
  cases rx
  cases ry
  obtain ⟨z, its, n, r, hl, e⟩ := I.lstM hH
  obtain ⟨z2, its2, n2, r2, hl2, e2⟩ := I.lstM hB
  have fit : its.toArray.size + its2.toArray.size ≤ sizeLine := by rw [List.size_toArray, List.size_toArray]; omega
  have short : ¬ (!its.toArray.isEmpty && Builtin.List.listTooLong (its.toArray.size + its2.toArray.size)) = true := by
    rw [notLongL fit, Bool.and_false]
    exact Bool.false_ne_true
  unfold inplaceOp
  refine wpAny_holding ?_
  refine wpAny_bind (wpAny_typeOf (T := "list") ⟨_, e, rfl⟩ (wpAny_bind (wpAny_of_eq li_fill ?_)))
  show wpAny _ _ (if false = true then _ else _) _ _ s
  rw [if_neg Bool.false_ne_true]
  refine wpAny_bind (wpAny_binaryOp1_none (T := "list") (nm := "add") ⟨_, e, rfl⟩ ⟨_, e2, rfl⟩ noFill_list_add ?_)
  refine wpAny_bind (wpAny_of_eq li_slot (wpAny_bind (wpAny_rule ?_)))
  refine call_meets F.slot_list_iadd ⟨_, e, rfl⟩ F.entry_list_iadd (F.args_list_iadd_2 _ _) (AutoSeq1.list___iadd___list_list_0 l its.toArray n b its2.toArray n2 short (by rw [List.size_toArray]; omega) (by omega)) ⟨e, e2, ?_⟩
  refine ⟨.ref l, _, I.lset (its' := its ++ its2) hH e (by simp) (r.append r2) ?_, rfl, q⟩
  rw [List.length_append]
  omega
end
end OP
namespace OP
open PySem PySem.Spec PyProof.Rows L2
/-! ### one_larger -/
def below (p : List Int) (at' : Nat) : Bool := p.isEmpty || decide (p.getLastD 0 < (at' : Int))
def ext1 (p : List Int) : Nat → List (List Int)
  | 0 => []
  | n + 1 => ext1 p n ++ if below p n = true then [p ++ [(n : Int)]] else []
def larger (ps : List (List Int)) (n : Nat) : List (List Int) := ps.flatMap fun p => ext1 p n
theorem ext1_len (p : List Int) : ∀ n, (ext1 p n).length ≤ n
  | 0 => Nat.le_refl _
  | n + 1 => by
    have := ext1_len p n
    unfold ext1
    rw [List.length_append]
    split
    · rw [List.length_singleton]; omega
    · rw [List.length_nil]; omega
theorem larger_len (n : Nat) : ∀ ps : List (List Int), (larger ps n).length ≤ ps.length * n
  | [] => Nat.zero_le _
  | p :: ps => by
    have h1 := larger_len n ps
    have h2 := ext1_len p n
    unfold larger at h1 ⊢
    rw [List.flatMap_cons, List.length_append, List.length_cons, Nat.succ_mul]
    omega
theorem larger_take {ps : List (List Int)} {n i : Nat} (h : i < ps.length) : larger (ps.take (i + 1)) n = larger (ps.take i) n ++ ext1 ps[i] n := by
  unfold larger
  rw [List.take_add_one, List.getElem?_eq_getElem h, Option.toList_some, List.flatMap_append]
  congr 1
  simp
theorem below_ne {p : List Int} {j : Nat} (h : p ≠ []) : below p j = decide (p.getLastD 0 < (j : Int)) := by
  cases p with
  | nil => exact absurd rfl h
  | cons z zs => exact Bool.false_or _
theorem at_lastI {p : List Int} (h : p ≠ []) : atI (p.map V.int) (-1) = some (V.int (p.getLastD 0)) := by
  have e3 : p.dropLast ++ [p.getLast h] = p := List.dropLast_concat_getLast h
  have e4 : p.getLastD 0 = p.getLast h := by rw [List.getLastD_eq_getLast?, List.getLast?_eq_some_getLast h] <;> rfl
  rw [e4, ← show (p.dropLast.map V.int) ++ [V.int (p.getLast h)] = p.map V.int by rw [show [V.int (p.getLast h)] = [p.getLast h].map V.int from rfl, ← List.map_append, e3]]
  exact atI_last _ _
/-- tuples at their places in the list at D -/
structure GrT (H1 : Hp) (D : Addr) (A : Sts) (H : Hp) : Prop where
  same : Same H1 H
  lst : H D = some (.lst (refs A))
  at' : StsAt H A
theorem GrT.start {H1 : Hp} {D : Addr} (hD : H1 D = none) : GrT H1 D [] (upd H1 D (.lst [])) := ⟨same_upd hD, upd_same, fun _ h => by cases h⟩
theorem tup_ne {H : Hp} {a D : Addr} {xs ys : List V} (h : H a = some (.tup xs)) (hd : H D = some (.lst ys)) : a ≠ D := fun z => by
  rw [z, hd] at h
  cases h
theorem StsAt.snoc {H : Hp} {A : Sts} {a : Addr} {xs : List Int} (h : StsAt H A) (ha : H a = some (.tup (xs.map V.int))) : StsAt H (A ++ [(a, xs)]) := fun p hp => by
  rcases List.mem_append.mp hp with q | q
  · exact h p q
  · obtain rfl := List.mem_singleton.mp q
    exact ha
theorem StsAt.off {H : Hp} {A : Sts} {D : Addr} {ys : List V} {o : HO} (hd : H D = some (.lst ys)) (h : StsAt H A) : StsAt (upd H D o) A := fun p hp => by
  rw [upd_ne (tup_ne (h p hp) hd)]
  exact h p hp
theorem GrT.step {H1 H H4 : Hp} {D : Addr} {A : Sts} {a : Addr} {xs : List Int} (hD : H1 D = none) (g : GrT H1 D A H) (s : Same H H4) (ha : H4 a = some (.tup (xs.map V.int))) : H4 D = some (.lst (refs A)) ∧ GrT H1 D (A ++ [(a, xs)]) (upd H4 D (.lst (refs A ++ [V.ref a]))) := by
  have e := s _ _ g.lst
  refine ⟨e, fun b o eb => by rw [upd_ne (ne_of_none eb hD)]; exact s _ _ (g.same _ _ eb), ?_, StsAt.off e (((g.at').ext s).snoc ha)⟩
  rw [upd_same]
  unfold refs
  rw [List.map_append] <;> rfl
theorem GrT.ext {H1 H H4 : Hp} {D : Addr} {A : Sts} (g : GrT H1 D A H) (s : Same H H4) : GrT H1 D A H4 := ⟨g.same.trans s, s _ _ g.lst, g.at'.ext s⟩
end OP
namespace OP
open PySem PySem.Spec PyProof.Rows GenW L2
/-! a for in a generator's body: what it hands out stands in ys -/
def tGFor (wi : TI) (g : TG) (tb : TGn) : TGn := fun D ys σ H => wi σ H fun J H1 => ∃ W : Nat → Nat → List V → L2.St → Hp → Prop, (∃ m, W 0 m ys σ H1) ∧ ∀ i m ys σ H, W i m ys σ H →
  (J.stop i H ∧ D.nx ys σ H) ∨ (J.go i H ∧ ∃ N : List V → L2.St → Hp → Prop, (∀ ys' σ' H', N ys' σ' H' → ∃ m', m' < m ∧ W (i + 1) m' ys' σ' H') ∧
    ∀ x H', J.yld i H x H' → g x σ H' fun σ2 H2 => tb { D with nx := N, ct := N, bk := D.nx } ys σ2 H2)
section
variable {X : Cx}
theorem gs_for {tg iter : Expr} {body : List Stmt} {pos : Pos} {wi : TI} {g : TG} {tb : TGn} (hp : PassesOwn (model X.prog X.w) X.A X.env X.xe) (hc : X.calm = true) (hi : PI X tg iter wi) (hg : PG X tg g) (hb : GSs X body tb)
    (hs : ∀ x, foldedSetIterable iter X.env x = pure x := by intro _; rfl) : GS X (.For tg iter body [] pos) (tGFor wi g tb) := by
  refine ⟨fun A S ip R n ys s₀ c fs K J gd lv s σ H D gc hn k hI ht => ?_⟩
  obtain ⟨acc, cc, r, I⟩ := hI
  rw [exec_For]
  refine seg_bind_wrap (wpAny_standAt ?_)
  refine seg_bind_wrap ?_
  rw [gc.over]
  refine wpAny_mono (hi.run _ s σ H _ I ht) (fun v s1 h1 => ?_) fun x s' hx => k.exc n s₀ x s' hx
  refine seg_bind_wrap (wpAny_of_eq (hs v) ?_)
  refine seg_bind_wrap (wpAny_standAt ?_)
  refine seg_bind_wrap (wpAny_holding ?_)
  rw [gc.over]
  refine wpAny_mono h1 (fun itv s2 h2 => ?_) fun x s' hx => k.exc n s₀ x s' hx
  obtain ⟨it, fp, tn, Jt, H2, rfl, I2, T, st2, f2, W, ⟨m0, w0⟩, turn⟩ := h2
  show Seg _ _ _ _ n s₀ c ((runOwn (.forLoop tg (.ref it) body [] X.env) X.env).wrap K J gd lv) fs s2
  refine seg_call fun p => ?_
  -- the iterator's objects: apart from the consumer's list, from all else
  have hSfp : ∀ b ∈ fp, S ≠ b := fun b hb => (f2 b hb).2.2.2.2.2 (S, lstObj acc cc) (List.mem_append_right _ List.mem_cons_self)
  have stat : ∀ {H' : Hp} (ac : Array Value) (cn : Nat), (∀ b ∈ fp, H' b = none) → ∀ b ∈ fp, FpOk X ((S, lstObj ac cn) :: ip) H' b := fun {H'} ac cn hz b hb => by
    obtain ⟨_, q1, q2, q3, q4, q5⟩ := f2 b hb
    refine ⟨hz b hb, q1, q2, q3, q4, fun q hq => ?_⟩
    rcases List.mem_append.mp hq with z | z
    · exact q5 q (List.mem_append_left _ z)
    · rcases List.mem_cons.mp z with z | z
      · rw [z]; exact hSfp b hb
      · exact q5 q (List.mem_append_right _ (List.mem_cons_of_mem _ z))
  have gl := fun (kk : Result → Sem PySem.Fin) => gc_loop (k := kk) (c' := .forLoop tg (.ref it) body [] X.env) (l := lv []) (kp := []) (p := p) gc rfl rfl
  have loop : ∀ (m n i : Nat) (ys : List V) (s₀ s : Shared) (σ : L2.St) (H : Hp), n + ys.length = sizeLine → W i m ys σ H → GI X S ip ys σ H s → tn i s.heap → (∀ b ∈ fp, H b = none) →
      Seg (model X.prog X.w) A R (GY X S) n s₀ (.forLoop tg (.ref it) body [] X.env) ((model X.prog X.w).den (.forLoop tg (.ref it) body [] X.env))
        (.ret (fun r => ((match r with | .ok f => (.pure f : Sem Flow) | .error e => .raise e).onRaise (cameBack X.env)).wrap K J gd lv) none (gd false) (lv []) c p [] :: fs) s := by
    intro m
    induction m using Nat.strongRecOn with
    | ind m ih =>
      intro n i ys s₀ s σ H hn w hI hst hfr
      have ee : ∀ (n : Nat) (s₀ : Shared) (x : Value) (s' : Shared), X.xe x s' → Seg (model X.prog X.w) A R (GY X S) n s₀ (.forLoop tg (.ref it) body [] X.env)
          ((do noteFrame x X.env; theTreesLotGoes x : Sem Unit).bind fun _ => .raise x)
          (.ret (fun r => ((match r with | .ok f => (.pure f : Sem Flow) | .error e => .raise e).onRaise (cameBack X.env)).wrap K J gd lv) none (gd false) (lv []) c p [] :: fs) s' := fun n s₀ x s' hx => by
        rw [Sem.bind_eq_wrap]
        refine seg_wrap ?_
        rw [(gl _).over]
        refine wpAny_bind (wpAny_mono (hp x s' hx) (fun _ s'' hcb => wpAny_theTreesLotGoes ?_) fun y s'' hcb => ?_)
        · exact seg_leaf (.error x) (seg_cameBack gc k hcb)
        · exact seg_leaf (.error y) (seg_cameBack gc k hcb)
      show Seg _ A R _ n s₀ _ ((forTurn tg (.ref it) body [] X.env).onRaise (fun x => do noteFrame x X.env; theTreesLotGoes x)) _ s
      rw [Sem.onRaise_eq_wrap]
      unfold forTurn
      refine seg_bind_wrap (wpAny_standAt ?_)
      refine seg_bind_wrap (wpAny_onRaise ?_)
      rw [(gl _).over]
      obtain ⟨acc, cc, r, I⟩ := hI
      rcases turn i m ys σ H w with ⟨stop, qn⟩ | ⟨go, N, hN, step⟩
      · refine wpAny_mono (T.done X rfl rfl rfl hc i _ s σ H X.xe I (stat acc cc hfr) hst stop) (fun r4 s4 h4 => ?_) fun x s' hx => wpAny_standAt (ee n s₀ x s' hx)
        obtain ⟨rfl, I4⟩ := h4
        refine seg_again rfl ?_
        show Seg _ A R _ n s₀ _ (leafOf (.ok .next)) _ s4
        exact seg_leaf (.ok .next) (k.ok n ys s₀ s4 .next hn ⟨σ, H, ⟨acc, cc, r, I4⟩, qn⟩)
      · refine wpAny_mono (T.item X rfl rfl rfl hc i _ s σ H X.xe I (stat acc cc hfr) hst go) (fun r4 s4 h4 => ?_) fun x s' hx => wpAny_standAt (ee n s₀ x s' hx)
        obtain ⟨u, rfl, h4⟩ := h4
        refine seg_bind_wrap ?_
        rw [(gl _).over]
        refine wpAny_mono h4 (fun _ s5 h5 => ?_) fun x s' hx => ee n s₀ x s' hx
        obtain ⟨x, H5, I5, r5, y5, st5, fr5⟩ := h5
        have I5' := I5.pinned (stat acc cc fr5) (T.obj _ _ st5)
        refine seg_bind_wrap ?_
        rw [(gl _).over]
        refine wpAny_mono (hg.run _ s5 σ H5 x u _ I5' r5 (step x H5 y5)) (fun _ s6 h6 => ?_) fun x s' hx => ee n s₀ x s' hx
        obtain ⟨σ6, H6, I6, q6⟩ := h6
        rw [Sem.bind_eq_wrap', Sem.wrap_wrap]
        have hip : ∀ q ∈ ip ++ pinsAt fp s5.heap, q.1 ≠ S := fun q hq => by
          rcases List.mem_append.mp hq with z | z
          · exact gc.ip q z
          · exact fun e => hSfp q.1 (of_pinsAt z).1 e.symm
        refine hb.run A S (ip ++ pinsAt fp s5.heap) R n ys s₀ _ _ _ _ _ _ s6 σ6 H6 { D with nx := N, ct := N, bk := D.nx } ⟨gc.pn, hip, gc.apart, (gl _).over, (gl _).split, (gl _).guard, rfl⟩ hn
          ⟨fun n' ys' s₀' s7 f hn' hs7 => ?_, fun n' s₀' x s7 hx => ?_⟩ ⟨acc, cc, r, I6⟩ q6
        · have unp : ∀ {σ7 : L2.St} {H7 : Hp}, GI X S (ip ++ pinsAt fp s5.heap) ys' σ7 H7 s7 → GI X S ip ys' σ7 H7 s7 ∧ tn (i + 1) s7.heap ∧ ∀ b ∈ fp, H7 b = none := fun {σ7 H7} ⟨ac, cn, rv, I7⟩ => by
            refine ⟨⟨ac, cn, rv, I7.pins_of fun q hq => I7.pin q (List.mem_append_right _ ?_)⟩, ?_, ?_⟩
            · rcases List.mem_cons.mp hq with z | z
              · rw [z]; exact List.mem_cons_self
              · exact List.mem_cons_of_mem _ (List.mem_append_left _ z)
            · exact T.keep _ _ _ st5 fun b hb o e => (I7.pin (b, o) (List.mem_append_right _ (List.mem_cons_of_mem _ (List.mem_append_right _ (mem_pinsAt hb e))))).1
            · intro b hb
              obtain ⟨o, e, d⟩ := T.obj _ _ st5 b hb
              exact (I7.pin (b, o) (List.mem_append_right _ (List.mem_cons_of_mem _ (List.mem_append_right _ (mem_pinsAt hb e))))).2.1
          cases f with
          | next =>
            obtain ⟨σ7, H7, I7, n7⟩ := hs7
            obtain ⟨m', hm, w7⟩ := hN ys' σ7 H7 n7
            obtain ⟨I7', t7, f7⟩ := unp I7
            exact seg_again rfl (ih m' hm n' (i + 1) ys' s₀' s7 σ7 H7 hn' w7 I7' t7 f7)
          | cont =>
            obtain ⟨σ7, H7, I7, n7⟩ := hs7
            obtain ⟨m', hm, w7⟩ := hN ys' σ7 H7 n7
            obtain ⟨I7', t7, f7⟩ := unp I7
            exact seg_again rfl (ih m' hm n' (i + 1) ys' s₀' s7 σ7 H7 hn' w7 I7' t7 f7)
          | brk =>
            obtain ⟨σ7, H7, I7, n7⟩ := hs7
            exact seg_leaf (.ok .next) (k.ok n' ys' s₀' s7 .next hn' ⟨σ7, H7, (unp I7).1, n7⟩)
          | ret v =>
            obtain ⟨z, σ7, H7, I7, rz, n7⟩ := hs7
            exact seg_leaf (.ok (.ret v)) (k.ok n' ys' s₀' s7 (.ret v) hn' ⟨z, σ7, H7, (unp I7).1, rz, n7⟩)
        · exact ee n' s₀' x s7 hx
  exact loop m0 n 0 ys s₀ s2 σ H2 hn w0 ⟨acc, cc, r, I2⟩ st2 fun b hb => (f2 b hb).1
end
end OP
namespace OP
open PySem PySem.Spec PyProof.Rows GenW L2
theorem gfor_it {J : It} {n : Nat} {G : Hp → Prop} {Y : Nat → Hp → V → Hp → Prop} (w : Walk J n G Y) {g : TG} {tb : TGn} {D : GEnds} {ys : List V} {σ : L2.St} {H : Hp} (Pv : Nat → List V → L2.St → Hp → Prop) (h0 : Pv 0 ys σ H) (hG : ∀ i ys σ H, i ≤ n → Pv i ys σ H → G H)
    (hs : ∀ i x ys σ H H', i < n → Pv i ys σ H → Y i H x H' → g x σ H' fun σ2 H2 => tb { D with nx := Pv (i + 1), ct := Pv (i + 1), bk := D.nx } ys σ2 H2) (hd : ∀ ys σ H, Pv n ys σ H → D.nx ys σ H) :
    ∃ W : Nat → Nat → List V → L2.St → Hp → Prop, (∃ m, W 0 m ys σ H) ∧ ∀ i m ys σ H, W i m ys σ H → (J.stop i H ∧ D.nx ys σ H) ∨ (J.go i H ∧ ∃ N : List V → L2.St → Hp → Prop, (∀ ys' σ' H', N ys' σ' H' → ∃ m', m' < m ∧ W (i + 1) m' ys' σ' H') ∧
      ∀ x H', J.yld i H x H' → g x σ H' fun σ2 H2 => tb { D with nx := N, ct := N, bk := D.nx } ys σ2 H2) := by
  refine ⟨fun i m ys σ H => m = n - i ∧ i ≤ n ∧ Pv i ys σ H, ⟨n, rfl, Nat.zero_le _, h0⟩, ?_⟩
  rintro i m ys σ H ⟨rfl, hi, p⟩
  have q := hG i ys σ H hi p
  by_cases hlt : i < n
  · exact .inr ⟨w.goes i H hlt q, Pv (i + 1), fun ys' σ' H' p' => ⟨n - (i + 1), by omega, rfl, hlt, p'⟩, fun x H' y => hs i x ys σ H H' hlt p (w.yields i H x H' hlt q y)⟩
  · obtain rfl : i = n := by omega
    exact .inl ⟨w.stops H q, hd ys σ H p⟩
/-! ### the sets of a world, by their sizes -/
def lev (n : Nat) : Nat → List (List Int)
  | 0 => [[]]
  | i + 1 => larger (lev n i) n
def upTo (n : Nat) : Nat → List (List Int)
  | 0 => []
  | i + 1 => upTo n i ++ lev n i
def pick (ys : List Str) (p : List Int) : List Str := p.map fun z => ys.getD z.toNat ""
/-- texts at their places -/
abbrev Nts := List (Addr × List Str)
def NtsAt (H : Hp) (Z : Nts) : Prop := ∀ p ∈ Z, H p.1 = some (.tup (p.2.map V.str))
def nrefs (Z : Nts) : List V := Z.map fun p => V.ref p.1
theorem NtsAt.ext {H H' : Hp} {Z : Nts} (e : Same H H') (h : NtsAt H Z) : NtsAt H' Z := fun p hp => e _ _ (h p hp)
theorem NtsAt.snoc {H : Hp} {A : Nts} {a : Addr} {xs : List Str} (h : NtsAt H A) (ha : H a = some (.tup (xs.map V.str))) : NtsAt H (A ++ [(a, xs)]) := fun p hp => by
  rcases List.mem_append.mp hp with q | q
  · exact h p q
  · obtain rfl := List.mem_singleton.mp q
    exact ha
theorem nrefs_snoc (A : Nts) (a : Addr) (xs : List Str) : nrefs (A ++ [(a, xs)]) = nrefs A ++ [V.ref a] := by
  unfold nrefs
  rw [List.map_append] <;> rfl
def setsOf (ys : List Str) : List (List Str) := (upTo ys.length (ys.length + 1)).map (pick ys)
structure LevOk (n : Nat) : Prop where
  len : ∀ i, i ≤ n + 1 → (lev n i).length ≤ 16
  each : ∀ i, i ≤ n + 1 → ∀ p ∈ lev n i, p.length ≤ 4 ∧ ∀ z ∈ p, 0 ≤ z ∧ z < (n : Int)
  some : ∀ i, i ≤ n → lev n i ≠ []
  none : lev n (n + 1) = []
  all : ∀ i, i ≤ n + 1 → (upTo n i).length ≤ 16
theorem lev_ok {n : Nat} (h2 : 2 ≤ n) (h4 : n ≤ 4) : LevOk n := by
  obtain rfl | rfl | rfl : n = 2 ∨ n = 3 ∨ n = 4 := by omega
  · exact ⟨by decide +kernel, by decide +kernel, by decide +kernel, by decide +kernel, by decide +kernel⟩
  · exact ⟨by decide +kernel, by decide +kernel, by decide +kernel, by decide +kernel, by decide +kernel⟩
  · exact ⟨by decide +kernel, by decide +kernel, by decide +kernel, by decide +kernel, by decide +kernel⟩
end OP
/-! two dicts compared whose values have their own == -/
namespace OP
open PySem PySem.Calls PySem.Spec PyProof.Rows L2
section
variable {prog : Program} {w : World} {κ : Type} [DecidableEq κ] {knd : KeyKind prog w κ} {A : Around} {E : Value → Shared → Prop}
/-- all pairs the same: the two objects stand as they were at every turn -/
theorem pairs_same {nm : String} {a b : Addr} {oa ob : Obj} {es es' : Array DictEntry} {ep ep' : Nat} {ka kb : List (κ × Value)} {Q : Bool → Shared → Prop} (ya : (a == sysModules) = false) (yb : (b == sysModules) = false)
    (fa : oa.data = .dict es ep) (fb : ob.data = .dict es' ep') (qa : KeysOf knd es) (qb : KeysOf knd es') (ra : Pairs knd es.toList ka) (rb : Pairs knd es'.toList kb) (hl : ka.length = kb.length)
    (I : Nat → Shared → Prop) (at' : ∀ i s, I i s → s.heap.get? a = some oa ∧ s.heap.get? b = some ob)
    (turn : ∀ i k v s, ka[i]? = some (k, v) → I i s → ∃ y, valueAt kb k = some y ∧ wpAny (model prog w) A (eqBool v y) (fun r s' => r = true ∧ I (i + 1) s') E s)
    (fin : ∀ s, I ka.length s → Q true s) {s : Shared} (h0 : I 0 s) : wpAny (model prog w) A (Builtin.Dict.samePairs nm a b) Q E s := by
  have n1 : ka.length = es.size := ra.length.symm.trans Array.length_toList
  have n2 : kb.length = es'.size := rb.length.symm.trans Array.length_toList
  have n3 : es.size = es'.size := by omega
  have look : ∀ k, findBy knd.is es' k = valueAt kb k := fun k => by
    rw [← rb.find k]; clear n2 n3 rb qb fb turn; obtain ⟨l⟩ := es'; simp [findBy]
  obtain ⟨ga, gb⟩ := at' 0 s h0
  have no_a : ¬ (a == sysModules) = true := by rw [ya]; decide
  have no_b : ¬ (b == sysModules) = true := by rw [yb]; decide
  unfold Builtin.Dict.samePairs Builtin.Dict.showsAll
  rw [if_neg no_a, if_neg no_b]
  refine wpAny_bind (wpAny_pure (wpAny_bind (wpAny_pure (wpAny_bind (wpAny_dictEntries ga fa ?_)))))
  dsimp only
  refine wpAny_bind (wpAny_dictEntries gb fb ?_)
  rw [if_neg (by rw [n3]; simp)]
  refine wpAny_bind (wpAny_dictEpoch ga fa (wpAny_bind ?_))
  rw [Std.Legacy.Range.forIn_eq_forIn_range']
  simp only [Std.Legacy.Range.size, Nat.sub_zero, Nat.add_sub_cancel, Nat.div_one]
  refine wpAny_forIn_list _ (fun rest q s1 => q = (none, ()) ∧ ∃ i, rest = List.range' i (es.size - i) ∧ i ≤ es.size ∧ I i s1) _ ?_ ?_ _ _ ⟨rfl, 0, by simp, Nat.zero_le _, h0⟩
  · rintro x rest q s1 ⟨rfl, i, er, le, hI⟩
    have lt : i < es.size := by
      refine Nat.lt_of_not_le fun z => ?_
      rw [Nat.sub_eq_zero_of_le z] at er; simp at er
    have er2 : x = i ∧ rest = List.range' (i + 1) (es.size - (i + 1)) := by
      rw [show es.size - i = (es.size - (i + 1)) + 1 by omega, List.range'_succ] at er
      injection er with z1 z2; exact ⟨z1, z2⟩
    obtain ⟨rfl, er3⟩ := er2
    obtain ⟨g1, g2⟩ := at' x s1 hI
    refine wpAny_bind (wpAny_dictEntries g1 fa ?_)
    rw [Array.getElem?_eq_getElem lt]
    have ltk : x < ka.length := by rw [n1]; exact lt
    obtain ⟨k, v, ekv⟩ : ∃ k v, ka[x]? = some (k, v) := ⟨ka[x].1, ka[x].2, List.getElem?_eq_getElem ltk⟩
    obtain ⟨isk, isv⟩ := ra.get? (i := x) (e := es[x]) (k := k) (v := v) ((Array.getElem?_toList).trans (Array.getElem?_eq_getElem lt)) ekv
    obtain ⟨k2, isk2, hash⟩ := qa es[x] (Array.getElem_mem lt)
    rw [knd.inj _ _ _ isk2 isk] at hash
    obtain ⟨y, hy, cmp⟩ := turn x k v s1 ekv hI
    show wpAny _ _ (holding [es[x].key, es[x].val] _ >>= _) _ _ _
    rw [hash]
    refine wpAny_bind (wpAny_holding (wpAny_bind (wpAny_dictFind_of isk g2 fb qb ?_)))
    cases ej : es'.findIdx? fun e => knd.is k e.key with
    | none =>
      have z : valueAt kb k = none := by rw [← look k, findBy_of_findIdx?, ej]
      rw [hy] at z; cases z
    | some j =>
      have jl : j < es'.size := (Array.findIdx?_eq_some_iff_getElem.mp ej).1
      have ey : es'[j].val = y := by
        have z : valueAt kb k = some es'[j].val := by rw [← look k, findBy_of_findIdx?, ej]; simp [Array.getElem?_eq_getElem jl]
        exact Option.some.inj (z.symm.trans hy)
      refine wpAny_bind (wpAny_dictEntries g2 fb ?_)
      rw [Array.getElem?_eq_getElem jl]
      show wpAny _ _ (holding [es'[j].val] (eqBool es[x].val es'[j].val)) _ _ _
      rw [ey, isv]
      refine wpAny_holding (wpAny_mono cmp (fun r s2 z => ?_) fun _ _ z => z)
      obtain ⟨rfl, hI2⟩ := z
      rw [if_neg (by decide)]
      refine wpAny_bind (wpAny_dictEpoch (at' _ s2 hI2).1 fa ?_)
      rw [if_neg (by simp)]
      exact wpAny_pure ⟨rfl, x + 1, er3, lt, hI2⟩
  · rintro q s1 ⟨rfl, i, er, le, hI⟩
    have ei : i = es.size := Nat.le_antisymm le (Nat.le_of_not_lt fun z => by
      rw [show es.size - i = (es.size - (i + 1)) + 1 by omega, List.range'_succ] at er; cases er)
    exact wpAny_pure (fin s1 (by rw [n1, ← ei]; exact hI))
theorem dict_rc {a b : Addr} {oa ob : Obj} {es es' : Array DictEntry} {ep ep' : Nat} {ka kb : List (κ × Value)} {Q : Value → Shared → Prop} (ya : (a == sysModules) = false) (yb : (b == sysModules) = false)
    (fa : oa.data = .dict es ep) (fb : ob.data = .dict es' ep') (qa : KeysOf knd es) (qb : KeysOf knd es') (ra : Pairs knd es.toList ka) (rb : Pairs knd es'.toList kb) (hl : ka.length = kb.length)
    (I : Nat → Shared → Prop) (at' : ∀ i s, I i s → s.heap.get? a = some oa ∧ s.heap.get? b = some ob)
    (turn : ∀ i k v s, ka[i]? = some (k, v) → I i s → ∃ y, valueAt kb k = some y ∧ wpAny (model prog w) A.in1 (eqBool v y) (fun r s' => r = true ∧ I (i + 1) s') E s)
    (hu : A.units < cLine) (fin : ∀ s, I ka.length s → Q (.bool true) s) {s : Shared} (ta : s.TypeIs (.ref a) "dict") (tb : s.TypeIs (.ref b) "dict") (h0 : I 0 s) : wpAny (model prog w) A (richCompare .Eq (.ref a) (.ref b)) Q E s := by
  refine wpAny_richCompare_same_room (op := .Eq) ta tb PySem.F.slot_dict_eq (wpAny_call_entry PySem.F.slot_dict_eq ta PySem.F.entry_dict_eq ?_ (PySem.F.args_dict_eq_2 _ _)) hu
  refine wpAny_bind (?_ : wpAny _ _ (Builtin.Dict.dictSlotArgs "__eq__" ⟨[.ref a, .ref b], []⟩) _ _ s)
  unfold Builtin.Dict.dictSlotArgs
  refine wpAny_bind (wpAny_notOrdered_dict ta (?_ : wpAny _ _ (pure (Value.ref a, Value.ref b)) _ _ s))
  refine wpAny_pure (wpAny_bind (wpAny_isInstance (T := "dict") tb PySem.F.sub_dict_dict ?_))
  simp only [Bool.not_true, Bool.false_eq_true, if_false]
  refine wpAny_bind (wpAny_pure (wpAny_bind (wpAny_pure (wpAny_bind ?_))))
  refine pairs_same ya yb fa fb qa qb ra rb hl I at' turn (fun s1 hI => wpAny_pure ⟨_, rfl, ?_, ?_⟩) h0
  · exact fun z => nomatch z
  · simpa using fin s1 hI
end
/-- two dicts at different places, the value of each key the same by D while both are locked -/
def DDict (D : Eqv) : Eqv := fun x y H => ∃ a b ks ls, x = .ref a ∧ y = .ref b ∧ H a = some (.dK ks) ∧ H b = some (.dK ls) ∧ ks.length = ls.length ∧
  ∀ oa ob, ∀ p ∈ ks, ∃ y, valV ls p.1 = some y ∧ D p.2 y (upd (upd H a (.frz oa (.dK ks))) b (.frz ob (.dK ls)))
theorem kv_mem {ks : List (Key × V)} {va : List (Key × Value)} (r : KV ks va) : ∀ {i : Nat} {k : Key} {v : Value}, va[i]? = some (k, v) → ∃ p, p ∈ ks ∧ p.1 = k ∧ RelV p.2 v := by
  unfold KV at r
  induction r with
  | nil => intro i k v h; simp at h
  | @cons p q ps qs h t ih =>
    intro i k v e
    cases i with
    | zero =>
      obtain rfl := Option.some.inj e
      exact ⟨p, List.mem_cons_self, h⟩
    | succ i =>
      obtain ⟨p', hp, z⟩ := ih (i := i) e
      exact ⟨p', List.mem_cons_of_mem _ hp, z⟩
section
variable {X : Cx} {n : Nat} {D : Eqv}
theorem rcG_dict (hD : Mon D) (h : EqG X n D) : RcG X (n + 1) (DDict D) := by
  intro A pins s σ H x y u v sb I rx ry d
  obtain ⟨a, b, ks, ls, rfl, rfl, ha, hb, hlen, hp⟩ := d
  cases rx
  cases ry
  by_cases ne : a = b
  · obtain rfl := ne
    obtain rfl : ks = ls := by
      rw [ha] at hb
      injection hb with z
      injection z
    obtain ⟨oa, I1⟩ := I.lock ha trivial
    obtain ⟨ea, _, ya, va, rva, oa', es, ep, ea', xa, da, kka, pa, _⟩ := (show ObjOk X.prog X.w _ s.heap a (.frz oa (.dK ks)) from I1.hok a _ upd_same)
    obtain rfl : oa' = oa := Option.some.inj (ea'.symm.trans ea)
    have uu : upd (upd H a (.frz oa' (.dK ks))) a (.frz oa' (.dK ks)) = upd H a (.frz oa' (.dK ks)) := by
      funext c
      by_cases hc : c = a
      · rw [hc, upd_same, upd_same]
      · rw [upd_ne hc]
    refine dict_rc (knd := mixKind X.prog X.w) ya ya da da kka kka pa pa rfl (fun _ s' => ∃ H', Inv X pins σ H' s' ∧ Ext (upd H a (.frz oa' (.dK ks))) H') (fun i s' hI => ?_) (fun i k v s' hk hI => ?_) sb.room.units0 (fun s' hI => ?_) ⟨_, ea, xa.1⟩ ⟨_, ea, xa.1⟩ ⟨_, I1, Ext.rfl'⟩
    · obtain ⟨H', J, ex⟩ := hI
      have z := (show ObjOk X.prog X.w _ s'.heap a (.frz oa' (.dK ks)) from J.hok a _ (ex _ _ upd_same)).1
      exact ⟨z, z⟩
    · obtain ⟨H', J, ex⟩ := hI
      obtain ⟨p, hpk, e1, rp⟩ := kv_mem rva hk
      obtain ⟨z, hz, dz⟩ := hp oa' oa' p hpk
      rw [uu] at dz
      have rr : RelO (some z) (valueAt va k) := by rw [← hz, e1]; exact rva.val k
      obtain ⟨y, hy, ry⟩ := rr.some_of
      refine ⟨y, hy, wpAny_mono (h A.in1 pins s' σ H' p.2 z v y sb.in1 J rp ry (hD _ _ _ _ ex dz)) (fun r s2 q => ?_) fun _ _ q => q⟩
      obtain ⟨hr, H2, J2, ex2⟩ := q
      exact ⟨hr, H2, J2, ex.trans ex2⟩
    · obtain ⟨H', J, ex⟩ := hI
      refine ⟨rfl, _, J.unlock (ex _ _ upd_same) (I.nofrz ha trivial), fun c o e => ?_⟩
      by_cases ca : c = a
      · rw [ca, upd_same, ← ha, ← e, ca]
      · rw [upd_ne ca]
        exact ex _ _ (by rw [upd_ne ca]; exact e)
  obtain ⟨oa, I1⟩ := I.lock ha trivial
  have hb1 : upd H a (.frz oa (.dK ks)) b = some (.dK ls) := by rw [upd_ne (Ne.symm ne)]; exact hb
  obtain ⟨ob, I2⟩ := I1.lock hb1 trivial
  have ha2 : upd (upd H a (.frz oa (.dK ks))) b (.frz ob (.dK ls)) a = some (.frz oa (.dK ks)) := by rw [upd_ne ne, upd_same]
  have hb2 : upd (upd H a (.frz oa (.dK ks))) b (.frz ob (.dK ls)) b = some (.frz ob (.dK ls)) := upd_same
  obtain ⟨ea, _, ya, va, rva, oa', es, ep, ea', xa, da, kka, pa, _⟩ := (show ObjOk X.prog X.w _ s.heap a (.frz oa (.dK ks)) from I2.hok a _ ha2)
  obtain ⟨eb, _, yb, vb, rvb, ob', es', ep', eb', xb, db, kkb, pb, _⟩ := (show ObjOk X.prog X.w _ s.heap b (.frz ob (.dK ls)) from I2.hok b _ hb2)
  obtain rfl : oa' = oa := Option.some.inj (ea'.symm.trans ea)
  obtain rfl : ob' = ob := Option.some.inj (eb'.symm.trans eb)
  refine dict_rc (knd := mixKind X.prog X.w) ya yb da db kka kkb pa pb (by rw [← rva.length, ← rvb.length]; exact hlen)
    (fun _ s' => ∃ H', Inv X pins σ H' s' ∧ Ext (upd (upd H a (.frz oa' (.dK ks))) b (.frz ob' (.dK ls))) H') (fun i s' hI => ?_) (fun i k v s' hk hI => ?_) sb.room.units0 (fun s' hI => ?_) ?_ ?_ ⟨_, I2, Ext.rfl'⟩
  · obtain ⟨H', J, ex⟩ := hI
    exact ⟨(show ObjOk X.prog X.w _ s'.heap a (.frz oa' (.dK ks)) from J.hok a _ (ex _ _ ha2)).1, (show ObjOk X.prog X.w _ s'.heap b (.frz ob' (.dK ls)) from J.hok b _ (ex _ _ hb2)).1⟩
  · obtain ⟨H', J, ex⟩ := hI
    obtain ⟨p, hpk, e1, rp⟩ : ∃ p, p ∈ ks ∧ p.1 = k ∧ RelV p.2 v := by
      exact kv_mem rva hk
    obtain ⟨z, hz, dz⟩ := hp oa' ob' p hpk
    have rr : RelO (some z) (valueAt vb k) := by rw [← hz, e1]; exact rvb.val k
    obtain ⟨y, hy, ry⟩ := rr.some_of
    refine ⟨y, hy, wpAny_mono (h A.in1 pins s' σ H' p.2 z v y sb.in1 J rp ry (hD _ _ _ _ ex dz)) (fun r s2 q => ?_) fun _ _ q => q⟩
    obtain ⟨hr, H2, J2, ex2⟩ := q
    exact ⟨hr, H2, J2, ex.trans ex2⟩
  · obtain ⟨H', J, ex⟩ := hI
    have J1 := J.unlock (ex _ _ hb2) (I1.nofrz hb1 trivial)
    have ha3 : upd H' b (.dK ls) a = some (.frz oa' (.dK ks)) := by rw [upd_ne ne]; exact ex _ _ ha2
    have J2 := J1.unlock ha3 (I.nofrz ha trivial)
    refine ⟨rfl, _, J2, fun c o e => ?_⟩
    by_cases ca : c = a
    · rw [ca, upd_same, ← ha, ← e, ca]
    · rw [upd_ne ca]
      by_cases cb : c = b
      · rw [cb, upd_same, ← hb, ← e, cb]
      · rw [upd_ne cb]
        exact ex _ _ (by rw [upd_ne cb, upd_ne ca]; exact e)
  · exact ⟨_, ea, xa.1⟩
  · exact ⟨_, eb, xb.1⟩
end
end OP
namespace OP
open PySem PySem.Spec PyProof.Rows L2
/-- the same world at two places -/
structure Twin (S S' : Sts) (L L' : Ncs) : Prop where
  sts : S.map (·.2) = S'.map (·.2)
  chgs : L.map (fun p => (p.1, p.2.2)) = L'.map (fun p => (p.1, p.2.2))
def DChg (K : PySem.W.Frag) : Eqv := fun x y H => ∃ q : CK, DIns (q.cls K) (REq K q) x y H
theorem mon_chg {K : PySem.W.Frag} : Mon (DChg K) := fun x y H H' e ⟨q, d⟩ => ⟨q, mon_ins (fun a b H H' e ⟨c, h1, h2, h3⟩ => ⟨c, h1, h2.ext e, h3.ext e⟩) x y H H' e d⟩
theorem eqG_chg {X : Cx} (h : ∀ q : CK, RcG X 2 (DIns (q.cls X.K) (REq X.K q))) : EqG X 2 (DChg X.K) := by
  intro A pins s σ H x y u v sb I rx ry ⟨q, d⟩
  exact (h q).eqG (fun _ _ _ d => let ⟨a, b, _, _, _, _, hx, hy, _⟩ := d; ⟨a, b, hx, hy⟩) A pins s σ H x y u v sb I rx ry d
def REqW (K : PySem.W.Frag) (a b : Addr) (H : Hp) : Prop := ∃ n S L S' L', WorldAt K H a n S L ∧ WorldAt K H b n S' L' ∧ Twin S S' L L' ∧ ChgsOk n L
theorem strOk_name {x : Str} (h : NameOk x) : PyData.strOk x = true := by
  unfold PyData.strOk
  rw [Array.all_eq_true_iff_forall_mem]
  intro c hc
  have all : ∀ c ∈ ("abcdefghijklmnopqrstuvwxyz" : Str).cps.toList, decide (c < 0x110000) = true := by decide +kernel
  exact all c (h.each c (Array.mem_toList_iff.mpr hc))
theorem Twin.names {S S' : Sts} {L L' : Ncs} (t : Twin S S' L L') : names L = names L' := by
  have := congrArg (List.map Prod.fst) t.chgs
  rw [List.map_map, List.map_map] at this
  exact this
section
variable {P : Program} {w : World} {K : PySem.W.Frag} {mg : Str → Option Value} {base : Heap}
theorem kit_World {K : PySem.W.Frag} : PySem.W.kitOne K (.ref (c_World K)) (.ref (c_World K)) = some true := by
  unfold PySem.W.kitOne
  rw [if_pos (by simp)]
theorem sc_weq : FnScope ["self", "other"] ["self", "other"] (defScope s_World_eq) := ⟨rfl, rfl, rfl, by decide +kernel, rfl, by decide +kernel, by decide +kernel⟩
theorem ok_World_eq (T : Txt K mg) : Ok P w K mg base (a_World_eq K) ["self", "other"] 4 (spEq (REqW K)) := by
  have GE : ∀ q, Ok P w K mg base (CK.eqA K q) ["self", "other"] 2 (spEq (REq K q)) := okC_eq T
  have GN : Ok P w K mg base (a_World_names K) _ 1 (spNames K) := ok_World_names T
  refine ok_of T.f_World_eq sc_weq (fun _ _ _ _ _ _ us hl => match us, hl with | [_, _], _ => rfl) (fun vs H Q E h => ?_) (fun cdv A outer s0 H vs Q E hr h => ?_)
  · obtain ⟨a, b, rfl, _⟩ := h
    rfl
  · obtain ⟨a, b, rfl, ⟨n, S, L, S', L', W, W', tw, cok⟩, k⟩ := h
    have hu : _ + 64 < cLine := hr.units
    have hr2 : Room 2 _ := hr.mono (by decide)
    refine ⟨_, pss_one (ps_ret (pe_and (pe_callB call_isi (by rfl) T.z_isinstance (by decide +kernel) (pa_cons (pv 1) (pa_cons (pe_glob (v := .ref (c_World K)) (by rfl) T.g_World rfl) pa_nil)))
        (pe_and (pe_cmpR op_eq (pe_fld (pv 0) rfl) (pe_fld (pv 1) rfl) (nomark _)) (pe_and (pe_cmpR (op_eqD hu) (pe_fld (pv 0) rfl) (pe_fld (pv 1) rfl) (nomark _))
        (pe_and (pe_cmpR (op_eqD hu) (pe_pr (pv 0) T.o_World T.p_World_names GN hr2) (pe_pr (pv 1) T.o_World T.p_World_names GN hr2) (nomark _))
        (pe_one (pe_cmpR (op_eqG (rcG_dict mon_chg (eqG_chg fun q => rc_of (GE q) (T.methEC q))) hr) (pe_fld (pv 0) rfl) (pe_fld (pv 1) rfl) (nomark _)))))))), ?_⟩
    obtain ⟨⟨dx, l, d, hp, hl, hd⟩, hS, hL⟩ := id W
    obtain ⟨⟨dx', l', d', hp', hl', hd'⟩, hS', hL'⟩ := id W'
    refine ⟨_, rfl, _, _, _, _, true, rfl, .own (c_World K), T.o_World.ty hp', kit_World, true, rfl, iteT ?_⟩
    refine ⟨_, rfl, a, c_World K, dx, _, _, rfl, hp, T.o_World.cl, T.n_World_width, lookA, _, rfl, b, c_World K, dx', _, _, rfl, hp', T.o_World.cl, T.n_World_width, lookA, rfl, true, congrArg V.bl (decide_eq_true rfl), iteT ?_⟩
    have dS := dp_Ts (K := K) hl hS
    have dS' := dp_Ts (K := K) hl' hS'
    rw [tw.sts] at dS
    refine ⟨_, rfl, a, c_World K, dx, _, _, rfl, hp, T.o_World.cl, T.n_World_starts, lookB w_s, _, rfl, b, c_World K, dx', _, _, rfl, hp', T.o_World.cl, T.n_World_starts, lookB w_s, _, _, dS, dS', shp_Ts _, shp_Ts _, true, congrArg V.bl (eqv_shp (shp_Ts _)), iteT ?_⟩
    refine ⟨_, rfl, a, dx, _, rfl, hp, a, n, S, L, rfl, W, fun r1 H1 s1 e1 => ?_⟩
    refine ⟨_, rfl, b, dx', _, rfl, s1 _ _ hp', b, n, S', L', rfl, W'.ext s1, fun r2 H2 s2 e2 => ?_⟩
    have e1' := s2 _ _ e1
    rw [tw.names] at e1'
    have so : ∀ y ∈ names L', PyData.strOk y = true := fun y hy => by
      rw [← tw.names] at hy
      obtain ⟨p, hp, rfl⟩ := List.mem_map.mp hy
      exact strOk_name (cok.name p hp)
    refine ⟨_, _, .lst (SqL.of e1') (dp_strs _), .lst (SqL.of e2) (dp_strs _), shp_strs so, shp_strs so, true, congrArg V.bl (eqv_shp (shp_strs so)), iteT ?_⟩
    have s3 := s1.trans s2
    refine ⟨_, rfl, a, c_World K, dx, _, _, rfl, s3 _ _ hp, T.o_World.cl, T.n_World_made, lookC w_m s_m, _, rfl, b, c_World K, dx', _, _, rfl, s3 _ _ hp', T.o_World.cl, T.n_World_made, lookC w_m s_m, ?_, fun H' e => k H' (s3.trans e)⟩
    have ll : L.length = L'.length := by
      have := congrArg List.length tw.chgs
      rw [List.length_map, List.length_map] at this
      exact this
    refine ⟨d, d', kvs L, kvs L', rfl, rfl, s3 _ _ hd, s3 _ _ hd', by rw [kvs_len, kvs_len]; exact ll, fun oa ob p hp => ?_⟩
    obtain ⟨z, hz, rfl⟩ := List.mem_map.mp hp
    obtain ⟨i, hi, rfl⟩ := List.mem_iff_getElem.mp hz
    have hi' : i < L'.length := by rw [← ll]; exact hi
    have nd' : (names L').Nodup := by rw [← tw.names]; exact cok.nd
    have e5 : (L[i].1, L[i].2.2) = (L'[i].1, L'[i].2.2) := by
      have := List.getElem_of_eq tw.chgs (i := i) (by rw [List.length_map]; exact hi)
      rw [List.getElem_map, List.getElem_map] at this
      exact this
    obtain ⟨e6, e7⟩ := Prod.mk.inj e5
    refine ⟨V.ref L'[i].2.1, by rw [e6]; exact valV_kvs nd' hi', L[i].2.2.ck, ?_⟩
    have c1 : ChgAt K H2 L[i].2.1 L[i].2.2 := (hL _ (List.getElem_mem hi)).ext s3
    have c2 : ChgAt K H2 L'[i].2.1 L[i].2.2 := by rw [e7]; exact (hL' _ (List.getElem_mem hi')).ext s3
    have hd2 := s3 _ _ hd
    have hd2' := s3 _ _ hd'
    have lk : ∀ {x : Addr} {c : Chg} {u v : HO}, ChgAt K H2 x c → ChgAt K (upd (upd H2 d u) d' v) x c := fun {x c u v} h => by
      by_cases dd : d' = d
      · rw [dd]
        have uu : upd (upd H2 d u) d v = upd H2 d v := by
          funext y
          by_cases hy : y = d
          · rw [hy, upd_same, upd_same]
          · rw [upd_ne hy, upd_ne hy, upd_ne hy]
        rw [uu]
        exact h.lock hd2
      · exact (h.lock hd2).lock (kv := kvs L') (by rw [upd_ne dd]; exact hd2')
    obtain ⟨dc, fs, ho, _⟩ := (lk (u := .frz oa (.dK (kvs L))) (v := .frz ob (.dK (kvs L'))) c1).obj
    obtain ⟨dc', fs', ho', _⟩ := (lk (u := .frz oa (.dK (kvs L))) (v := .frz ob (.dK (kvs L'))) c2).obj
    exact ⟨_, _, dc, dc', fs, fs', rfl, rfl, ho, ho', L[i].2.2, rfl, lk c1, lk c2⟩
end
end OP
namespace OP
open PySem PySem.Spec PyProof.Rows L2
/-! ### changes as rows -/
def Kind.word : Kind → Str
  | .put => "put"
  | .move => "move"
  | .add => "add"
  | .addslot => "addslot"
  | .rais => "raise"
  | .lower => "lower"
def word : Option Kind → Str
  | none => "if"
  | some k => k.word
def oneRow (o : One) : List V := [.str o.k.word, .int o.s, .int o.v]
def RowAt (H : Hp) (a : Addr) : Chg → Prop
  | .one o => H a = some (.tup (oneRow o))
  | .iff s v o => ∃ b, H a = some (.tup [.str "if", .int s, .int v, .ref b]) ∧ H b = some (.tup (oneRow o))
theorem RowAt.ext {H H' : Hp} {a : Addr} {c : Chg} (k : Same H H') (h : RowAt H a c) : RowAt H' a c := by
  cases c with
  | one o => exact k _ _ h
  | iff s v o =>
    obtain ⟨b, h1, h2⟩ := h
    exact ⟨b, k _ _ h1, k _ _ h2⟩
def Fits (n : Nat) (c : Chg) : Prop := ∀ z ∈ c.slots, z < (n : Int)
theorem fits_one {n : Nat} {o : One} (h : o.s < n) (h2 : o.k.src = true → o.v < n) : Fits n (.one o) := fun z hz => by
  have hz : z ∈ o.slots := hz
  unfold One.slots at hz
  split at hz
  · rename_i hs
    have := h2 hs
    unfold two at hz
    split at hz
    · obtain rfl := List.mem_singleton.mp hz; omega
    · split at hz
      · rcases List.mem_cons.mp hz with rfl | hz
        · omega
        · obtain rfl := List.mem_singleton.mp hz; omega
      · rcases List.mem_cons.mp hz with rfl | hz
        · omega
        · obtain rfl := List.mem_singleton.mp hz; omega
  · obtain rfl := List.mem_singleton.mp hz
    omega
theorem fits_iff {n s v : Nat} {o : One} (h : s < n) (h2 : Fits n (.one o)) : Fits n (.iff s v o) := fun z hz => by
  have hz : z ∈ three s o.slots := hz
  unfold three at hz
  obtain ⟨_, q⟩ := List.mem_filter.mp hz
  rcases of_decide_eq_true q with rfl | q
  · omega
  · exact h2 z q
theorem w_if (q : Option Kind) : decide (V.str (word q) = V.str "if") = decide (q = none) := by
  cases q with
  | none => decide +kernel
  | some k => cases k <;> decide +kernel
theorem w_move (q : Option Kind) : decide (V.str (word q) = V.str "move") = decide (q = some .move) := by
  cases q with
  | none => decide +kernel
  | some k => cases k <;> decide +kernel
theorem w_addslot (q : Option Kind) : decide (V.str (word q) = V.str "addslot") = decide (q = some .addslot) := by
  cases q with
  | none => decide +kernel
  | some k => cases k <;> decide +kernel
theorem w_put (q : Option Kind) : decide (V.str (word q) = V.str "put") = decide (q = some .put) := by
  cases q with
  | none => decide +kernel
  | some k => cases k <;> decide +kernel
theorem w_add (q : Option Kind) : decide (V.str (word q) = V.str "add") = decide (q = some .add) := by
  cases q with
  | none => decide +kernel
  | some k => cases k <;> decide +kernel
theorem w_raise (q : Option Kind) : decide (V.str (word q) = V.str "raise") = decide (q = some .rais) := by
  cases q with
  | none => decide +kernel
  | some k => cases k <;> decide +kernel
theorem tand_pure {tA tB : TT} {σ : L2.St} {H : Hp} {Q : Bool → Hp → Prop} (p r : Bool) (hA : ∀ Q' : Bool → Hp → Prop, Q' p H → tA σ H Q') (hB : ∀ Q' : Bool → Hp → Prop, Q' r H → tB σ H Q') (h : Q (p && r) H) : tAnd tA tB σ H Q := by
  refine hA _ ?_
  cases p with
  | false => exact iteF h
  | true => exact iteT (hB _ h)
theorem seq_and {tA tB : TT} {u v z : TS} {D : Ends} {σ : L2.St} {H : Hp} (p r : Bool) (hA : ∀ Q' : Bool → Hp → Prop, Q' p H → tA σ H Q') (hB : ∀ Q' : Bool → Hp → Prop, Q' r H → tB σ H Q') (h : if (p && r) = true then u { D with nx := z D } σ H else v { D with nx := z D } σ H) : tSeq (tIfS (tAnd tA tB) u v) z D σ H := tand_pure p r hA hB h
theorem nat_of {v : Int} (h : 0 ≤ v) : ∃ m : Nat, v = (m : Int) := ⟨v.toNat, by omega⟩
section
variable {P : Program} {w : World} {K : PySem.W.Frag} {mg : Str → Option Value} {base : Heap}
/-- never called -/
theorem ok_no {x qual : Str} {st : Stmt} {f : Addr} {ps : List Str} {k : Nat} (F : ∃ fd, Fun K x qual st f fd)
    (hb : ∀ (kV doc pm : Value) (an : Option Addr) (cdv ct : Value) (us : List Value), us.length = ps.length → bindArgs (PySem.W.fnOf x qual (defArgs st) (defBody st) (defScope st) .none kV doc pm an cdv ct) ⟨us, []⟩ = pure (ps.zip us)) : Ok P w K mg base f ps k (fun _ _ _ _ => False) := by
  obtain ⟨fd, F⟩ := F
  exact ⟨⟨fd, ⟨fun _ _ _ _ h => h.elim, fun _ _ _ _ _ _ _ _ _ _ _ _ _ h => h.elim⟩, F.binds hb⟩, F.kp⟩
end
end OP
namespace OP
open PySem PySem.Spec PyProof.Rows L2
theorem pi_or {X : Cx} {tg e : Expr} {w1 w2 : TI} (h1 : PI X tg e w1) (h2 : PI X tg e w2) : PI X tg e (fun σ H R => w1 σ H R ∨ w2 σ H R) := ⟨fun pins s σ H R I h => by
  rcases h with h | h
  · exact h1.run pins s σ H R I h
  · exact h2.run pins s σ H R I h⟩
/-! ### policies -/
abbrev Ents := List (Str × Str)
def pol (E : Ents) : List (List Key × V) := E.map fun e => ([Sum.inr e.1, Sum.inr e.2], V.bl true)
def PolAt (H : Hp) (d : Addr) (E : Ents) : Prop := Rd H d (.dT (pol E))
theorem pol_val (E : Ents) (a b : Str) : valV (pol E) [Sum.inr a, Sum.inr b] = if (a, b) ∈ E then some (V.bl true) else none := by
  induction E with
  | nil => rfl
  | cons e E ih =>
    show valV (([Sum.inr e.1, Sum.inr e.2], V.bl true) :: pol E) [Sum.inr a, Sum.inr b] = _
    by_cases h : e = (a, b)
    · rw [if_pos (by rw [h]; exact List.mem_cons_self), h]
      exact valV_pos rfl
    · have ne : ¬ ([Sum.inr e.1, Sum.inr e.2] : List Key) = [Sum.inr a, Sum.inr b] := fun z => h (by
        injection z with z1 z2
        injection z2 with z2 _
        exact Prod.ext (Sum.inr.inj z1) (Sum.inr.inj z2))
      rw [valV_neg ne, ih]
      by_cases hm : (a, b) ∈ E
      · rw [if_pos hm, if_pos (List.mem_cons_of_mem _ hm)]
      · rw [if_neg hm, if_neg (fun z => (List.mem_cons.mp z).elim (fun q => h q.symm) hm)]
theorem pol_some (E : Ents) (a b : Str) : (valV (pol E) [Sum.inr a, Sum.inr b]).isSome = decide ((a, b) ∈ E) := by
  rw [pol_val]
  by_cases h : (a, b) ∈ E
  · rw [if_pos h, decide_eq_true h] <;> rfl
  · rw [if_neg h, decide_eq_false h] <;> rfl
theorem PolAt.ext {H H' : Hp} {d : Addr} {E : Ents} (s : Same H H') (h : PolAt H d E) : PolAt H' d E := by
  rcases h with h | ⟨o, h⟩
  · exact .inl (s _ _ h)
  · exact .inr ⟨o, s _ _ h⟩
theorem PolAt.get {H : Hp} {d q : Addr} {E : Ents} {a b : Str} (h : PolAt H d E) (hq : H q = some (.tup [V.str a, V.str b])) : DGet H d (.ref q) (valV (pol E) [Sum.inr a, Sum.inr b]) := .inr ⟨pol E, [Sum.inr a, Sum.inr b], q, h, rfl, hq, rfl⟩
def bef (E : Ents) (o y : Str) : Bool := decide ((o, y) ∈ E)
def freeN (E : Ents) (ys : List Str) : List Str := ys.filter fun y => !(ys.any fun o => bef E o y)
def withoutN (ys : List Str) (y : Str) : List Str := ys.filter fun o => !decide (o = y)
/-- a list or a tuple of texts -/
def SqN (K : PySem.W.Frag) (H : Hp) (a : Addr) (ys : List Str) : Prop := SqL K H a (ys.map V.str) ∨ SqT K H a (ys.map V.str)
theorem SqN.ext {K : PySem.W.Frag} {H H' : Hp} {a : Addr} {ys : List Str} (s : Same H H') (h : SqN K H a ys) : SqN K H' a ys := by
  rcases h with h | h
  · exact .inl (Same.seq s h)
  · exact .inr (Same.tp s h)
section
variable {P : Program} {w : World} {K : PySem.W.Frag} {mg : Str → Option Value} {base : Heap}
def spFree (K : PySem.W.Frag) : Sp := fun vs H Q _ => ∃ (d a : Addr) (E : Ents) (ys : List Str), vs = [.ref d, .ref a] ∧ PolAt H d E ∧ SqN K H a ys ∧ ys.length ≤ 4 ∧ ∀ H' r, Same H H' → H r = none → H' r = some (.lst ((freeN E ys).map V.str)) → Q (.ref r) H'
theorem sc_free : FnScope ["policy", "names", "name", "other"] ["policy", "names"] (defScope s_free_names) := ⟨rfl, rfl, rfl, by decide +kernel, rfl, by decide +kernel, by decide +kernel⟩
theorem ok_free (T : Txt K mg) : Ok P w K mg base (a_free_names K) ["policy", "names"] 1 (spFree K) := by
  refine ok_of T.f_free_names sc_free (fun _ _ _ _ _ _ us hl => match us, hl with | [_, _], _ => rfl) (fun vs H Q E h => ?_) (fun cdv A outer s H vs Q E hr h => ?_)
  · obtain ⟨d, a, E', ys, rfl, _⟩ := h
    rfl
  · obtain ⟨d, a, E', ys, rfl, hd, ha, h4, kk⟩ := h
    refine ⟨_, (pss_one (ps_ret (pe_lc (own := [("name", 2)]) (g := (gName 2)) rfl sc_free.nd (pi_or (pi_listK K (pv 1)) (pi_tupK K (pv 1))) (blkOk_by (own := [("name", 2)]) (N := ["policy", "names", "name", "other"]) (sc := defScope s_free_names) (by decide +kernel)) (fun _ _ _ _ _ => (pg_name (i := 2) sc_free.nd rfl (Or.inr rfl))) (fun _ _ _ _ _ => (pts_one (pt_not (pt_val (pe_callB (cr_anyK K rfl) (by rfl) T.z_any (by decide +kernel) (pa_cons (pe_lc (own := [("other", 3)]) (g := (gName 3)) (tt := tYes) rfl sc_free.nd (pi_or (pi_listK K (pv 1)) (pi_tupK K (pv 1))) (blkOk_by (own := [("other", 3)]) (N := ["policy", "names", "name", "other"]) (sc := ({ kind := PySem.ScopeKind.function, names := [ (PySem.Str.ofString ".0", PySem.NameKind.local), (PySem.Str.ofString "name", PySem.NameKind.cell), (PySem.Str.ofString "any", PySem.NameKind.globalImplicit), (PySem.Str.ofString "names", PySem.NameKind.cell), (PySem.Str.ofString "policy", PySem.NameKind.cell)], isGenerator := false, isCoroutine := false, more := [] : PySem.Scope })) (by decide +kernel)) (fun _ _ _ _ _ => (pg_name (i := 3) sc_free.nd rfl (Or.inl rfl))) (fun _ _ _ _ _ => pts_nil) (fun _ _ _ _ _ => (pe_cmp (pc_din (hu_of hr) (pe_tup (pa_cons (pv 3) (pa_cons (pv 2) pa_nil))) (pv 0)) rfl))) pa_nil)))))) (fun _ _ _ _ _ => (pv 2))))), ?_⟩
    have hm : (ys.map V.str).length = ys.length := List.length_map ..
    rcases ha with ha | ha
    · refine .inl ⟨_, rfl, a, rfl, ⟨_, ha⟩, fun D hD => ?_⟩
      refine lc_it (walk_list (K := K) (a := a) (xs := ys.map V.str)) (fun i H' => Same H H' ∧ H' D = some (.lst (((ys.take i).filter fun y => !(ys.any fun o => bef E' o y)).map V.str))) ⟨same_upd hD, by rw [upd_same, List.take_zero] <;> rfl⟩ (fun i H' _ q => Same.seq q.1 ha) (fun i x H2 H3 hi q yy => ?_) (fun H2 q => ?_)
      · obtain ⟨s2, d2⟩ := q
        obtain ⟨rfl, hx⟩ := yy
        obtain ⟨y, hy, rfl⟩ := strs_at' hx
        refine ⟨rfl, .inl ⟨_, rfl, a, rfl, ⟨_, Same.seq s2 ha⟩, fun D2 hD2 => ?_⟩⟩
        refine lcL_map (K := K) (a := a) (xs := ys.map V.str) (ys.map fun o => V.bl (bef E' o y)) hD2 (Same.seq s2 ha) (by rw [hm]; omega) (by rw [hm, List.length_map]) (fun j x2 v H4 Qe hx2 hv s4 kq => ?_) fun H4 s4 e4 => ?_
        · obtain ⟨o, ho, rfl⟩ := strs_at' hx2
          rw [List.getElem?_map, ho] at hv
          obtain rfl := Option.some.inj hv
          refine ⟨_, rfl, _, rfl, (by show 2 ≤ sizeLine; decide), fun q hq => ?_⟩
          have s5 : Same H4 _ := same_upd (o := .tup [V.str o, V.str y]) hq
          refine ⟨_, rfl, d, _, rfl, (((hd.ext s2).ext s4).ext s5).get upd_same, ?_⟩
          rw [pol_some]
          exact kq _ s5
        · refine ⟨D2, ys.map fun o => bef E' o y, rfl, ?_, _, rfl, ?_⟩
          · rw [List.map_map]
            exact SqL.of e4
          have ea : (ys.map fun o => bef E' o y).any id = ys.any fun o => bef E' o y := by rw [List.any_map] <;> rfl
          rw [ea]
          have et : (ys.take (i + 1)).filter (fun y => !(ys.any fun o => bef E' o y)) = (ys.take i).filter (fun y => !(ys.any fun o => bef E' o y)) ++ if (ys.any fun o => bef E' o y) = true then [] else [y] := by
            rw [List.take_add_one, hy, Option.toList_some, List.filter_append]
            congr 1
            cases hb : ys.any fun o => bef E' o y with
            | true => rw [if_pos rfl, List.filter_cons, hb] <;> rfl
            | false => rw [if_neg (by decide), List.filter_cons, hb] <;> rfl
          have d4 := s4 _ _ d2
          cases hb : ys.any fun o => bef E' o y with
          | true =>
            refine iteF ⟨s2.trans s4, ?_⟩
            rw [et, hb, if_pos rfl, List.append_nil]
            exact d4
          | false =>
            refine iteT ⟨_, rfl, _, d4, small1000 ?_, fun b u e => ?_, ?_⟩
            · rw [List.length_map]
              have f1 := List.length_filter_le (fun y => !(ys.any fun o => bef E' o y)) (ys.take i)
              rw [List.length_take] at f1
              omega
            · rw [upd_ne (ne_of_none e hD)]
              exact s4 _ _ (s2 _ _ e)
            · rw [upd_same, et, hb, if_neg (by decide), List.map_append] <;> rfl
      · obtain ⟨s2, d2⟩ := q
        rw [hm, List.take_length] at d2
        exact kk _ D s2 hD d2
    · refine .inr ⟨_, rfl, a, rfl, ⟨_, ha⟩, fun D hD => ?_⟩
      refine lc_it (walk_tup (K := K) (a := a) (xs := ys.map V.str)) (fun i H' => Same H H' ∧ H' D = some (.lst (((ys.take i).filter fun y => !(ys.any fun o => bef E' o y)).map V.str))) ⟨same_upd hD, by rw [upd_same, List.take_zero] <;> rfl⟩ (fun i H' _ q => Same.tp q.1 ha) (fun i x H2 H3 hi q yy => ?_) (fun H2 q => ?_)
      · obtain ⟨s2, d2⟩ := q
        obtain ⟨rfl, hx⟩ := yy
        obtain ⟨y, hy, rfl⟩ := strs_at' hx
        refine ⟨rfl, .inr ⟨_, rfl, a, rfl, ⟨_, Same.tp s2 ha⟩, fun D2 hD2 => ?_⟩⟩
        refine lcT_map (K := K) (a := a) (xs := ys.map V.str) (ys.map fun o => V.bl (bef E' o y)) hD2 (Same.tp s2 ha) (by rw [hm]; omega) (by rw [hm, List.length_map]) (fun j x2 v H4 Qe hx2 hv s4 kq => ?_) fun H4 s4 e4 => ?_
        · obtain ⟨o, ho, rfl⟩ := strs_at' hx2
          rw [List.getElem?_map, ho] at hv
          obtain rfl := Option.some.inj hv
          refine ⟨_, rfl, _, rfl, (by show 2 ≤ sizeLine; decide), fun q hq => ?_⟩
          have s5 : Same H4 _ := same_upd (o := .tup [V.str o, V.str y]) hq
          refine ⟨_, rfl, d, _, rfl, (((hd.ext s2).ext s4).ext s5).get upd_same, ?_⟩
          rw [pol_some]
          exact kq _ s5
        · refine ⟨D2, ys.map fun o => bef E' o y, rfl, ?_, _, rfl, ?_⟩
          · rw [List.map_map]
            exact SqL.of e4
          have ea : (ys.map fun o => bef E' o y).any id = ys.any fun o => bef E' o y := by rw [List.any_map] <;> rfl
          rw [ea]
          have et : (ys.take (i + 1)).filter (fun y => !(ys.any fun o => bef E' o y)) = (ys.take i).filter (fun y => !(ys.any fun o => bef E' o y)) ++ if (ys.any fun o => bef E' o y) = true then [] else [y] := by
            rw [List.take_add_one, hy, Option.toList_some, List.filter_append]
            congr 1
            cases hb : ys.any fun o => bef E' o y with
            | true => rw [if_pos rfl, List.filter_cons, hb] <;> rfl
            | false => rw [if_neg (by decide), List.filter_cons, hb] <;> rfl
          have d4 := s4 _ _ d2
          cases hb : ys.any fun o => bef E' o y with
          | true =>
            refine iteF ⟨s2.trans s4, ?_⟩
            rw [et, hb, if_pos rfl, List.append_nil]
            exact d4
          | false =>
            refine iteT ⟨_, rfl, _, d4, small1000 ?_, fun b u e => ?_, ?_⟩
            · rw [List.length_map]
              have f1 := List.length_filter_le (fun y => !(ys.any fun o => bef E' o y)) (ys.take i)
              rw [List.length_take] at f1
              omega
            · rw [upd_ne (ne_of_none e hD)]
              exact s4 _ _ (s2 _ _ e)
            · rw [upd_same, et, hb, if_neg (by decide), List.map_append] <;> rfl
      · obtain ⟨s2, d2⟩ := q
        rw [hm, List.take_length] at d2
        exact kk _ D s2 hD d2
end
end OP
namespace OP
open PySem PySem.Spec PyProof.Rows L2
def allowN (E : Ents) : Nat → List Str → List (List Str)
  | 0, _ => [[]]
  | n + 1, ys => if ys = [] then [[]] else (freeN E ys).flatMap fun y => (allowN E n (withoutN ys y)).map (y :: ·)
theorem flat_le {α β : Type} {f : α → List β} {m : Nat} (h : ∀ x, (f x).length ≤ m) : ∀ xs : List α, (xs.flatMap f).length ≤ xs.length * m
  | [] => Nat.zero_le _
  | x :: xs => by
    rw [List.flatMap_cons, List.length_append, List.length_cons, Nat.succ_mul]
    have := flat_le h xs
    have := h x
    omega
theorem free_le (E : Ents) (ys : List Str) : (freeN E ys).length ≤ ys.length := List.length_filter_le _ _
theorem without_le (ys : List Str) (y : Str) : (withoutN ys y).length ≤ ys.length := List.length_filter_le _ _
theorem without_lt {ys : List Str} {y : Str} (h : y ∈ ys) : (withoutN ys y).length < ys.length := by
  unfold withoutN
  refine Nat.lt_of_le_of_ne (List.length_filter_le _ _) fun z => ?_
  have := List.length_filter_eq_length_iff.mp z y h
  simp at this
theorem free_mem {E : Ents} {ys : List Str} {y : Str} (h : y ∈ freeN E ys) : y ∈ ys := (List.mem_filter.mp h).1
theorem allow_le (E : Ents) : ∀ (n : Nat) (ys : List Str), ys.length ≤ 4 → (allowN E n ys).length ≤ 4 ^ n
  | 0, _, _ => Nat.le_refl _
  | n + 1, ys, h => by
    show (if ys = [] then [[]] else (freeN E ys).flatMap fun y => (allowN E n (withoutN ys y)).map (y :: ·)).length ≤ 4 ^ (n + 1)
    split
    · exact Nat.pow_pos (by decide)
    · have h1 := flat_le (f := fun y => (allowN E n (withoutN ys y)).map (y :: ·)) (m := 4 ^ n) (fun y => by
        rw [List.length_map]
        exact allow_le E n _ (Nat.le_trans (without_le ys y) h)) (freeN E ys)
      rw [Nat.pow_succ, Nat.mul_comm]
      exact Nat.le_trans h1 (Nat.mul_le_mul_right _ (Nat.le_trans (free_le E ys) h))
theorem allow_len (E : Ents) : ∀ (n : Nat) (ys : List Str), ys.length ≤ n → ∀ o ∈ allowN E n ys, o.length ≤ n
  | 0, _, _, o, ho => by
    obtain rfl := List.mem_singleton.mp ho
    exact Nat.le_refl _
  | n + 1, ys, h, o, ho => by
    have ho : o ∈ (if ys = [] then [[]] else (freeN E ys).flatMap fun y => (allowN E n (withoutN ys y)).map (y :: ·)) := ho
    split at ho
    · obtain rfl := List.mem_singleton.mp ho
      exact Nat.zero_le _
    · obtain ⟨y, hy, h2⟩ := List.mem_flatMap.mp ho
      obtain ⟨r, hr, rfl⟩ := List.mem_map.mp h2
      have := without_lt (free_mem hy)
      have := allow_len E n (withoutN ys y) (by omega) r hr
      rw [List.length_cons]
      omega
theorem pow4' {i : Nat} (h : i ≤ 4) : 4 ^ i ≤ 256 := by
  have all : ∀ i, i ≤ 4 → 4 ^ i ≤ 256 := by decide
  exact all i h
theorem nts_off {H : Hp} {A : Nts} {D : Addr} {ys : List V} {o : HO} (hd : H D = some (.lst ys)) (h : NtsAt H A) : NtsAt (upd H D o) A := fun p hp => by
  rw [upd_ne (tup_ne (h p hp) hd)]
  exact h p hp
theorem nts_at {Z : Nts} {i : Nat} {x : V} (h : (nrefs Z)[i]? = some x) : ∃ hi : i < Z.length, x = .ref Z[i].1 := by
  have hi : i < Z.length := by
    have z := (List.getElem?_eq_some_iff.mp h).1
    unfold nrefs at z
    rw [List.length_map] at z
    exact z
  unfold nrefs at h
  rw [List.getElem?_map, List.getElem?_eq_getElem hi] at h
  exact ⟨hi, (Option.some.inj h).symm⟩
theorem nrefs_le (Z : Nts) : (nrefs Z).length = Z.length := List.length_map ..
theorem nts_count {Z : Nts} {zs : List (List Str)} (h : Z.map (·.2) = zs) : Z.length = zs.length := by
  rw [← h, List.length_map]
section
variable {P : Program} {w : World} {K : PySem.W.Frag} {mg : Str → Option Value} {base : Heap}
def spWithout (K : PySem.W.Frag) : Sp := fun vs H Q _ => ∃ (a : Addr) (y : Str) (ys : List Str), vs = [.ref a, .str y] ∧ SqT K H a (ys.map V.str) ∧ ys.length ≤ 4 ∧ ∀ H' r, Same H H' → H' r = some (.tup ((withoutN ys y).map V.str)) → Q (.ref r) H'
theorem sc_without : FnScope ["names", "name", "other"] ["names", "name"] (defScope s_without) := ⟨rfl, rfl, rfl, by decide +kernel, rfl, by decide +kernel, by decide +kernel⟩
theorem ok_without (T : Txt K mg) : Ok P w K mg base (a_without K) ["names", "name"] 1 (spWithout K) := by
  refine ok_of T.f_without sc_without (fun _ _ _ _ _ _ us hl => match us, hl with | [_, _], _ => rfl) (fun vs H Q E h => ?_) (fun cdv A outer s H vs Q E hr h => ?_)
  · obtain ⟨a, y, ys, rfl, _⟩ := h
    rfl
  · obtain ⟨a, y, ys, rfl, ha, h4, kk⟩ := h
    refine ⟨_, (pss_one (ps_ret (pe_tupleOf (by rfl) T.z_tuple (pe_lc (own := [("other", 2)]) (g := (gName 2)) rfl sc_without.nd (pi_tup (pv 0)) (blkOk_by (own := [("other", 2)]) (N := ["names", "name", "other"]) (sc := defScope s_without) (by decide +kernel)) (fun _ _ _ _ _ => (pg_name (i := 2) sc_without.nd rfl (Or.inl rfl))) (fun _ _ _ _ _ => (pts_one (pt_cmpR op_ne (pv 2) (pv 1) (nomark _)))) (fun _ _ _ _ _ => (pv 2)))))), ?_⟩
    have hm : (ys.map V.str).length = ys.length := List.length_map ..
    refine ⟨_, rfl, a, rfl, ⟨_, ha⟩, fun D hD => ?_⟩
    refine lc_it (walk_tup (K := K) (a := a) (xs := ys.map V.str)) (fun i H' => Same H H' ∧ H' D = some (.lst ((withoutN (ys.take i) y).map V.str))) ⟨same_upd hD, by rw [upd_same, List.take_zero] <;> rfl⟩ (fun i H' _ q => Same.tp q.1 ha) (fun i x H2 H3 hi q yy => ?_) (fun H2 q => ?_)
    · obtain ⟨s2, d2⟩ := q
      obtain ⟨rfl, hx⟩ := yy
      obtain ⟨o, ho, rfl⟩ := strs_at' hx
      have et : withoutN (ys.take (i + 1)) y = withoutN (ys.take i) y ++ if o = y then [] else [o] := by
        unfold withoutN
        rw [List.take_add_one, ho, Option.toList_some, List.filter_append]
        congr 1
        by_cases hb : o = y
        · rw [if_pos hb, List.filter_cons, decide_eq_true hb] <;> rfl
        · rw [if_neg hb, List.filter_cons, decide_eq_false hb] <;> rfl
      refine ⟨rfl, _, rfl, _, rfl, rfl, _, rfl, ?_⟩
      have de : decide (V.str o = V.str y) = decide (o = y) := decide_eq_decide.mpr ⟨V.str.inj, congrArg V.str⟩
      rw [de]
      by_cases hb : o = y
      · rw [decide_eq_true hb]
        refine iteF ⟨s2, ?_⟩
        rw [et, if_pos hb, List.append_nil]
        exact d2
      · rw [decide_eq_false hb]
        refine iteT ⟨_, rfl, _, d2, small1000 ?_, fun b u e => ?_, ?_⟩
        · rw [List.length_map]
          have f1 := without_le (ys.take i) y
          rw [List.length_take] at f1
          omega
        · rw [upd_ne (ne_of_none e hD)]
          exact s2 _ _ e
        · rw [upd_same, et, if_neg hb, List.map_append] <;> rfl
    · obtain ⟨s2, d2⟩ := q
      rw [hm, List.take_length] at d2
      exact .inl ⟨D, _, rfl, SqL.of d2, fun q hq => kk _ q (s2.push hq) upd_same⟩
def spAllow (K : PySem.W.Frag) (d : Nat) : Sp := fun vs H Q _ => ∃ (dp a : Addr) (E : Ents) (ys : List Str), vs = [.ref dp, .ref a] ∧ PolAt H dp E ∧ SqT K H a (ys.map V.str) ∧ ys.length ≤ d ∧
  ∀ (H' : Hp) (r : Addr) (Z : Nts), Same H H' → H' r = some (.lst (nrefs Z)) → NtsAt H' Z → Z.map (·.2) = allowN E d ys → Q (.ref r) H'
theorem sc_allow : FnScope ["policy", "names", "found", "name", "rest"] ["policy", "names"] (defScope s_allowed_orders) := ⟨rfl, rfl, rfl, by decide +kernel, rfl, by decide +kernel, by decide +kernel⟩
theorem allow_step (T : Txt K mg) (d k : Nat) (hk : 1 ≤ k) (d4 : d ≤ 4) (GO : d ≠ 0 → Ok P w K mg base (a_allowed_orders K) ["policy", "names"] k (spAllow K (d - 1))) : Ok P w K mg base (a_allowed_orders K) ["policy", "names"] (k + 1) (spAllow K d) := by
  have GF : Ok P w K mg base (a_free_names K) _ 1 (spFree K) := ok_free T
  have GW : Ok P w K mg base (a_without K) _ 1 (spWithout K) := ok_without T
  have GR : Ok P w K mg base (a_allowed_orders K) ["policy", "names"] k (fun vs H Q E => d ≠ 0 ∧ spAllow K (d - 1) vs H Q E) := by
    by_cases h0 : d = 0
    · exact (ok_no T.f_allowed_orders (fun _ _ _ _ _ _ us hl => match us, hl with | [_, _], _ => rfl)).imp fun vs H Q E h => (h.1 h0).elim
    · exact (GO h0).imp fun vs H Q E h => h.2
  refine ok_of T.f_allowed_orders sc_allow (fun _ _ _ _ _ _ us hl => match us, hl with | [_, _], _ => rfl) (fun vs H Q E h => ?_) (fun cdv A outer s H vs Q E hr h => ?_)
  · obtain ⟨dp, a, E', ys, rfl, _⟩ := h
    rfl
  · obtain ⟨dp, a, E', ys, rfl, hd, ha, hl, kk⟩ := h
    have hr1 : Room 1 _ := hr.mono (by omega)
    refine ⟨_, (pss_cons (ps_if (pt_not (pt_truth (pv 1) (by intro _; rfl))) (pss_one (ps_ret (pe_lst (pa_cons (pe_tup pa_nil) pa_nil)))) pss_nil)
      (pss_cons (ps_set (i := 2) sc_allow.nd rfl (Or.inl rfl) (pe_lst pa_nil))
      (pss_cons (ps_for PassesOwn.never rfl (pi_list (pe_c GF hr1 T.g_free_names (pa_cons (pv 0) (pa_cons (pv 1) pa_nil)))) (pg_name (i := 3) sc_allow.nd rfl (Or.inr rfl)) (pss_one (ps_aug (i := 2) sc_allow.nd rfl (Or.inl rfl) (pe_lc (own := [("rest", 4)]) (g := (gName 4)) (tt := tYes) rfl sc_allow.nd (pi_list (pe_c GR hr T.g_allowed_orders (pa_cons (pv 0) (pa_cons (pe_c GW hr1 T.g_without (pa_cons (pv 1) (pa_cons (pv 3) pa_nil))) pa_nil)))) (blkOk_by (own := [("rest", 4)]) (N := ["policy", "names", "found", "name", "rest"]) (sc := defScope s_allowed_orders) (by decide +kernel)) (fun _ _ _ _ _ => (pg_name (i := 4) sc_allow.nd rfl (Or.inl rfl))) (fun _ _ _ _ _ => pts_nil) (fun _ _ _ _ _ => (pe_op (op_catAK K) (pe_tup (pa_cons (pv 3) pa_nil)) (pv 4)))) ip_list)))
      (pss_one (ps_ret (pv 2)))))), ?_⟩
    have hm : (ys.map V.str).length = ys.length := List.length_map ..
    refine ⟨_, rfl, _, .inr (.inl ⟨_, ha, rfl⟩), ?_⟩
    by_cases ne : ys = []
    · subst ne
      refine iteT ⟨(by show 0 ≤ sizeLine; exact Nat.zero_le _), fun t ht => ⟨(by show 1 ≤ sizeLine; decide), fun f hf => ?_⟩⟩
      have s1 : Same H _ := same_upd (o := .tup []) ht
      refine kk _ f [(t, [])] (s1.push hf) upd_same (fun p hp => ?_) ?_
      · obtain rfl := List.mem_singleton.mp hp
        show upd _ f _ t = _
        rw [upd_ne (ne_of_none upd_same hf)]
        exact upd_same
      · cases d with
        | zero => rfl
        | succ d => exact (if_pos rfl).symm
    · have d0 : d ≠ 0 := fun z => ne (List.length_eq_zero_iff.mp (by omega))
      obtain ⟨e, rfl⟩ : ∃ e, d = e + 1 := ⟨d - 1, by omega⟩
      have tru : (!(ys.map V.str).isEmpty) = true := by
        cases ys with
        | nil => exact absurd rfl ne
        | cons y ys => rfl
      rw [tru]
      refine iteF ⟨(by show 0 ≤ sizeLine; exact Nat.zero_le _), fun f hf => ?_⟩
      have s1 : Same H _ := same_upd (o := .lst []) hf
      have f1 : upd H f (.lst []) f = some (.lst []) := upd_same
      generalize upd H f (.lst []) = H1 at s1 f1
      refine ⟨_, rfl, _, rfl, dp, a, E', ys, rfl, hd.ext s1, .inr (Same.tp s1 ha), by omega, fun H2 r s2 nr e2 => ?_⟩
      have rf : r ≠ f := fun z => by rw [z, f1] at nr; cases nr
      have s12 := s1.trans s2
      have hm2 : ((freeN E' ys).map V.str).length = (freeN E' ys).length := List.length_map ..
      have nf : ∀ {x u}, H x = some u → x ≠ f := fun {x u} z => ne_of_none z hf
      refine ⟨r, rfl, ⟨_, SqL.of e2⟩, for_list (K := K) (a := r) (xs := (freeN E' ys).map V.str) (fun i σ H' => ∃ (Z : Nts) (v3 : Option V), σ = [some (.ref dp), some (.ref a), some (.ref f), v3, none] ∧ Same H H' ∧ (∀ x u, x ≠ f → H2 x = some u → H' x = some u) ∧ H' f = some (.lst (nrefs Z)) ∧ NtsAt H' Z ∧ Z.map (·.2) = ((freeN E' ys).take i).flatMap fun y => (allowN E' e (withoutN ys y)).map (y :: ·))
        ⟨[], none, rfl, s12, fun _ _ _ z => z, s2 _ _ f1, (fun p hp => absurd hp List.not_mem_nil), rfl⟩ (fun i σ H' _ q => ?_) (fun i x σ H3 hx q => ?_) fun σ H3 q => ?_⟩
      · obtain ⟨_, _, _, _, k3, _⟩ := q
        exact SqL.of (k3 _ _ rf e2)
      · obtain ⟨Z, v3, rfl, s3, k3, f3, N3, e3⟩ := q
        obtain ⟨y, hy, rfl⟩ := strs_at' hx
        have hyf : y ∈ freeN E' ys := List.mem_of_getElem? hy
        have lt := without_lt (free_mem hyf)
        refine ⟨_, rfl, _, rfl, _, rfl, _, rfl, a, y, ys, rfl, Same.tp s3 ha, by omega, fun H4 wa s4 e4 => ?_⟩
        refine ⟨d0, dp, wa, E', withoutN ys y, rfl, (hd.ext s3).ext s4, SqT.of e4, by show _ ≤ e; omega, fun H5 r5 Z5 s5 e5 N5 eZ5 => ?_⟩
        rw [Nat.add_sub_cancel] at eZ5
        have s35 := s3.trans (s4.trans s5)
        have f5 := s5 _ _ (s4 _ _ f3)
        have z5 : Z5.length ≤ 256 := by
          rw [nts_count eZ5]
          exact Nat.le_trans (allow_le E' e _ (by omega)) (pow4' (by omega))
        refine ⟨r5, rfl, ⟨_, SqL.of e5⟩, fun D hD => ?_⟩
        refine lc_it (walk_list (K := K) (a := r5) (xs := nrefs Z5)) (fun j H' => ∃ Z2 : Nts, Same H5 H' ∧ H' D = some (.lst (nrefs Z2)) ∧ NtsAt H' Z2 ∧ Z2.map (·.2) = ((Z5.map (·.2)).take j).map (y :: ·)) ⟨[], same_upd hD, upd_same, (fun p hp => absurd hp List.not_mem_nil), by rw [List.take_zero] <;> rfl⟩ (fun j H' _ q => ?_) (fun j x H6 H7 hj q yy => ?_) (fun H6 q => ?_)
        · obtain ⟨_, s6, _⟩ := q
          exact SqL.of (s6 _ _ e5)
        · obtain ⟨Z2, s6, d6, N6, e6⟩ := q
          obtain ⟨rfl, hx6⟩ := yy
          obtain ⟨hj5, rfl⟩ := nts_at hx6
          have mem : Z5[j] ∈ Z5 := List.getElem_mem hj5
          have t7 : H7 Z5[j].1 = some (.tup (Z5[j].2.map V.str)) := s6 _ _ (N5 _ mem)
          have l4 : Z5[j].2.length ≤ 4 := by
            have z := allow_len E' e (withoutN ys y) (by omega) Z5[j].2 (by rw [← eZ5]; exact List.mem_map.mpr ⟨Z5[j], mem, rfl⟩)
            omega
          have lz2 : Z2.length = j := by
            rw [nts_count e6, List.length_map, List.length_take, List.length_map]
            omega
          have step : ∀ (H8 : Hp) (q : Addr), Same H7 H8 → H8 q = some (.tup ((y :: Z5[j].2).map V.str)) → ∃ acc, H8 D = some (.lst acc) ∧ acc.length < sizeLine ∧ ∃ Z2 : Nts, Same H5 (upd H8 D (.lst (acc ++ [V.ref q]))) ∧ upd H8 D (.lst (acc ++ [V.ref q])) D = some (.lst (nrefs Z2)) ∧ NtsAt (upd H8 D (.lst (acc ++ [V.ref q]))) Z2 ∧ Z2.map (·.2) = ((Z5.map (·.2)).take (j + 1)).map (y :: ·) := fun H8 q s8 hq8 => by
            have e1 := s8 _ _ d6
            refine ⟨_, e1, small1000 (by rw [nrefs_le]; omega), Z2 ++ [(q, y :: Z5[j].2)], fun b u e => ?_, ?_, nts_off e1 ((N6.ext s8).snoc hq8), ?_⟩
            · rw [upd_ne (ne_of_none e hD)]
              exact s8 _ _ (s6 _ _ e)
            · rw [upd_same, nrefs_snoc]
            · have e7 : (Z5.map (·.2)).take (j + 1) = (Z5.map (·.2)).take j ++ [Z5[j].2] := by
                rw [List.take_add_one, List.getElem?_map, List.getElem?_eq_getElem hj5] <;> rfl
              rw [List.map_append, e6, e7, List.map_append] <;> rfl
          refine ⟨rfl, tyes (iteT ⟨_, rfl, (by show 1 ≤ sizeLine; decide), fun t2 ht2 => ⟨_, rfl, ?_⟩⟩)⟩
          have s8 : Same H7 _ := same_upd (o := .tup [V.str y]) ht2
          refine ⟨t2, Z5[j].1, [V.str y], Z5[j].2.map V.str, rfl, rfl, SqT.of upd_same, SqT.of (s8 _ _ t7), ?_, fun z => absurd z (List.cons_ne_nil _ _), fun _ z => ?_, fun _ _ q hq' => ?_⟩
          · rw [List.length_map, List.length_singleton]
            exact Nat.le_trans (show 1 + Z5[j].2.length ≤ 1000 by omega) (by decide)
          · refine step _ t2 s8 ?_
            rw [List.map_cons, z]
            exact upd_same
          · refine step _ q (s8.push hq') ?_
            rw [List.map_cons]
            exact upd_same
        · obtain ⟨Z2, s6, d6, N6, e6⟩ := q
          rw [List.take_of_length_le (by rw [nrefs_le, List.length_map]; exact Nat.le_refl _)] at e6
          have lz2 : Z2.length ≤ 256 := by
            rw [nts_count e6, List.length_map, List.length_map]
            exact z5
          have lz : Z.length ≤ 1024 := by
            rw [nts_count e3]
            have h1 := flat_le (f := fun y => (allowN E' e (withoutN ys y)).map (y :: ·)) (m := 256) (fun y => by
              rw [List.length_map]
              exact Nat.le_trans (allow_le E' e _ (Nat.le_trans (without_le ys y) (by omega))) (pow4' (by omega))) ((freeN E' ys).take i)
            have h2 := free_le E' ys
            rw [List.length_take] at h1
            omega
          have f6 := s6 _ _ f5
          refine ⟨f, D, _, _, rfl, rfl, f6, d6, ?_, ?_⟩
          · rw [nrefs_le, nrefs_le]
            exact Nat.le_trans (show Z.length + Z2.length ≤ 1280 by omega) (by decide)
          have s36 := s35.trans s6
          refine ⟨Z ++ Z2, _, rfl, fun x u z => ?_, fun x u nx z => ?_, ?_, ?_, ?_⟩
          · rw [upd_ne (nf z)]
            exact s6 _ _ (s5 _ _ (s4 _ _ (s3 _ _ z)))
          · rw [upd_ne nx]
            exact s6 _ _ (s5 _ _ (s4 _ _ (k3 x u nx z)))
          · rw [upd_same]
            unfold nrefs
            rw [List.map_append]
          · refine nts_off f6 fun q hq => ?_
            rcases List.mem_append.mp hq with z | z
            · exact s6 _ _ (s5 _ _ (s4 _ _ (N3 q z)))
            · exact N6 q z
          · rw [List.map_append, e3, e6, eZ5, List.take_add_one, hy, Option.toList_some, List.flatMap_append]
            congr 1
            exact (List.append_nil _).symm
      · obtain ⟨Z, v3, rfl, s3, k3, f3, N3, e3⟩ := q
        rw [hm2, List.take_length] at e3
        refine ⟨_, rfl, kk _ f Z s3 f3 N3 ?_⟩
        rw [e3]
        exact (if_neg ne).symm
theorem ok_allow (T : Txt K mg) : Ok P w K mg base (a_allowed_orders K) ["policy", "names"] 6 (spAllow K 4) :=
  allow_step T 4 5 (by decide) (by decide) fun _ => allow_step T 3 4 (by decide) (by decide) fun _ => allow_step T 2 3 (by decide) (by decide) fun _ => allow_step T 1 2 (by decide) (by decide) fun _ => allow_step T 0 1 (by decide) (by decide) fun h => (h rfl).elim
end
end OP
/-! for k, v in d.items(), whatever the keys -/
namespace OP
open PySem PySem.Spec PyProof.Rows L2
/-- what is u, locked as an object: its entries, n of them; G tells the i-th key and value -/
def RawR (P : Program) (w : PySem.World) (d : Addr) (u : HO) (n : Nat) (G : Nat → Hp → V → V → Prop) : Prop := ∀ (X : Cx) (pins : List (Addr × Obj)) (σ : L2.St) (H : Hp) (s : Shared) (o : Obj), X.prog = P → X.w = w → Inv X pins σ H s → H d = some (.frz o u) →
  (d == sysModules) = false ∧ s.heap.get? d = some o ∧ ∃ es ep, o.ExactDict ∧ o.data = .dict es ep ∧ es.size = n ∧ ∀ i (hi : i < es.size), ∃ x y, G i H x y ∧ RelV x es[i].key ∧ RelV y es[i].val
def ItI (d : Addr) (o : Obj) (u : HO) (n : Nat) (G : Nat → Hp → V → V → Prop) : It :=
  ⟨fun i H => H d = some (.frz o u) ∧ i < n, fun i H v H' => ∃ T x y, v = .ref T ∧ H T = none ∧ H' = upd H T (.tup [x, y]) ∧ G i H x y, fun i H => H d = some (.frz o u) ∧ n ≤ i⟩
theorem dict_ep2 {o : Obj} {es es' : Array DictEntry} {ep ep' : Nat} (h : o.data = .dict es ep) (h' : o.data = .dict es' ep') : es = es' ∧ ep = ep' := by
  rw [h] at h'
  injection h' with h1 h2
  exact ⟨h1, h2⟩
theorem turn_itemsR {P : Program} {w : PySem.World} {K : PySem.W.Frag} {elts : List Expr} {kk : Nat} {tpos : Pos} {d : Addr} {o : Obj} {u : HO} {n : Nat} {G : Nat → Hp → V → V → Prop} {es : Array DictEntry} {ep : Nat} (it : Addr) (raw : RawR P w d u n G) (hod : o.data = .dict es ep) :
    Turn P w K (.Tuple elts kk tpos) (ItI d o u n G) [it] it (fun i h => ∃ ok ov, IsItemIter h it d i es.size ep ok ov) where
  mem := by simp
  obj := fun i h st b hb => by
    obtain rfl : b = it := by simpa using hb
    obtain ⟨ok, ov, e⟩ := st
    exact ⟨_, e, fun v z => nomatch z⟩
  keep := fun i h h' st k => by
    obtain ⟨ok, ov, e⟩ := st
    exact ⟨ok, ov, k it (by simp) _ e⟩
  item := by
    intro X hP hw hK hc i pins s σ H E I hf st hg
    subst hP hw hK
    obtain ⟨hd, hi⟩ := hg
    obtain ⟨hs, hgd, es', ep', hx, hdt, hsz, ent⟩ := raw X pins σ H s o rfl rfl I hd
    obtain ⟨rfl, rfl⟩ := dict_ep2 hod hdt
    have hi' : i < es.size := by rw [hsz]; exact hi
    obtain ⟨x, y, g, rx, ry⟩ := ent i hi'
    obtain ⟨ok, ov, he⟩ := st
    have hlt : it < s.heap.objs.size := Heap.lt_size he
    refine wpAny_pyNext_items_item_raw he ⟨o, hgd, hx, hdt⟩ hi' fun h' ho hT hz hk => ?_
    refine ⟨_, rfl, wpAny_letOwnedTupleGo_items (s := { s with heap := h' }) ho fun h'' he' sb => ?_⟩
    have hT2 : h''.get? s.heap.objs.size = some { cls := .type "tuple", data := .seq #[es[i].key, es[i].val] } := (sb.2 _ (Nat.ne_of_gt hlt)).trans hT
    have new : ObjOk X.prog X.w (upd H s.heap.objs.size (.tup [x, y])) h'' s.heap.objs.size (.tup [x, y]) := ⟨by show 2 ≤ sizeLine; decide, [es[i].key, es[i].val], .cons rx (.cons ry .nil), ⟨_, hT2, rfl, _, rfl⟩⟩
    have I1 : Inv X pins σ (upd H s.heap.objs.size (.tup [x, y])) { s with heap := h'' } := I.turnedNew (t' := s.toks) (ch := [it]) (fun b ob hb e => (sb.2 b (by simpa using hb)).trans (hk b ob (by simpa using hb) e)) hf (Nat.le_refl _) new
    refine ⟨.ref s.heap.objs.size, _, I1, rfl, ⟨_, x, y, rfl, I.hok.fresh (Nat.le_refl _), rfl, g⟩, ⟨_, _, he'⟩, fun b hb => ?_⟩
    obtain rfl : b = it := by simpa using hb
    rw [upd_ne (Nat.ne_of_lt hlt)]
    exact (hf b (by simp)).1
  done := by
    intro X hP hw hK hc i pins s σ H E I hf st hg
    subst hP hw hK
    obtain ⟨hd, hi⟩ := hg
    obtain ⟨f0, f1, f2, f3, f4, f5⟩ := hf it (by simp)
    obtain ⟨hs, hgd, es', ep', hx, hdt, hsz, ent⟩ := raw X pins σ H s o rfl rfl I hd
    obtain ⟨rfl, rfl⟩ := dict_ep2 hod hdt
    obtain ⟨ok, ov, he⟩ := st
    exact wpAny_pyNext_items_end_raw (I.ok.hd hc) he ⟨o, hgd, hx, hdt⟩ (by rw [hsz]; exact hi) fun h' eb => ⟨rfl, I.turned (t' := s.toks) (fun b ob hb e => eb b ob hb e) f0 f1 f3 f4 f5⟩
  self := fun A i s Q E st h => by
    obtain ⟨_, _, e⟩ := st
    exact PySem.W.kcp_self e h
def iItemsR (P : Program) (w : PySem.World) (td : TE) : TI := fun σ H R => td σ H fun x H1 => ∃ d o u n G, x = .ref d ∧ H1 d = some (.frz o u) ∧ RawR P w d u n G ∧ R (ItI d o u n G) H1
section
variable {X : Cx} {e : Expr} {td : TE} {apos cpos : Pos}
theorem pi_itemsR {elts : List Expr} {kk : Nat} {tpos : Pos} (he : PE X e td) (hbase : attributeBase e "items" X.env (eval e X.env) = eval e X.env := by rfl) (hline : (apos.endLine == cpos.line) = true := by rfl) :
    PI X (.Tuple elts kk tpos) (.Call (.Attribute e "items" apos) [] [] cpos) (iItemsR X.prog X.w td) := by
  refine ⟨fun pins s σ H R I h => ?_⟩
  refine wpAny_Call_method (T := "dict") (id := "dict.items") hbase rfl hline F.plainAttrs_dict F.slot_dict_items F.type_dict_items (thn (he.run pins s σ H _ I h) fun v s1 ⟨x, H1, I1, rx, d, o, u, n, G, ex, hd, raw, q⟩ => ?_)
  subst ex
  obtain rfl : v = Value.ref d := rx
  obtain ⟨hs, hgd, es, ep, hx, hdt, hsz, ent⟩ := raw X pins σ H1 s1 o rfl rfl I1 hd
  have hm : s1.heap.DictRaw d es ep := ⟨o, hgd, hx, hdt⟩
  have nodict : ∀ b, Value.ref d = .ref b → ∃ ob, s1.heap.get? b = some ob ∧ ob.dict = none := fun b z => by
    cases z
    exact ⟨o, hgd, hx.2.1⟩
  refine ⟨hm.typeIs, nodict, ?_⟩
  have I2 : Inv X pins σ H1 { s1 with heap := s1.heap.push { cls := .type "dict_items", data := .fields #[.ref d] } } := I1.kept (t' := s1.toks) fun b ob z => Heap.get?_push_of_some _ z
  have fin : wpAny (model X.prog X.w) X.A (pyIter (.ref s1.heap.objs.size)) (PIE X pins σ (.Tuple elts kk tpos) R) X.xe { s1 with heap := s1.heap.push { cls := .type "dict_items", data := .fields #[.ref d] } } := by
    refine wpAny_pyIter_items_raw (d := d) ⟨_, Heap.get?_push_size _ rfl, rfl, rfl⟩ (hm.at fun o' z => Heap.get?_push_of_some _ z) (pi_one (tk := s1.toks) I2 _ (turn_itemsR _ raw hdt) ⟨.none, .none, ?_⟩ q)
    exact Heap.get?_push_size _ rfl
  show wpAny _ _ (callWith cpos (.builtin "dict.items") [.ref d] [] []) _ X.xe s1
  exact method_meetsIn F.slot_dict_items F.entry_dict_items rfl (PySem.evalArgs_none ⟨rfl, hm.typeIs, F.args_dict_items_1 _, _, meets_dict_items_raw d hs, ⟨es, ep, hm⟩, fin⟩)
end
theorem walk_itemsR {d : Addr} {o : Obj} {u : HO} {n : Nat} {G : Nat → Hp → V → V → Prop} : Walk (ItI d o u n G) n (fun H => H d = some (.frz o u)) (fun i H v H' => ∃ T x y, v = .ref T ∧ H T = none ∧ H' = upd H T (.tup [x, y]) ∧ G i H x y) :=
  ⟨fun _ _ hi q => ⟨q, hi⟩, fun _ q => ⟨q, Nat.le_refl _⟩, fun _ _ _ _ _ _ y => y⟩
/-- keys that are tuples of ints and texts -/
def GT (kvs : List (List Key × V)) (i : Nat) (H : Hp) (x y : V) : Prop := ∃ (k : List Key) (q : Addr), kvs[i]? = some (k, y) ∧ x = .ref q ∧ H q = some (.tup (k.map kV))
theorem raw_dT {P : Program} {w : PySem.World} {d : Addr} {kvs : List (List Key × V)} : RawR P w d (.dT kvs) kvs.length (GT kvs) := by
  intro X pins σ H s o hP hw I h
  obtain ⟨hd, z, hs, xs, pr, o', es, ep, ho, hx, hdt, he, _⟩ := I.hok d _ h
  rw [hd] at ho
  cases ho
  have l1 : es.size = xs.length := by
    have z := congrArg List.length he
    rw [Array.length_toList, List.length_map] at z
    exact z
  have l2 : kvs.length = xs.length := Paired.length pr
  refine ⟨hs, hd, es, ep, hx, hdt, by omega, fun i hi => ?_⟩
  have hk : i < kvs.length := by omega
  obtain ⟨b, hb, e1, e2, e3⟩ := L2.paired_get pr (List.getElem?_eq_getElem hk)
  have en : es[i] = entryOfKey (tupleKind (mixKind X.prog X.w)) b := by
    have z : es.toList[i]? = some (entryOfKey (tupleKind (mixKind X.prog X.w)) b) := by rw [he, List.getElem?_map, hb] <;> rfl
    rw [Array.getElem?_toList, Array.getElem?_eq_getElem hi] at z
    exact Option.some.inj z
  rw [en]
  exact ⟨.ref b.2.1, kvs[i].2, ⟨kvs[i].1, b.2.1, List.getElem?_eq_getElem hk, rfl, e2⟩, rfl, e3⟩
end OP
namespace OP
open PySem PySem.Spec PyProof.Rows L2
/-- whether what is left runs into a cycle -/
def cyc (E : Ents) : Nat → List Str → Bool
  | 0, _ => false
  | n + 1, ys => if ys = [] then false else if freeN E ys = [] then true else cyc E n (ys.filter fun y => !decide (y ∈ freeN E ys))
structure PolOk (E : Ents) (ns : List Str) : Prop where
  mem : ∀ e ∈ E, e.1 ∈ ns ∧ e.2 ∈ ns ∧ e.1 ≠ e.2
  acyc : cyc E 4 ns = false
  few : E.length ≤ 12
theorem drop_lt {E : Ents} {ys : List Str} (h : freeN E ys ≠ []) : (ys.filter fun y => !decide (y ∈ freeN E ys)).length < ys.length := by
  obtain ⟨y, hy⟩ := List.exists_mem_of_ne_nil _ h
  refine Nat.lt_of_le_of_ne (List.length_filter_le _ _) fun z => ?_
  have := List.length_filter_eq_length_iff.mp z y (free_mem hy)
  simp [hy] at this
theorem pol_len (E : Ents) : (pol E).length = E.length := List.length_map ..
theorem pol_at {E : Ents} {i : Nat} {k : List Key} {v : V} (h : (pol E)[i]? = some (k, v)) : ∃ e, E[i]? = some e ∧ k = [Sum.inr e.1, Sum.inr e.2] ∧ v = .bl true := by
  unfold pol at h
  rw [List.getElem?_map] at h
  obtain ⟨e, he, z⟩ := Option.map_eq_some_iff.mp h
  exact ⟨e, he, (Prod.mk.inj z).1.symm, (Prod.mk.inj z).2.symm⟩
section
variable {P : Program} {w : World} {K : PySem.W.Frag} {mg : Str → Option Value} {base : Heap}
def spPair (K : PySem.W.Frag) : Sp := fun vs H Q _ => ∃ (p q : Addr) (a b : Str) (n : Nat) (S : Sts) (L : Ncs), vs = [.ref p, .ref q] ∧ WorldAt K H p n S L ∧ (names L).Nodup ∧ H q = some (.tup [.str a, .str b]) ∧ a ∈ names L ∧ b ∈ names L ∧ a ≠ b ∧ Q (.bl true) H
theorem sc_pair : FnScope ["world", "pair"] ["world", "pair"] (defScope s_is_pair) := ⟨rfl, rfl, rfl, by decide +kernel, rfl, by decide +kernel, by decide +kernel⟩
theorem ok_pair (T : Txt K mg) : Ok P w K mg base (a_is_pair K) ["world", "pair"] 2 (spPair K) := by
  have GK : Ok P w K mg base (a_is_known K) _ 1 (spKnown K) := ok_is_known T
  refine ok_of T.f_is_pair sc_pair (fun _ _ _ _ _ _ us hl => match us, hl with | [_, _], _ => rfl) (fun vs H Q E h => ?_) (fun cdv A outer s H vs Q E hr h => ?_)
  · obtain ⟨p, q, a, b, n, S, L, rfl, _⟩ := h
    rfl
  · obtain ⟨p, q, a, b, n, S, L, rfl, W, nd, hq, ha, hb, ab, kk⟩ := h
    refine ⟨_, (pss_cons (ps_if (PW.pt (pw_or (pt_not (pt_val (pe_callB call_isi (by rfl) T.z_isinstance (by decide +kernel) (pa_cons (pv 1) (pa_cons (pe_bltn (v := .ty "tuple") (by rfl) T.z_tuple (by decide +kernel) rfl) pa_nil))))) (pw_or1 (pt_cmpR op_ne (pe_callB call_len_seq (by rfl) T.z_len PySem.boot_len (pa_cons (pv 1) pa_nil)) pe_int (nomark _))))) (pss_one (ps_ret pe_bl)) pss_nil)
      (pss_one (ps_ret (pe_and (pe_c GK hr T.g_is_known (pa_cons (pv 0) (pa_cons (pe_ix ix_tup (pv 1) pe_int (fun _ _ => rfl)) pa_nil))) (pe_and (pe_c GK hr T.g_is_known (pa_cons (pv 0) (pa_cons (pe_ix ix_tup (pv 1) pe_int (fun _ _ => rfl)) pa_nil))) (pe_one (pe_cmpR op_ne (pe_ix ix_tup (pv 1) pe_int (fun _ _ => rfl)) (pe_ix ix_tup (pv 1) pe_int (fun _ _ => rfl)) (nomark _)))))))), ?_⟩
    refine ⟨_, rfl, _, _, _, _, true, rfl, .ty "tuple", .base (.tup hq), kit_tup, true, rfl, iteF ?_⟩
    refine ⟨_, rfl, q, _, rfl, .inr (SqT.of hq), rfl, _, rfl, ?_⟩
    rw [decide_eq_true (show V.int (([V.str a, V.str b] : List V).length : Int) = V.int 2 from rfl)]
    refine iteF ⟨_, rfl, _, rfl, q, _, 0, _, rfl, rfl, SqT.of hq, rfl, p, a, n, S, L, rfl, W, nd, ha, true, rfl, iteT ?_⟩
    refine ⟨_, rfl, _, rfl, q, _, 1, _, rfl, rfl, SqT.of hq, rfl, p, b, n, S, L, rfl, W, nd, hb, true, rfl, iteT ?_⟩
    refine ⟨_, rfl, q, _, 0, _, rfl, rfl, SqT.of hq, rfl, _, rfl, q, _, 1, _, rfl, rfl, SqT.of hq, rfl, rfl, ?_⟩
    have e : decide (V.str a = V.str b) = false := decide_eq_false fun z => ab (V.str.inj z)
    show Q (.bl (!decide (V.str a = V.str b))) H
    rw [e]
    exact kk
theorem cyc_nil (E : Ents) (n : Nat) : cyc E n [] = false := by
  cases n with
  | zero => rfl
  | succ n => exact if_pos rfl
theorem cyc_none {E : Ents} {n : Nat} {ys : List Str} (h : ys.length ≤ n) (ne : ys ≠ []) (hf : freeN E ys = []) : cyc E n ys = true := by
  cases n with
  | zero => exact absurd (List.length_eq_zero_iff.mp (by omega)) ne
  | succ n =>
    show (if ys = [] then false else if freeN E ys = [] then true else cyc E n (ys.filter fun y => !decide (y ∈ freeN E ys))) = true
    rw [if_neg ne, if_pos hf]
theorem cyc_step {E : Ents} {n : Nat} {ys : List Str} (h : ys.length ≤ n) (hf : freeN E ys ≠ []) : ∃ m, n = m + 1 ∧ (ys.filter fun y => !decide (y ∈ freeN E ys)).length ≤ m ∧ cyc E n ys = cyc E m (ys.filter fun y => !decide (y ∈ freeN E ys)) := by
  have ne : ys ≠ [] := fun z => hf (by rw [z]; rfl)
  have l := drop_lt hf
  cases n with
  | zero => exact absurd (List.length_eq_zero_iff.mp (by omega)) ne
  | succ n =>
    refine ⟨n, rfl, by omega, ?_⟩
    show (if ys = [] then false else if freeN E ys = [] then true else cyc E n (ys.filter fun y => !decide (y ∈ freeN E ys))) = _
    rw [if_neg ne, if_neg hf]
/-- how long the list in a place is -/
def lenAt (i : Nat) (σ : L2.St) (H : Hp) : Nat := match σ[i]? with
  | some (some (.ref l)) => (match H l with | some (.lst xs) => xs.length | _ => 0)
  | _ => 0
theorem strs_flat (ys : List Str) : (ys.map V.str).all flatV = true := by
  rw [List.all_map]
  exact List.all_eq_true.mpr fun _ _ => rfl
def spCyc (K : PySem.W.Frag) : Sp := fun vs H Q _ => ∃ (d a : Addr) (E : Ents) (ys : List Str), vs = [.ref d, .ref a] ∧ PolAt H d E ∧ H a = some (.lst (ys.map V.str)) ∧ ys.length ≤ 4 ∧ ∀ H', Same H H' → Q (.bl (cyc E 4 ys)) H'
theorem sc_cyc : FnScope ["policy", "names", "left", "free", "name"] ["policy", "names"] (defScope s_has_cycle) := ⟨rfl, rfl, rfl, by decide +kernel, rfl, by decide +kernel, by decide +kernel⟩
theorem ok_cyc (T : Txt K mg) : Ok P w K mg base (a_has_cycle K) ["policy", "names"] 2 (spCyc K) := by
  have GF : Ok P w K mg base (a_free_names K) _ 1 (spFree K) := ok_free T
  refine ok_of T.f_has_cycle sc_cyc (fun _ _ _ _ _ _ us hl => match us, hl with | [_, _], _ => rfl) (fun vs H Q E h => ?_) (fun cdv A outer s H vs Q E hr h => ?_)
  · obtain ⟨d, a, E', ys, rfl, _⟩ := h
    rfl
  · obtain ⟨d, a, E', ys, rfl, hd, ha, h4, kk⟩ := h
    refine ⟨_, (pss_cons (ps_set (i := 2) sc_cyc.nd rfl (Or.inl rfl) (pv 1))
      (pss_cons (ps_while PassesOwn.never (pt_truth (pv 2) (by intro _; rfl)) (pss_cons (ps_set (i := 3) sc_cyc.nd rfl (Or.inr rfl) (pe_c GF hr T.g_free_names (pa_cons (pv 0) (pa_cons (pv 2) pa_nil))))
      (pss_cons (ps_if (pt_not (pt_truth (pv 3) (by intro _; rfl))) (pss_one (ps_ret pe_bl)) pss_nil)
      (pss_one (ps_setLc (i := 2) (own := [("name", 4)]) (g := (gName 4)) rfl sc_cyc.nd rfl rfl (sw_true rfl rfl rfl (by decide +kernel)) (pi_list (pv 2)) (blkOk_by (own := [("name", 4)]) (N := ["policy", "names", "left", "free", "name"]) (sc := defScope s_has_cycle) (by decide +kernel)) (fun _ _ _ _ _ => (pg_name (i := 4) sc_cyc.nd rfl (Or.inl rfl))) (fun _ _ _ _ _ => (pts_one (pt_cmpR (op_notInK K) (pv 4) (pv 3) (by rfl)))) (fun _ _ _ _ _ => (pv 4)))))))
      (pss_one (ps_ret pe_bl)))), ?_⟩
    refine ⟨_, rfl, ?_⟩
    dsimp only [gName]
    show tWhile _ _ _ _ _
    refine while_by (fun σ H' => ∃ (l : Addr) (zs : List Str) (n : Nat) (f g : Option V), σ = [some (.ref d), some (.ref a), some (.ref l), f, g] ∧ Same H H' ∧ H' l = some (.lst (zs.map V.str)) ∧ zs.length ≤ n ∧ zs.length ≤ 4 ∧ cyc E' n zs = cyc E' 4 ys) (lenAt 2) ⟨a, ys, 4, _, _, rfl, Same.refl _, ha, h4, h4, rfl⟩ (fun σ H2 inv => ?_) (fun σ H Q Q' h ⟨x, hx, k, tr, q⟩ => ⟨x, hx, k, tr, h _ _ q⟩)
    obtain ⟨l, zs, n, f, g, rfl, s2, hl, hn, z4, ec⟩ := inv
    refine ⟨_, rfl, _, .inl ⟨_, SqL.of hl, rfl⟩, ?_⟩
    have hm : (zs.map V.str).length = zs.length := List.length_map ..
    by_cases ne : zs = []
    · subst ne
      refine iteF ?_
      rw [cyc_nil] at ec
      refine (?_ : Q _ _)
      rw [ec]
      exact kk _ s2
    · have tru : (!(zs.map V.str).isEmpty) = true := by
        cases zs with
        | nil => exact absurd rfl ne
        | cons y ys => rfl
      rw [tru]
      refine iteT ⟨_, rfl, _, rfl, d, l, E', zs, rfl, hd.ext s2, .inl (SqL.of hl), z4, fun H3 fr s3 _ hf => ?_⟩
      refine ⟨_, rfl, _, .inl ⟨_, SqL.of hf, rfl⟩, ?_⟩
      by_cases nf : freeN E' zs = []
      · rw [nf]
        refine iteT ?_
        have := kk _ (s2.trans s3)
        rw [← ec, cyc_none hn ne nf] at this
        exact this
      · have tf : (!((freeN E' zs).map V.str).isEmpty) = true := by
          cases h : freeN E' zs with
          | nil => exact absurd h nf
          | cons y ys => rfl
        rw [tf]
        refine iteF ?_
        obtain ⟨m, rfl, hm2, ec2⟩ := cyc_step hn nf
        have hl3 := s3 _ _ hl
        refine ⟨_, rfl, l, rfl, ⟨_, SqL.of hl3⟩, fun D hD => ?_⟩
        refine lc_it (walk_list (K := K) (a := l) (xs := zs.map V.str)) (fun i H' => Same H3 H' ∧ H' D = some (.lst (((zs.take i).filter fun y => !decide (y ∈ freeN E' zs)).map V.str))) ⟨same_upd hD, by rw [upd_same, List.take_zero] <;> rfl⟩ (fun i H' _ q => SqL.of (q.1 _ _ hl3)) (fun i x H4 H5 hi q yy => ?_) (fun H4 q => ?_)
        · obtain ⟨s4, d4⟩ := q
          obtain ⟨rfl, hx⟩ := yy
          obtain ⟨y, hy, rfl⟩ := strs_at' hx
          refine ⟨rfl, _, rfl, _, rfl, fr, _, rfl, .inl (SqL.of (s4 _ _ hf)), rfl, strs_flat _, _, rfl, ?_⟩
          rw [inV_strs]
          have et : (zs.take (i + 1)).filter (fun y => !decide (y ∈ freeN E' zs)) = (zs.take i).filter (fun y => !decide (y ∈ freeN E' zs)) ++ if y ∈ freeN E' zs then [] else [y] := by
            rw [List.take_add_one, hy, Option.toList_some, List.filter_append]
            congr 1
            by_cases hb : y ∈ freeN E' zs
            · rw [if_pos hb, List.filter_cons, decide_eq_true hb] <;> rfl
            · rw [if_neg hb, List.filter_cons, decide_eq_false hb] <;> rfl
          by_cases hb : y ∈ freeN E' zs
          · rw [decide_eq_true hb]
            refine iteF ⟨s4, ?_⟩
            rw [et, if_pos hb, List.append_nil]
            exact d4
          · rw [decide_eq_false hb]
            refine iteT ⟨_, rfl, _, d4, small1000 ?_, fun b u e => ?_, ?_⟩
            · rw [List.length_map]
              have f1 := List.length_filter_le (fun y => !decide (y ∈ freeN E' zs)) (zs.take i)
              rw [List.length_take] at f1
              omega
            · rw [upd_ne (ne_of_none e hD)]
              exact s4 _ _ e
            · rw [upd_same, et, if_neg hb, List.map_append] <;> rfl
        · obtain ⟨s4, d4⟩ := q
          rw [hm, List.take_length] at d4
          refine ⟨⟨D, _, m, _, _, rfl, (s2.trans s3).trans s4, d4, hm2, Nat.le_trans (List.length_filter_le _ _) z4, ec2.symm.trans ec⟩, ?_⟩
          show (match H4 D with | some (.lst xs) => xs.length | _ => 0) < (match H2 l with | some (.lst xs) => xs.length | _ => 0)
          rw [d4, hl]
          show (List.map _ _).length < (List.map _ _).length
          rw [List.length_map, List.length_map]
          exact drop_lt nf
end
end OP
namespace OP
open PySem PySem.Spec PyProof.Rows L2
section
variable {K : PySem.W.Frag} {H H' : Hp} {d : Addr} {kv : List (List Key × V)}
theorem OneAt.offT {a : Addr} {o : One} (hd : H d = some (.dT kv)) (e : ∀ b u, b ≠ d → H b = some u → H' b = some u) (h : OneAt K H a o) : OneAt K H' a o := by
  obtain ⟨dx, h⟩ := h
  exact ⟨dx, e _ _ (fun z => by rw [z, hd] at h; cases h) h⟩
theorem ChgAt.offT {a : Addr} {c : Chg} (hd : H d = some (.dT kv)) (e : ∀ b u, b ≠ d → H b = some u → H' b = some u) (h : ChgAt K H a c) : ChgAt K H' a c := by
  cases c with
  | one o => exact OneAt.offT hd e h
  | iff s v o =>
    obtain ⟨dx, b, h1, h2⟩ := h
    exact ⟨dx, b, e _ _ (fun z => by rw [z, hd] at h1; cases h1) h1, OneAt.offT hd e h2⟩
theorem WorldAt.offT {p : Addr} {n : Nat} {S : Sts} {L : Ncs} (hd : H d = some (.dT kv)) (e : ∀ b u, b ≠ d → H b = some u → H' b = some u) (h : WorldAt K H p n S L) : WorldAt K H' p n S L := by
  obtain ⟨⟨dx, l, m, h1, h2, h3⟩, h4, h5⟩ := h
  refine ⟨⟨dx, l, m, e _ _ (fun z => by rw [z, hd] at h1; cases h1) h1, e _ _ (fun z => by rw [z, hd] at h2; cases h2) h2, e _ _ (fun z => by rw [z, hd] at h3; cases h3) h3⟩, fun q hq => ?_, fun q hq => (h5 q hq).offT hd e⟩
  have h := h4 q hq
  exact e _ _ (fun z => by rw [z, hd] at h; cases h) h
/-- locked, walked over, unlocked -/
theorem same_lock {u : HO} {o : Obj} (hd : H d = some u) (s : Same (upd H d (.frz o u)) H') : Same H (upd H' d u) := fun b v h => by
  by_cases z : b = d
  · subst z
    rw [upd_same, ← hd, h]
  · rw [upd_ne z]
    exact s _ _ (by rw [upd_ne z]; exact h)
end
section
variable {P : Program} {w : World} {K : PySem.W.Frag} {mg : Str → Option Value} {base : Heap}
def spCWorld (K : PySem.W.Frag) : Sp := fun vs H Q _ => ∃ (p : Addr) (n : Nat) (S : Sts) (L : Ncs), vs = [.ref p] ∧ WorldAt K H p n S L ∧ Q .non H
theorem sc_cworld : FnScope ["world"] ["world"] (defScope s_check_world) := ⟨rfl, rfl, rfl, by decide +kernel, rfl, by decide +kernel, by decide +kernel⟩
theorem ok_cworld (T : Txt K mg) : Ok P w K mg base (a_check_world K) ["world"] 1 (spCWorld K) := by
  refine ok_of T.f_check_world sc_cworld (fun _ _ _ _ _ _ us hl => match us, hl with | [_], _ => rfl) (fun vs H Q E h => ?_) (fun cdv A outer s H vs Q E hr h => ?_)
  · obtain ⟨p, n, S, L, rfl, _⟩ := h
    rfl
  · obtain ⟨p, n, S, L, rfl, ⟨⟨dx, l, d, hp, hl, hd⟩, _, _⟩, k⟩ := h
    refine ⟨_, (pss_one (ps_if (pt_not (pt_val (pe_callB call_isi (by rfl) T.z_isinstance (by decide +kernel) (pa_cons (pv 0) (pa_cons (pe_glob (v := .ref (c_World K)) (by rfl) T.g_World rfl) pa_nil))))) (pss_one ps_never) pss_nil)), ?_⟩
    exact ⟨_, rfl, _, _, _, _, true, rfl, .own (c_World K), T.o_World.ty hp, kit_World, true, rfl, iteF k⟩
def spCPol (K : PySem.W.Frag) : Sp := fun vs H Q _ => ∃ (p d : Addr) (n : Nat) (S : Sts) (L : Ncs) (E : Ents), vs = [.ref p, .ref d] ∧ WorldAt K H p n S L ∧ (names L).Nodup ∧ L.length ≤ 4 ∧ H d = some (.dT (pol E)) ∧ PolOk E (names L) ∧ ∀ H', Same H H' → Q .non H'
theorem sc_cpol : FnScope ["world", "policy", "pair", "mark"] ["world", "policy"] (defScope s_check_policy) := ⟨rfl, rfl, rfl, by decide +kernel, rfl, by decide +kernel, by decide +kernel⟩
theorem ok_cpol (T : Txt K mg) : Ok P w K mg base (a_check_policy K) ["world", "policy"] 3 (spCPol K) := by
  have GP : Ok P w K mg base (a_is_pair K) _ 2 (spPair K) := ok_pair T
  have GC : Ok P w K mg base (a_has_cycle K) _ 2 (spCyc K) := ok_cyc T
  have GN : Ok P w K mg base (a_World_names K) _ 1 (spNames K) := ok_World_names T
  refine ok_of T.f_check_policy sc_cpol (fun _ _ _ _ _ _ us hl => match us, hl with | [_, _], _ => rfl) (fun vs H Q E h => ?_) (fun cdv A outer s H vs Q E hr h => ?_)
  · obtain ⟨p, d, n, S, L, E', rfl, _⟩ := h
    rfl
  · obtain ⟨p, d, n, S, L, E', rfl, W, nd, h4, hd, ok, kk⟩ := h
    have hr1 : Room 1 _ := hr.mono (by omega)
    refine ⟨_, (pss_cons (ps_if (pt_not (pt_val (pe_callB call_isi (by rfl) T.z_isinstance (by decide +kernel) (pa_cons (pv 1) (pa_cons (pe_bltn (v := .ty "dict") (by rfl) T.z_dict (by decide +kernel) rfl) pa_nil))))) (pss_one ps_never) pss_nil)
      (pss_cons (ps_lock (ps_for PassesOwn.never rfl (pi_itemsR (pv 1)) (pg_tup rfl (pgs_cons (pg_name (i := 2) sc_cpol.nd rfl (Or.inl rfl)) (pgs_cons (pg_name (i := 3) sc_cpol.nd rfl (Or.inl rfl)) pgs_nil))) (pss_one (ps_if (PW.pt (pw_or (pt_not (pt_val (pe_c GP hr T.g_is_pair (pa_cons (pv 0) (pa_cons (pv 2) pa_nil))))) (pw_or1 (pt_cmpR op_notBl (pv 3) pe_bl (nomark _))))) (pss_one ps_never) pss_nil))))
      (pss_one (ps_if (pt_val (pe_c GC hr T.g_has_cycle (pa_cons (pv 1) (pa_cons (pe_pr (pv 0) T.o_World T.p_World_names GN hr) pa_nil)))) (pss_one ps_never) pss_nil)))), ?_⟩
    refine ⟨_, rfl, _, _, _, _, true, rfl, .ty "dict", .base (.dT hd), kit_dict, true, rfl, iteF ?_⟩
    refine ⟨d, _, hd, trivial, fun od => ?_⟩
    have hd1 : (upd H d (.frz od (.dT (pol E')))) d = some (.frz od (.dT (pol E'))) := upd_same
    have W1 : WorldAt K (upd H d (.frz od (.dT (pol E')))) p n S L := W.offT hd fun b u z h => by rw [upd_ne z]; exact h
    refine ⟨_, rfl, d, od, _, _, _, rfl, hd1, raw_dT, ?_⟩
    refine for_it walk_itemsR (fun i σ H' => ∃ f g, σ = [some (.ref p), some (.ref d), f, g] ∧ Same (upd H d (.frz od (.dT (pol E')))) H') ⟨_, _, rfl, Same.refl _⟩ (fun i σ H' _ ⟨f, g, _, s1⟩ => s1 _ _ hd1) (fun i x σ H1 H2 hi inv yy => ?_) (fun σ H1 inv => ?_)
    · obtain ⟨f, g, rfl, s1⟩ := inv
      obtain ⟨t, x, y, rfl, ht, rfl, k, q, hk, rfl, hq⟩ := yy
      obtain ⟨e, he, rfl, rfl⟩ := pol_at hk
      obtain ⟨m1, m2, m3⟩ := ok.mem e (List.mem_of_getElem? he)
      have s2 : Same H1 _ := same_upd (o := .tup [.ref q, .bl true]) ht
      refine ⟨t, _, rfl, SqT.of upd_same, rfl, _, _, rfl, _, _, rfl, rfl, ?_⟩
      refine ⟨_, rfl, _, rfl, p, q, e.1, e.2, n, S, L, rfl, (W1.ext s1).ext s2, nd, s2 _ _ hq, m1, m2, m3, true, rfl, iteF ?_⟩
      refine ⟨_, rfl, true, true, rfl, rfl, _, rfl, iteF ?_⟩
      exact ⟨_, _, rfl, s1.trans s2⟩
    · obtain ⟨f, g, rfl, s1⟩ := inv
      refine ⟨s1 _ _ hd1, ?_⟩
      have s3 := same_lock hd s1
      obtain ⟨⟨dx, l, m, hp, _, _⟩, _, _⟩ := id (W.ext s3)
      refine ⟨_, rfl, _, rfl, p, dx, _, rfl, hp, p, n, S, L, rfl, W.ext s3, fun r H3 s4 e4 => ?_⟩
      refine ⟨d, r, E', names L, rfl, .inl (s4 _ _ upd_same), e4, (by unfold names; rw [List.length_map]; exact h4), fun H4 s5 => ⟨false, congrArg V.bl ok.acyc, iteF ?_⟩⟩
      exact kk _ ((s3.trans s4).trans s5)
theorem lcL_flt {a D : Addr} {ys : List Str} {f : Str → Bool} {j : Nat} {tt : TT} {σ : L2.St} {H1 : Hp} {Qd : Hp → Prop} (hD : H1 D = none) (ha : SqL K H1 a (ys.map V.str)) (hsz : ys.length ≤ 900)
    (hs : ∀ y H (Qt : Bool → Hp → Prop), y ∈ ys → Same H1 H → (∀ H', Same H H' → Qt (f y) H') → tt ((wipe σ [j]).set j (some (.str y))) H Qt)
    (hd : ∀ H, Same H1 H → H D = some (.lst ((ys.filter f).map V.str)) → Qd H)
    (hw : ∀ x, wipe ((wipe σ [j]).set j (some x)) [j] = wipe σ [j] := by intro _; rfl) (hj : ∀ x, ((wipe σ [j]).set j (some x))[j]? = some (some x) := by intro _; rfl) : LcOk (Itl K a) (gName j) tt (tVar j) [j] σ H1 D Qd := by
  have hm : (ys.map V.str).length = ys.length := List.length_map ..
  refine lc_it (walk_list (K := K) (a := a) (xs := ys.map V.str)) (fun i H' => Same H1 H' ∧ H' D = some (.lst (((ys.take i).filter f).map V.str))) ⟨same_upd hD, by rw [upd_same, List.take_zero] <;> rfl⟩ (fun i H' _ q => Same.seq q.1 ha) (fun i x H4 H5 hi q yy => ?_) (fun H4 q => ?_)
  · obtain ⟨s4, d4⟩ := q
    obtain ⟨rfl, hx⟩ := yy
    obtain ⟨y, hy, rfl⟩ := strs_at' hx
    have et : (ys.take (i + 1)).filter f = (ys.take i).filter f ++ if f y = true then [y] else [] := by
      rw [List.take_add_one, hy, Option.toList_some, List.filter_append]
      congr 1
      rw [List.filter_cons]
      cases f y <;> rfl
    refine ⟨hw _, hs y _ _ (List.mem_of_getElem? hy) s4 fun H6 s6 => ?_⟩
    cases hb : f y with
    | false =>
      refine iteF ⟨s4.trans s6, ?_⟩
      rw [et, hb, if_neg (by decide), List.append_nil]
      exact s6 _ _ d4
    | true =>
      refine iteT ⟨_, hj _, _, s6 _ _ d4, small1000 ?_, fun b u e => ?_, ?_⟩
      · rw [List.length_map]
        have f1 := List.length_filter_le f (ys.take i)
        rw [List.length_take] at f1
        omega
      · rw [upd_ne (ne_of_none e hD)]
        exact s6 _ _ (s4 _ _ e)
      · rw [upd_same, et, hb, if_pos rfl, List.map_append] <;> rfl
  · obtain ⟨s4, d4⟩ := q
    rw [hm, List.take_length] at d4
    exact hd _ s4 d4
end
end OP
namespace OP
open PySem PySem.Spec PyProof.Rows L2
def nc (L : Ncs) : List (Str × Chg) := L.map fun p => (p.1, p.2.2)
theorem nc_names (L : Ncs) : names L = (nc L).map (·.1) := by
  unfold nc names
  rw [List.map_map] <;> rfl
theorem nc_len (L : Ncs) : (nc L).length = L.length := List.length_map ..
theorem ChgsOk.twin {n : Nat} {L M : Ncs} (h : ChgsOk n L) (e : nc M = nc L) : ChgsOk n M := by
  have len : M.length = L.length := by rw [← nc_len M, e, nc_len]
  have mem : ∀ p ∈ M, ∃ q ∈ L, q.1 = p.1 ∧ q.2.2 = p.2.2 := fun p hp => by
    have : (p.1, p.2.2) ∈ nc M := List.mem_map.mpr ⟨p, hp, rfl⟩
    rw [e] at this
    obtain ⟨q, hq, eq⟩ := List.mem_map.mp this
    exact ⟨q, hq, (Prod.mk.inj eq).1, (Prod.mk.inj eq).2⟩
  refine ⟨by rw [len]; exact h.lo, by rw [len]; exact h.hi, fun p hp => ?_, fun p hp => ?_, by rw [nc_names, e, ← nc_names]; exact h.nd⟩
  · obtain ⟨q, hq, e1, e2⟩ := mem p hp
    rw [← e1]
    exact h.name q hq
  · obtain ⟨q, hq, e1, e2⟩ := mem p hp
    rw [← e2]
    exact h.chg q hq
theorem OneAt.upd {K : PySem.W.Frag} {H : Hp} {a D : Addr} {o : One} {u0 u : HO} (hd : H D = some u0) (n : ∀ C dx fs, u0 ≠ .ins C dx fs) (h : OneAt K H a o) : OneAt K (upd H D u) a o := by
  obtain ⟨dx, h⟩ := h
  exact ⟨dx, by rw [upd_ne (fun z => by rw [z, hd] at h; exact n _ _ _ (Option.some.inj h))]; exact h⟩
theorem ChgAt.upd {K : PySem.W.Frag} {H : Hp} {a D : Addr} {c : Chg} {u0 u : HO} (hd : H D = some u0) (n : ∀ C dx fs, u0 ≠ .ins C dx fs) (h : ChgAt K H a c) : ChgAt K (upd H D u) a c := by
  cases c with
  | one o => exact OneAt.upd hd n h
  | iff s v o =>
    obtain ⟨dx, b, h1, h2⟩ := h
    exact ⟨dx, b, by rw [upd_ne (fun z => by rw [z, hd] at h1; exact n _ _ _ (Option.some.inj h1))]; exact h1, OneAt.upd hd n h2⟩
end OP
namespace OP
open PySem PySem.Spec PyProof.Rows L2
/-- pairs at their places: tuple, name, change's place, change -/
abbrev Prs' := List (Addr × Str × Addr × Chg)
def MsAt (K : PySem.W.Frag) (H : Hp) (Z : Prs') : Prop := ∀ q ∈ Z, H q.1 = some (.tup [.str q.2.1, .ref q.2.2.1]) ∧ ChgAt K H q.2.2.1 q.2.2.2
def mprefs (Z : Prs') : List V := (Z.map (·.1)).map V.ref
theorem MsAt.ext {K : PySem.W.Frag} {H H' : Hp} {Z : Prs'} (s : Same H H') (h : MsAt K H Z) : MsAt K H' Z := fun q hq => ⟨s _ _ (h q hq).1, (h q hq).2.ext s⟩
theorem MsAt.upd {K : PySem.W.Frag} {H : Hp} {Z : Prs'} {D : Addr} {ys : List V} {u : HO} (hd : H D = some (.lst ys)) (h : MsAt K H Z) : MsAt K (upd H D u) Z := fun q hq => by
  refine ⟨?_, (h q hq).2.upd hd (fun _ _ _ z => by cases z)⟩
  rw [upd_ne (tup_ne (h q hq).1 hd)]
  exact (h q hq).1
theorem MsAt.snoc {K : PySem.W.Frag} {H : Hp} {Z : Prs'} {q : Addr × Str × Addr × Chg} (h : MsAt K H Z) (h1 : H q.1 = some (.tup [.str q.2.1, .ref q.2.2.1])) (h2 : ChgAt K H q.2.2.1 q.2.2.2) : MsAt K H (Z ++ [q]) := fun x hx => by
  rcases List.mem_append.mp hx with z | z
  · exact h x z
  · obtain rfl := List.mem_singleton.mp z
    exact ⟨h1, h2⟩
theorem paired_of {K : PySem.W.Frag} {H : Hp} : ∀ {Z : Prs'}, MsAt K H Z → Paired (fun p (kv : Key × V) => SqT K H p [kV kv.1, kv.2]) (Z.map (·.1)) (kvs (Z.map (·.2)))
  | [], _ => .nil
  | q :: Z, h => .cons (SqT.of (h q List.mem_cons_self).1) (paired_of fun x hx => h x (List.mem_cons_of_mem _ hx))
theorem merge_new : ∀ (A B : Ncs), (names (A ++ B)).Nodup → mergeK (kvs A) (kvs B) = kvs (A ++ B)
  | A, [], _ => by rw [List.append_nil]; rfl
  | A, p :: B, nd => by
    have e : A ++ p :: B = (A ++ [p]) ++ B := by rw [List.append_assoc] <;> rfl
    have nf : p.1 ∉ names A := fun z => by
      unfold names at nd z
      rw [List.map_append, List.map_cons] at nd
      exact (List.nodup_append.mp nd).2.2 _ z _ List.mem_cons_self rfl
    have ih := merge_new (A ++ [p]) B (by rw [← e]; exact nd)
    rw [e, ← ih]
    show mergeK (putK (kvs A) (Sum.inr p.1) (V.ref p.2.1)) (kvs B) = _
    rw [putK_new _ (valV_not nf)]
    congr 1
    unfold kvs
    rw [List.map_append] <;> rfl
end OP
namespace OP
open PySem PySem.Spec PyProof.Rows L2
/-! ### numbers drawn: only their bounds matter -/
theorem at_in {α : Type} {xs : List α} {i : Int} (h0 : 0 ≤ i) (h1 : i < xs.length) : ∃ (h : i.toNat < xs.length), atI xs i = some xs[i.toNat] := by
  refine ⟨by omega, ?_⟩
  unfold atI ixN
  rw [if_pos h0, if_pos h1]
  exact List.getElem?_eq_getElem (by omega)
section
variable {P : Program} {w : World} {K : PySem.W.Frag} {mg : Str → Option Value} {base : Heap}
def spCell (K : PySem.W.Frag) : Sp := fun vs H Q _ => ∃ (sc : Addr) (ns : List Int) (k : Int), vs = [.ref sc, .int k] ∧ SqL K H sc (ns.map V.int) ∧ 0 ≤ k ∧ ∀ v, Q (.int v) H
theorem sc_cell : FnScope ["_law_script", "_law_k"] ["_law_script", "_law_k"] (defScope s__law_cell_at) := ⟨rfl, rfl, rfl, by decide +kernel, rfl, by decide +kernel, by decide +kernel⟩
theorem ok_cell (T : Txt K mg) : Ok P w K mg base (a__law_cell_at K) ["_law_script", "_law_k"] 1 (spCell K) := by
  refine ok_of T.f__law_cell_at sc_cell (fun _ _ _ _ _ _ us hl => match us, hl with | [_, _], _ => rfl) (fun vs H Q E h => ?_) (fun cdv A outer s H vs Q E hr h => ?_)
  · obtain ⟨sc, ns, k, rfl, _⟩ := h
    rfl
  · obtain ⟨sc, ns, k, rfl, hs, hk, kk⟩ := h
    refine ⟨_, pss_cons (ps_if (pt_cmpR op_lt (pv 1) (pe_callB call_len_seq (by rfl) T.z_len PySem.boot_len (pa_cons (pv 0) pa_nil)) (nomark _)) (pss_one (ps_ret (pe_ix ix_list (pv 0) (pv 1) (fun _ _ => rfl)))) pss_nil) (pss_one (ps_ret pe_int)), ?_⟩
    refine ⟨_, rfl, _, rfl, sc, _, rfl, .inl hs, _, _, rfl, rfl, _, rfl, ?_⟩
    by_cases lt : k < ((ns.map V.int).length : Int)
    · rw [decide_eq_true lt]
      obtain ⟨hl, e⟩ := at_in hk lt
      refine iteT ⟨_, rfl, _, rfl, sc, _, k, _, rfl, rfl, hs, e, ?_⟩
      rw [List.getElem_map]
      exact kk _
    · rw [decide_eq_false lt]
      exact iteF (kk 0)
def primes : List Int := [1000003, 1000033, 1000037, 1000039, 1000081, 1000099, 1000117, 1000121, 1000133, 1000151, 1000159, 1000171, 1000183, 1000187, 1000193, 1000199]
theorem primes_pos : ∀ p ∈ primes, 0 < p := by decide
def Below (b : Int) (Q : VK) (H : Hp) : Prop := ∀ v, 0 ≤ v → v < b → Q (.int v) H
def spDraw : Sp := fun vs H Q _ => ∃ c k b : Int, vs = [.int c, .int k, .int b] ∧ 0 < b ∧ ∀ H', Same H H' → Below b Q H'
theorem sc_draw : FnScope ["_law_cell", "_law_k", "_law_below", "_law_primes"] ["_law_cell", "_law_k", "_law_below"] (defScope s__law_draw) := ⟨rfl, rfl, rfl, by decide +kernel, rfl, by decide +kernel, by decide +kernel⟩
theorem ok_draw (T : Txt K mg) : Ok P w K mg base (a__law_draw K) ["_law_cell", "_law_k", "_law_below"] 1 spDraw := by
  refine ok_of T.f__law_draw sc_draw (fun _ _ _ _ _ _ us hl => match us, hl with | [_, _, _], _ => rfl) (fun vs H Q E h => ?_) (fun cdv A outer s H vs Q E hr h => ?_)
  · obtain ⟨c, k, b, rfl, _⟩ := h
    rfl
  · obtain ⟨c, k, b, rfl, hb, kk⟩ := h
    refine ⟨_, pss_cons (ps_set (i := 3) sc_draw.nd rfl (Or.inl rfl) (pe_tup (pa_cons pe_int (pa_cons pe_int (pa_cons pe_int (pa_cons pe_int (pa_cons pe_int (pa_cons pe_int (pa_cons pe_int (pa_cons pe_int (pa_cons pe_int (pa_cons pe_int (pa_cons pe_int (pa_cons pe_int (pa_cons pe_int (pa_cons pe_int (pa_cons pe_int (pa_cons pe_int pa_nil))))))))))))))))))
      (pss_one (ps_ret (pe_op op_mod (pe_op op_mod (pe_op op_add (pe_op op_mul (pv 0) pe_int) (pe_op op_mul (pv 1) pe_int)) (pe_ix ix_tup (pv 3) (pe_op op_mod (pv 1) pe_int) (fun _ _ => rfl))) (pv 2)))), ?_⟩
    refine ⟨(by show 16 ≤ sizeLine; decide), fun t ht => ?_⟩
    have s1 : Same H _ := same_upd (o := .tup (primes.map V.int)) ht
    have hm : 0 ≤ k % 16 ∧ k % 16 < ((primes.map V.int).length : Int) := ⟨by omega, by show _ < (16 : Int); omega⟩
    obtain ⟨hl, e⟩ := at_in hm.1 hm.2
    rw [List.getElem_map] at e
    have hp : 0 < primes[(k % 16).toNat]'(by rw [← List.length_map (f := V.int)]; exact hl) := primes_pos _ (List.getElem_mem _)
    refine ⟨_, rfl, _, _, rfl, rfl, .inr ⟨by decide, by decide⟩, _, rfl, _, _, rfl, rfl, .inr ⟨by decide, by decide⟩, _, _, rfl, rfl, _, rfl, _, rfl, _, _, rfl, rfl, (show (0 : Int) < 16 by decide), t, _, k % 16, _, rfl, rfl, SqT.of (show _ = some (.tup (primes.map V.int)) from upd_same), e, _, _, rfl, rfl, hp, _, rfl, _, _, rfl, rfl, hb, ?_⟩
    exact kk _ s1 _ (Int.emod_nonneg _ (by omega)) (Int.emod_lt_of_pos _ hb)
def spNumber : Sp := fun vs H Q _ => ∃ c k b : Int, vs = [.int c, .int k, .int b] ∧ 0 < b ∧ 0 ≤ k ∧ k < 100 ∧ ∀ H', Same H H' → Below b Q H'
theorem sc_number : FnScope ["_law_cell", "_law_k", "_law_below", "_law_power", "_law_times", "_law_remains", "_law_small"] ["_law_cell", "_law_k", "_law_below"] (defScope s__law_number) := ⟨rfl, rfl, rfl, by decide +kernel, rfl, by decide +kernel, by decide +kernel⟩
theorem ok_number (T : Txt K mg) : Ok P w K mg base (a__law_number K) ["_law_cell", "_law_k", "_law_below"] 2 spNumber := by
  have GD : Ok P w K mg base (a__law_draw K) _ 1 spDraw := ok_draw T
  refine ok_of T.f__law_number sc_number (fun _ _ _ _ _ _ us hl => match us, hl with | [_, _, _], _ => rfl) (fun vs H Q E h => ?_) (fun cdv A outer s H vs Q E hr h => ?_)
  · obtain ⟨c, k, b, rfl, _⟩ := h
    rfl
  · obtain ⟨c, k, b, rfl, hb, hk0, hk1, kk⟩ := h
    refine ⟨_, pss_cons (ps_set (i := 3) sc_number.nd rfl (Or.inl rfl) pe_int)
      (pss_cons (ps_for PassesOwn.never rfl (pi_range1 (by rfl) T.z_range (pa_cons (pe_op op_mod (pv 1) pe_int) pa_nil)) (pg_name (i := 4) sc_number.nd rfl (Or.inl rfl)) (pss_one (ps_set (i := 3) sc_number.nd rfl (Or.inl rfl) (pe_op op_mul (pv 3) pe_int))))
      (pss_cons (ps_set (i := 5) sc_number.nd rfl (Or.inl rfl) (pe_op op_fdivW (pe_op op_sub (pv 0) (pe_op op_pow pe_int pe_int)) (pv 3)))
      (pss_cons (ps_if (pt_cmpR op_gt (pv 5) pe_int (nomark _)) (pss_one (ps_ret (pe_op op_mod (pe_op op_mod (pv 5) pe_int) (pv 2)))) pss_nil)
      (pss_cons (ps_set (i := 6) sc_number.nd rfl (Or.inl rfl) (pe_op op_mod (pv 0) pe_int))
      (pss_one (ps_ret (pe_op op_mod (pe_c GD hr T.g__law_draw (pa_cons (pe_op op_mul (pe_op op_add (pv 6) (pe_op op_mul pe_int (pv 1))) (pe_op op_add (pe_op op_add (pv 6) (pe_op op_mul pe_int (pv 1))) pe_int)) (pa_cons (pe_op op_add (pe_op op_mod (pv 1) pe_int) pe_int) (pa_cons pe_int pa_nil)))) (pv 2)))))))), ?_⟩
    refine ⟨_, rfl, _, _, rfl, rfl, (show (0 : Int) < 24 by decide), k % 24, rfl, by omega, by omega, ?_⟩
    have hn : (k % 24).toNat < 24 := by omega
    refine for_range (fun i σ H' => i < 24 ∧ H' = H ∧ ∃ v4, σ = [some (.int c), some (.int k), some (.int b), some (.int (1009 ^ i)), v4, none, none]) ⟨by decide, rfl, none, rfl⟩ (fun i σ H' hi q => ?_) fun σ H' q => ?_
    · obtain ⟨hi24, rfl, v4, rfl⟩ := q
      exact ⟨_, rfl, _, _, rfl, rfl, .inr ⟨by decide, by decide⟩, by omega, rfl, _, by rw [Int.pow_succ] <;> rfl⟩
    · obtain ⟨hi24, rfl, v4, rfl⟩ := q
      have pw : (1009 : Int) ^ (k % 24).toNat < 2 ^ 240 ∧ 0 < (1009 : Int) ^ (k % 24).toNat := by
        have all : ∀ i, i < 24 → (1009 : Int) ^ i < 2 ^ 240 ∧ 0 < (1009 : Int) ^ i := by decide +kernel
        exact all _ hi24
      refine ⟨_, rfl, _, _, rfl, rfl, ⟨by decide, by decide, by decide⟩, _, _, rfl, rfl, _, rfl, _, _, rfl, rfl, wide_div pw.2 (b := 240) ?_ (by decide) (by decide), ?_⟩
      · have e : ((2 : Int) ^ 240).natAbs = 2 ^ 240 := by decide +kernel
        rw [← e]
        omega
      refine ⟨_, rfl, _, _, rfl, rfl, _, rfl, ?_⟩
      by_cases pos : (0 : Int) < (c - 10 ^ (18 : Int).toNat) / 1009 ^ (k % 24).toNat
      · rw [decide_eq_true pos]
        refine iteT ⟨_, rfl, _, _, rfl, rfl, (show (0 : Int) < 1009 by decide), _, rfl, _, _, rfl, rfl, hb, ?_⟩
        exact kk H' (Same.refl _) _ (Int.emod_nonneg _ (by omega)) (Int.emod_lt_of_pos _ hb)
      · rw [decide_eq_false pos]
        refine iteF ⟨_, rfl, _, _, rfl, rfl, (show (0 : Int) < 1000003 by decide), ?_⟩
        refine ⟨_, rfl, _, rfl, _, _, rfl, rfl, .inl ⟨by decide, by decide⟩, _, _, rfl, rfl, _, rfl, _, rfl, _, _, rfl, rfl, .inl ⟨by decide, by decide⟩, _, _, rfl, rfl, _, _, rfl, rfl, _, _, rfl, rfl, .inl ?_, ?_⟩
        · omega
        refine ⟨_, rfl, _, _, rfl, rfl, (show (0 : Int) < 9 by decide), _, _, rfl, rfl, _, _, _, rfl, by decide, fun H1 s1 v h0 h1 => ?_⟩
        refine ⟨_, rfl, _, _, rfl, rfl, hb, ?_⟩
        exact kk H1 s1 _ (Int.emod_nonneg _ (by omega)) (Int.emod_lt_of_pos _ hb)
end
end OP
namespace OP
open PySem PySem.Spec PyProof.Rows L2
/-! ### the state of the drawing: one list that changes; all else stays -/
def NotSt (u : HO) : Prop := ∀ sc b k, u ≠ .lst [.ref sc, .int b, .int k]
def Keep (H H' : Hp) : Prop := ∀ a u, NotSt u → H a = some u → H' a = some u
theorem Keep.refl (H : Hp) : Keep H H := fun _ _ _ e => e
theorem Keep.trans {H H1 H2 : Hp} (a : Keep H H1) (b : Keep H1 H2) : Keep H H2 := fun c u n e => b c u n (a c u n e)
theorem Keep.of {H H' : Hp} (s : Same H H') : Keep H H' := fun a u _ e => s a u e
theorem notSt_tup (xs : List V) : NotSt (.tup xs) := fun _ _ _ z => by cases z
theorem notSt_ins (C d : Addr) (fs : List (Str × V)) : NotSt (.ins C d fs) := fun _ _ _ z => by cases z
theorem notSt_dK (kv : List (Key × V)) : NotSt (.dK kv) := fun _ _ _ z => by cases z
theorem notSt_ints (ns : List Int) : NotSt (.lst (ns.map V.int)) := fun sc b k z => by
  cases ns with
  | nil => cases z
  | cons n ns => injection z with z; injection z with z _; cases z
theorem notSt_strs (ns : List Str) : NotSt (.lst (ns.map V.str)) := fun sc b k z => by
  cases ns with
  | nil => cases z
  | cons n ns => injection z with z; injection z with z _; cases z
theorem notSt_refs {α : Type} (f : α → Addr) (ns : List α) : NotSt (.lst (ns.map fun p => V.ref (f p))) := fun sc b k z => by
  match ns with
  | [] => cases z
  | [_] => injection z with z; injection z with _ z; cases z
  | _ :: n :: _ => injection z with z; injection z with _ z; injection z with z _; cases z
theorem Keep.tup {H H' : Hp} (k : Keep H H') {a : Addr} {xs : List V} (h : H a = some (.tup xs)) : H' a = some (.tup xs) := k _ _ (notSt_tup _) h
theorem Keep.dK {H H' : Hp} (k : Keep H H') {a : Addr} {kv : List (Key × V)} (h : H a = some (.dK kv)) : H' a = some (.dK kv) := k _ _ (notSt_dK _) h
theorem Keep.ins {H H' : Hp} (k : Keep H H') {a C d : Addr} {fs : List (Str × V)} (h : H a = some (.ins C d fs)) : H' a = some (.ins C d fs) := k _ _ (notSt_ins _ _ _) h
theorem Keep.ints {H H' : Hp} (k : Keep H H') {a : Addr} {ns : List Int} (h : H a = some (.lst (ns.map V.int))) : H' a = some (.lst (ns.map V.int)) := k _ _ (notSt_ints _) h
theorem Keep.strs {H H' : Hp} (k : Keep H H') {a : Addr} {ns : List Str} (h : H a = some (.lst (ns.map V.str))) : H' a = some (.lst (ns.map V.str)) := k _ _ (notSt_strs _) h
theorem Keep.sq {K : PySem.W.Frag} {H H' : Hp} (k : Keep H H') {a : Addr} {ns : List Int} (h : SqL K H a (ns.map V.int)) : SqL K H' a (ns.map V.int) := by
  rcases h with (h | ⟨o, h⟩) | h
  · exact .inl (.inl (k.ints h))
  · exact .inl (.inr ⟨o, k _ _ (fun _ _ _ z => by cases z) h⟩)
  · exact .inr h
def StAt (K : PySem.W.Frag) (sc : Addr) (H : Hp) (st : Addr) : Prop := ∃ (ns : List Int) (b k : Int), H st = some (.lst [.ref sc, .int b, .int k]) ∧ SqL K H sc (ns.map V.int) ∧ 0 ≤ b ∧ 0 ≤ k
/-- where D is the script's own place, the script is a thing of the text -/
def Far (K : PySem.W.Frag) (sc D : Addr) : Prop := D = sc → ∃ ns : List Int, ∀ H : Hp, SqL K H sc (ns.map V.int)
theorem StAt.ext {K : PySem.W.Frag} {sc : Addr} {H H' : Hp} {st : Addr} (s : Same H H') (h : StAt K sc H st) : StAt K sc H' st := by
  obtain ⟨ns, b, k, h1, h2, h3⟩ := h
  exact ⟨ns, b, k, s _ _ h1, Same.seq s h2, h3⟩
theorem sq_off {K : PySem.W.Frag} {H : Hp} {a D : Addr} {xs : List V} {u : HO} (n : D ≠ a) (h : SqL K H a xs) : SqL K (upd H D u) a xs := by
  rcases h with (h | ⟨o, h⟩) | h
  · exact .inl (.inl (by rw [upd_ne (Ne.symm n)]; exact h))
  · exact .inl (.inr ⟨o, by rw [upd_ne (Ne.symm n)]; exact h⟩)
  · exact .inr h
theorem StAt.off {K : PySem.W.Frag} {sc : Addr} {H : Hp} {st D : Addr} {u : HO} (h : StAt K sc H st) (n1 : D ≠ st) (n2 : Far K sc D) : StAt K sc (upd H D u) st := by
  obtain ⟨ns, b, k, h1, h2, h3⟩ := h
  by_cases e : D = sc
  · obtain ⟨ms, hm⟩ := n2 e
    exact ⟨ms, b, k, by rw [upd_ne (Ne.symm n1)]; exact h1, hm _, h3⟩
  · exact ⟨ns, b, k, by rw [upd_ne (Ne.symm n1)]; exact h1, sq_off e h2, h3⟩
theorem far_of {K : PySem.W.Frag} {sc : Addr} {H : Hp} {D : Addr} {ns : List Int} (h2 : SqL K H sc (ns.map V.int)) (hD : H D = none) : Far K sc D := fun e => by
  rw [e] at hD
  refine ⟨ns, fun H' => ?_⟩
  rcases h2 with (h | ⟨o, h⟩) | h
  · rw [hD] at h; cases h
  · rw [hD] at h; cases h
  · exact .inr h
theorem StAt.ne {K : PySem.W.Frag} {sc : Addr} {H : Hp} {st D : Addr} (h : StAt K sc H st) (hD : H D = none) : D ≠ st ∧ Far K sc D := by
  obtain ⟨ns, b, k, h1, h2, h3⟩ := h
  exact ⟨(fun z => by rw [z, h1] at hD; cases hD), far_of h2 hD⟩
theorem upd_keep {H : Hp} {st sc sc' : Addr} {b k b' k' : Int} (h : H st = some (.lst [.ref sc, .int b, .int k])) : Keep H (upd H st (.lst [.ref sc', .int b', .int k'])) := fun a u n e => by
  by_cases ha : a = st
  · rw [ha, h] at e
    exact absurd (Option.some.inj e).symm (n _ _ _)
  · rw [upd_ne ha]
    exact e
section
variable {P : Program} {w : World} {K : PySem.W.Frag} {mg : Str → Option Value} {base : Heap} {sc : Addr}
def spNext (K : PySem.W.Frag) (sc : Addr) : Sp := fun vs H Q _ => ∃ (st : Addr) (b : Int), vs = [.ref st, .int b] ∧ 0 < b ∧ StAt K sc H st ∧ ∀ H', Keep H H' → StAt K sc H' st → Below b Q H'
theorem sc_next : FnScope ["_law_state", "_law_below", "_law_at", "_law_cell"] ["_law_state", "_law_below"] (defScope s__law_next) := ⟨rfl, rfl, rfl, by decide +kernel, rfl, by decide +kernel, by decide +kernel⟩
theorem ok_next (T : Txt K mg) : Ok P w K mg base (a__law_next K) ["_law_state", "_law_below"] 3 (spNext K sc) := by
  have GC : Ok P w K mg base (a__law_cell_at K) _ 1 (spCell K) := ok_cell T
  have GN : Ok P w K mg base (a__law_number K) _ 2 spNumber := ok_number T
  refine ok_of T.f__law_next sc_next (fun _ _ _ _ _ _ us hl => match us, hl with | [_, _], _ => rfl) (fun vs H Q E h => ?_) (fun cdv A outer s H vs Q E hr h => ?_)
  · obtain ⟨st, b, rfl, _⟩ := h
    rfl
  · obtain ⟨st, b, rfl, hb, ⟨ns, b0, k, h1, h2, hb0, hk⟩, kk⟩ := h
    have hr1 : Room 1 _ := hr.mono (by decide)
    refine ⟨_, pss_cons (ps_asg (pe_op op_add (pe_ix ix_list (pv 0) pe_int (fun _ _ => rfl)) pe_int) (pg_sub (pv 0) pe_int set_list))
      (pss_cons (ps_set (i := 2) sc_next.nd rfl (Or.inl rfl) (pe_op op_fdiv (pe_ix ix_list (pv 0) pe_int (fun _ _ => rfl)) pe_int))
      (pss_cons (ps_set (i := 3) sc_next.nd rfl (Or.inl rfl) (pe_op op_add (pe_c GC hr1 T.g__law_cell_at (pa_cons (pe_ix ix_list (pv 0) pe_int (fun _ _ => rfl)) (pa_cons (pe_op op_add (pe_ix ix_list (pv 0) pe_int (fun _ _ => rfl)) (pv 2)) pa_nil))) (pe_op op_mul pe_int (pv 2))))
      (pss_one (ps_ret (pe_c GN hr T.g__law_number (pa_cons (pv 3) (pa_cons (pe_op op_add (pe_op op_mod (pe_ix ix_list (pv 0) pe_int (fun _ _ => rfl)) pe_int) pe_int) (pa_cons (pv 1) pa_nil)))))))), ?_⟩
    refine ⟨_, rfl, st, _, 2, _, rfl, rfl, SqL.of h1, rfl, _, _, rfl, rfl, ?_⟩
    refine ⟨_, rfl, st, _, 2, 2, rfl, rfl, h1, rfl, ?_⟩
    have h3 : upd H st (.lst [.ref sc, .int b0, .int (k + 1)]) st = _ := upd_same
    have kp : Keep H (upd H st (.lst [.ref sc, .int b0, .int (k + 1)])) := upd_keep h1
    refine ⟨_, rfl, st, _, 2, _, rfl, rfl, SqL.of h3, rfl, _, _, rfl, rfl, ⟨by decide, by decide⟩, ?_⟩
    refine ⟨_, rfl, st, _, 0, _, rfl, rfl, SqL.of h3, rfl, _, rfl, st, _, 1, _, rfl, rfl, SqL.of h3, rfl, _, rfl, _, _, rfl, rfl, sc, ns, _, rfl, (kp.sq h2), by omega, fun v => ?_⟩
    refine ⟨_, rfl, _, _, rfl, rfl, .inl ⟨by decide, by decide⟩, _, _, rfl, rfl, ?_⟩
    refine ⟨_, rfl, _, rfl, st, _, 2, _, rfl, rfl, SqL.of h3, rfl, _, _, rfl, rfl, (show (0 : Int) < 12 by decide), _, _, rfl, rfl, _, rfl, _, _, _, rfl, hb, by omega, by omega, fun H' s' => ?_⟩
    exact kk H' (kp.trans (Keep.of s')) ⟨ns, b0, k + 1, s' _ _ h3, Same.seq s' (kp.sq h2), hb0, by omega⟩
def spPick (K : PySem.W.Frag) (sc : Addr) : Sp := fun vs H Q _ => ∃ (st t : Addr) (xs : List V), vs = [.ref st, .ref t] ∧ xs ≠ [] ∧ StAt K sc H st ∧ H t = some (.lst xs) ∧ NotSt (.lst xs) ∧ ∀ H', Keep H H' → StAt K sc H' st → ∀ x ∈ xs, Q x H'
theorem sc_pick : FnScope ["_law_state", "_law_things"] ["_law_state", "_law_things"] (defScope s__law_pick) := ⟨rfl, rfl, rfl, by decide +kernel, rfl, by decide +kernel, by decide +kernel⟩
theorem ok_pick (T : Txt K mg) : Ok P w K mg base (a__law_pick K) ["_law_state", "_law_things"] 4 (spPick K sc) := by
  have GN : Ok P w K mg base (a__law_next K) _ 3 (spNext K sc) := ok_next T
  refine ok_of T.f__law_pick sc_pick (fun _ _ _ _ _ _ us hl => match us, hl with | [_, _], _ => rfl) (fun vs H Q E h => ?_) (fun cdv A outer s H vs Q E hr h => ?_)
  · obtain ⟨st, t, xs, rfl, _⟩ := h
    rfl
  · obtain ⟨st, t, xs, rfl, hne, hst, ht, nt, kk⟩ := h
    refine ⟨_, pss_one (ps_ret (pe_ix ix_list (pv 1) (pe_c GN hr T.g__law_next (pa_cons (pv 0) (pa_cons (pe_callB call_len_seq (by rfl) T.z_len PySem.boot_len (pa_cons (pv 1) pa_nil)) pa_nil))) (fun _ _ => rfl))), ?_⟩
    have pos : 0 < xs.length := List.length_pos_iff.mpr hne
    refine ⟨_, rfl, _, rfl, _, rfl, t, _, rfl, .inl (SqL.of ht), st, _, rfl, by omega, hst, fun H' kp st' v h0 h1 => ?_⟩
    obtain ⟨hl, e⟩ := at_in h0 h1
    exact ⟨t, xs, v, _, rfl, rfl, SqL.of (kp _ _ nt ht), e, kk H' kp st' _ (List.getElem_mem hl)⟩
end
end OP
namespace OP
open PySem PySem.Spec PyProof.Rows L2
/-! ### changes as rows -/
theorem RowAt.kp {H H' : Hp} {a : Addr} {c : Chg} (k : Keep H H') (h : RowAt H a c) : RowAt H' a c := by
  cases c with
  | one o => exact k.tup h
  | iff s v o =>
    obtain ⟨b, h1, h2⟩ := h
    exact ⟨b, k.tup h1, k.tup h2⟩
/-- what a word stands for where it is none of the others -/
def flat : Option Kind → Kind
  | some .add => .add
  | some .rais => .rais
  | some .lower => .lower
  | _ => .put
theorem w_in (q : Option Kind) : (if inV (.str (word q)) [.str "put", .str "add", .str "raise", .str "lower"] = true then word q else "put") = (flat q).word := by
  cases q with
  | none => decide +kernel
  | some k => cases k <;> decide +kernel
theorem flat_src (q : Option Kind) : (flat q).src = false ∧ flat q ≠ .move := by
  cases q with
  | none => decide +kernel
  | some k => cases k <;> decide +kernel
def drawWords : List V := [.str "put", .str "add", .str "add", .str "raise", .str "lower", .str "addslot", .str "move", .str "if", .str "if"]
theorem mem_words {x : V} (h : x ∈ drawWords) : ∃ q, x = .str (word q) := by
  unfold drawWords at h
  simp only [List.mem_cons, List.not_mem_nil, or_false] at h
  rcases h with rfl | rfl | rfl | rfl | rfl | rfl | rfl | rfl | rfl
  · exact ⟨some .put, rfl⟩
  · exact ⟨some .add, rfl⟩
  · exact ⟨some .add, rfl⟩
  · exact ⟨some .rais, rfl⟩
  · exact ⟨some .lower, rfl⟩
  · exact ⟨some .addslot, rfl⟩
  · exact ⟨some .move, rfl⟩
  · exact ⟨none, rfl⟩
  · exact ⟨none, rfl⟩
section
variable {P : Program} {w : World} {K : PySem.W.Frag} {mg : Str → Option Value} {base : Heap} {sc : Addr}
def spRow (K : PySem.W.Frag) (sc : Addr) (d : Nat) : Sp := fun vs H Q _ => ∃ (st : Addr) (n : Nat), vs = [.ref st, .int n, .int d] ∧ 1 ≤ n ∧ n ≤ 2 ∧ StAt K sc H st ∧
  ∀ H' a c, Keep H H' → StAt K sc H' st → RowAt H' a c → c.Ok → Fits n c → (d = 0 → ∃ o, c = .one o) → Q (.ref a) H'
theorem sc_change : FnScope ["_law_state", "_law_slots", "_law_deep", "_law_word", "_law_slot", "_law_value"] ["_law_state", "_law_slots", "_law_deep"] (defScope s__law_change) := ⟨rfl, rfl, rfl, by decide +kernel, rfl, by decide +kernel, by decide +kernel⟩
theorem change_step (T : Txt K mg) (d k : Nat) (h5 : 5 ≤ k) (GO : d ≠ 0 → Ok P w K mg base (a__law_change K) ["_law_state", "_law_slots", "_law_deep"] k (spRow K sc 0)) : Ok P w K mg base (a__law_change K) ["_law_state", "_law_slots", "_law_deep"] (k + 1) (spRow K sc d) := by
  have GP : Ok P w K mg base (a__law_pick K) _ 4 (spPick K sc) := ok_pick T
  have GN : Ok P w K mg base (a__law_next K) _ 3 (spNext K sc) := ok_next T
  have GR : Ok P w K mg base (a__law_change K) ["_law_state", "_law_slots", "_law_deep"] k (fun vs H Q E => d ≠ 0 ∧ spRow K sc 0 vs H Q E) := by
    by_cases h0 : d = 0
    · exact (ok_no T.f__law_change (fun _ _ _ _ _ _ us hl => match us, hl with | [_, _, _], _ => rfl)).imp fun vs H Q E h => (h.1 h0).elim
    · exact (GO h0).imp fun vs H Q E h => h.2
  refine ok_of T.f__law_change sc_change (fun _ _ _ _ _ _ us hl => match us, hl with | [_, _, _], _ => rfl) (fun vs H Q E h => ?_) (fun cdv A outer s H vs Q E hr h => ?_)
  · obtain ⟨st, n, rfl, _⟩ := h
    rfl
  · obtain ⟨st, n, rfl, n1, n2, hst, kk⟩ := h
    have hr4 : Room 4 _ := hr.mono (by omega)
    have hr3 : Room 3 _ := hr.mono (by omega)
    refine ⟨_, pss_cons (ps_set (i := 3) sc_change.nd rfl (Or.inl rfl) (pe_c GP hr4 T.g__law_pick (pa_cons (pv 0) (pa_cons (pe_lst (pa_cons pe_str (pa_cons pe_str (pa_cons pe_str (pa_cons pe_str (pa_cons pe_str (pa_cons pe_str (pa_cons pe_str (pa_cons pe_str (pa_cons pe_str pa_nil)))))))))) pa_nil))))
      (pss_cons (ps_par rfl sc_change.nd (i := 4) (j := 5) rfl rfl (by decide) rfl rfl (pa_cons (pe_c GN hr3 T.g__law_next (pa_cons (pv 0) (pa_cons (pv 1) pa_nil))) (pa_cons (pe_c GN hr3 T.g__law_next (pa_cons (pv 0) (pa_cons pe_int pa_nil))) pa_nil)) (by rfl))
      (pss_cons (ps_if (PW.pt (pw_and (pt_cmpR op_eq (pv 3) pe_str (nomark _)) (pw_and1 (pt_cmpR op_gt (pv 2) pe_int (nomark _)))))
        (pss_one (ps_ret (pe_tup (pa_cons pe_str (pa_cons (pv 4) (pa_cons (pe_c GP hr4 T.g__law_pick (pa_cons (pv 0) (pa_cons (pe_lst (pa_cons pe_int (pa_cons pe_int (pa_cons (pv 5) pa_nil)))) pa_nil))) (pa_cons (pe_c GR hr T.g__law_change (pa_cons (pv 0) (pa_cons (pv 1) (pa_cons pe_int pa_nil)))) pa_nil))))))) pss_nil)
      (pss_cons (ps_if (PW.pt (pw_and (pt_cmpR op_eq (pv 3) pe_str (nomark _)) (pw_and1 (pt_cmpR op_gt (pv 1) pe_int (nomark _)))))
        (pss_one (ps_ret (pe_tup (pa_cons pe_str (pa_cons (pv 4) (pa_cons (pe_op op_mod (pe_op op_add (pe_op op_add (pv 4) pe_int) (pe_c GN hr3 T.g__law_next (pa_cons (pv 0) (pa_cons (pe_op op_sub (pv 1) pe_int) pa_nil)))) (pv 1)) pa_nil)))))) pss_nil)
      (pss_cons (ps_if (pt_cmpR op_eq (pv 3) pe_str (nomark _))
        (pss_one (ps_ret (pe_tup (pa_cons pe_str (pa_cons (pv 4) (pa_cons (pe_c GN hr3 T.g__law_next (pa_cons (pv 0) (pa_cons (pv 1) pa_nil))) pa_nil)))))) pss_nil)
      (pss_one (ps_ret (pe_tup (pa_cons (pe_ifExp (pt_cmpR op_in_seq (pv 3) (pe_tup (pa_cons pe_str (pa_cons pe_str (pa_cons pe_str (pa_cons pe_str pa_nil))))) (by rfl)) (pv 3) pe_str) (pa_cons (pv 4) (pa_cons (pv 5) pa_nil)))))))))), ?_⟩
    refine ⟨_, rfl, (by show 9 ≤ sizeLine; decide), fun t ht => ?_⟩
    have s1 : Same H _ := same_upd (o := .lst drawWords) ht
    refine ⟨st, t, drawWords, rfl, (by unfold drawWords; exact List.cons_ne_nil _ _), hst.ext s1, upd_same, (notSt_strs ["put", "add", "add", "raise", "lower", "addslot", "move", "if", "if"]), fun H2 k2 st2 x hx => ?_⟩
    have k1 : Keep H H2 := (Keep.of s1).trans k2
    obtain ⟨q, rfl⟩ := mem_words hx
    refine ⟨_, rfl, _, rfl, st, n, rfl, by omega, st2, fun H3 k3 st3 v3 a3 b3 => ?_⟩
    refine ⟨_, rfl, st, 8, rfl, by decide, st3, fun H4 k4 st4 v4 a4 b4 => ⟨_, _, rfl, ?_⟩⟩
    obtain ⟨ms, rfl⟩ := nat_of a3
    obtain ⟨mv, rfl⟩ := nat_of a4
    have k14 := (k1.trans k3).trans k4
    have gt0 : ∀ z : Nat, decide ((0 : Int) < (z : Int)) = decide (z ≠ 0) := fun z => decide_eq_decide.mpr (by omega)
    have fl := flat_src q
    have last : Keep H H4 → ∀ Z : Prop, Z → Z := fun _ _ z => z
    -- the last row, where no word has its own
    have tail : ∀ H5, Keep H H5 → StAt K sc H5 st → q ≠ some .addslot → (q = some .move → n = 1) → ∀ (t5 : Addr), H5 t5 = none → ∀ p, upd H5 t5 (.tup [.str "put", .str "add", .str "raise", .str "lower"]) p = none →
        Q (.ref p) (upd (upd H5 t5 (.tup [.str "put", .str "add", .str "raise", .str "lower"])) p (.tup [.str (flat q).word, .int ms, .int mv])) := fun H5 k5 st5 _ _ t5 ht5 p hp => by
      have s5 : Same H5 _ := same_upd (o := .tup [.str "put", .str "add", .str "raise", .str "lower"]) ht5
      have s6 : Same H5 _ := s5.push (o := .tup [.str (flat q).word, .int ms, .int mv]) hp
      refine kk _ p (.one ⟨flat q, ms, mv⟩) (k5.trans (Keep.of s6)) (st5.ext s6) upd_same ⟨by show ms ≤ 2; omega, by show mv ≤ 7; omega, fun z => ?_, fun z => (fl.2 z).elim⟩ (fits_one (by show ms < n; omega) fun z => ?_) fun _ => ⟨_, rfl⟩
      · have z : (flat q).src = true := z
        rw [fl.1] at z; cases z
      · have z : (flat q).src = true := z
        rw [fl.1] at z; cases z
    dsimp only
    refine seq_and (decide (q = none)) (decide (d ≠ 0)) (fun Q' z => ⟨_, rfl, rfl, _, rfl, by rw [w_if]; exact z⟩) (fun Q' z => ⟨_, rfl, _, _, rfl, rfl, _, rfl, by rw [gt0]; exact z⟩) ?_
    by_cases c1 : q = none ∧ d ≠ 0
    · rw [decide_eq_true c1.1, decide_eq_true c1.2]
      refine iteT ⟨_, rfl, _, rfl, _, rfl, (by show 3 ≤ sizeLine; decide), fun t5 ht5 => ?_⟩
      have s5 : Same H4 _ := same_upd (o := .lst [.int 0, .int 1, .int mv]) ht5
      refine ⟨st, t5, [.int 0, .int 1, .int mv], rfl, List.cons_ne_nil _ _, st4.ext s5, upd_same, notSt_ints [0, 1, (mv : Int)], fun H6 k6 st6 x hx => ?_⟩
      obtain ⟨m6, rfl, l6⟩ : ∃ m : Nat, x = .int m ∧ m ≤ 7 := by
        simp only [List.mem_cons, List.not_mem_nil, or_false] at hx
        rcases hx with rfl | rfl | rfl
        · exact ⟨0, rfl, by omega⟩
        · exact ⟨1, rfl, by omega⟩
        · exact ⟨mv, rfl, by omega⟩
      refine ⟨_, rfl, _, rfl, c1.2, st, n, rfl, n1, n2, st6, fun H7 a7 c7 k7 st7 r7 ok7 f7 o7 => ?_⟩
      obtain ⟨o, rfl⟩ := o7 rfl
      refine ⟨(by show 4 ≤ sizeLine; decide), fun p hp => ?_⟩
      have s8 : Same H7 _ := same_upd (o := .tup [.str "if", .int ms, .int m6, .ref a7]) hp
      exact kk _ p (.iff ms m6 o) ((((k14.trans (Keep.of s5)).trans k6).trans k7).trans (Keep.of s8)) (st7.ext s8) ⟨a7, upd_same, s8 _ _ r7⟩ ⟨by omega, l6, ok7⟩ (fits_iff (by omega) f7) fun z => (c1.2 z).elim
    · have c1' : (decide (q = none) && decide (d ≠ 0)) = false := by
        by_cases e1 : q = none
        · by_cases e2 : d ≠ 0
          · exact (c1 ⟨e1, e2⟩).elim
          · rw [decide_eq_false e2, Bool.and_false]
        · rw [decide_eq_false e1, Bool.false_and]
      rw [c1']
      refine iteF ?_
      show Ends.nx _ _ _
      dsimp only
      refine seq_and (decide (q = some .move)) (decide (n = 2)) (fun Q' z => ⟨_, rfl, rfl, _, rfl, by rw [w_move]; exact z⟩) (fun Q' z => ⟨_, rfl, _, _, rfl, rfl, _, rfl, by rw [show decide ((1 : Int) < (n : Int)) = decide (n = 2) from decide_eq_decide.mpr (by omega)]; exact z⟩) ?_
      by_cases c2 : q = some .move ∧ n = 2
      · rw [decide_eq_true c2.1, decide_eq_true c2.2]
        obtain ⟨rfl, rfl⟩ := c2
        refine iteT ⟨_, rfl, _, rfl, _, _, rfl, rfl, _, rfl, _, rfl, _, _, rfl, rfl, st, 1, rfl, by decide, st4, fun H5 k5 st5 v5 a5 b5 => ?_⟩
        refine ⟨_, _, rfl, rfl, _, rfl, _, _, rfl, rfl, (show (0 : Int) < ((2 : Nat) : Int) by decide), ?_⟩
        obtain ⟨m5, hm5⟩ := nat_of (v := ((ms : Int) + 1 + v5) % ((2 : Nat) : Int)) (by omega)
        refine ⟨(by show 3 ≤ sizeLine; decide), fun p hp => ?_⟩
        have s8 : Same H5 _ := same_upd (o := .tup [.str "move", .int ms, .int (((ms : Int) + 1 + v5) % ((2 : Nat) : Int))]) hp
        refine kk _ p (.one ⟨.move, ms, m5⟩) ((k14.trans k5).trans (Keep.of s8)) (st5.ext s8) (by show _ = some (HO.tup [.str "move", .int ms, .int (m5 : Int)]); rw [← hm5]; exact upd_same) ⟨by show ms ≤ 2; omega, by show m5 ≤ 7; omega, fun _ => by show m5 ≤ 2; omega, fun _ => by show m5 ≠ ms; omega⟩ (fits_one (by show ms < 2; omega) fun _ => by show m5 < 2; omega) fun _ => ⟨_, rfl⟩
      · have c2' : (decide (q = some .move) && decide (n = 2)) = false := by
          by_cases e1 : q = some .move
          · by_cases e2 : n = 2
            · exact (c2 ⟨e1, e2⟩).elim
            · rw [decide_eq_false e2, Bool.and_false]
          · rw [decide_eq_false e1, Bool.false_and]
        rw [c2']
        refine iteF ⟨_, rfl, rfl, _, rfl, ?_⟩
        rw [w_addslot]
        by_cases c3 : q = some .addslot
        · rw [decide_eq_true c3]
          refine iteT ⟨_, rfl, _, rfl, _, rfl, st, n, rfl, by omega, st4, fun H5 k5 st5 v5 a5 b5 => ?_⟩
          obtain ⟨m5, rfl⟩ := nat_of a5
          refine ⟨(by show 3 ≤ sizeLine; decide), fun p hp => ?_⟩
          have s8 : Same H5 _ := same_upd (o := .tup [.str "addslot", .int ms, .int m5]) hp
          exact kk _ p (.one ⟨.addslot, ms, m5⟩) ((k14.trans k5).trans (Keep.of s8)) (st5.ext s8) upd_same ⟨by show ms ≤ 2; omega, by show m5 ≤ 7; omega, fun _ => by show m5 ≤ 2; omega, fun z => by cases z⟩ (fits_one (by show ms < n; omega) fun _ => by show m5 < n; omega) fun _ => ⟨_, rfl⟩
        · rw [decide_eq_false c3]
          refine iteF ⟨_, rfl, (by show 4 ≤ sizeLine; decide), fun t5 ht5 => ⟨t5, _, rfl, .inr (SqT.of upd_same), rfl, by decide +kernel, _, rfl, ?_⟩⟩
          have win := w_in q
          have fin := tail H4 k14 st4 c3 (fun e => by have hz : n ≠ 2 := fun z => c2 ⟨e, z⟩; omega) t5 ht5
          cases ein : inV (.str (word q)) [.str "put", .str "add", .str "raise", .str "lower"] with
          | true =>
            rw [ein, if_pos rfl] at win
            rw [← win] at fin
            exact iteT ⟨_, rfl, _, rfl, _, rfl, (by show 3 ≤ sizeLine; decide), fin⟩
          | false =>
            rw [ein, if_neg (by decide)] at win
            rw [← win] at fin
            exact iteF ⟨_, rfl, _, rfl, (by show 3 ≤ sizeLine; decide), fin⟩
end
end OP
namespace OP
open PySem PySem.Spec PyProof.Rows L2
section
variable {P : Program} {w : World} {K : PySem.W.Frag} {mg : Str → Option Value} {base : Heap}
theorem ok_row0 (T : Txt K mg) {sc : Addr} : Ok P w K mg base (a__law_change K) ["_law_state", "_law_slots", "_law_deep"] 6 (spRow K sc 0) := change_step T 0 5 (by decide) fun h => (h rfl).elim
theorem ok_row1 (T : Txt K mg) {sc : Addr} : Ok P w K mg base (a__law_change K) ["_law_state", "_law_slots", "_law_deep"] 7 (spRow K sc 1) := change_step T 1 6 (by decide) fun _ => ok_row0 T
theorem made_same {H H' : Hp} {x dx : Addr} {u v : HO} (hx : H x = none) (hdx : H dx = none) (h : ∀ b o, b ≠ x → upd (upd H dx u) x v b = some o → H' b = some o) : Same H H' := fun b o e => by
  have b1 : b ≠ x := ne_of_none e hx
  exact h b o b1 (by rw [upd_ne b1, upd_ne (ne_of_none e hdx)]; exact e)
theorem init_of {K : PySem.W.Frag} {H : Hp} {Q : VK} {E : XK} {o : One} (ok : o.Ok) (k : ∀ H' r, Same H H' → OneAt K H' r o → Q (.ref r) H') : ∀ x dx, H x = none → H dx = none → dx ≠ x → spInit (o.k.cls K) o.k [.ref x, .int o.s, .int o.v] (upd (upd H dx (.own x)) x (.ins (o.k.cls K) dx [])) (fun v H2 => v = .non ∧ Q (.ref x) H2) E := fun x dx hx hdx ne =>
  ⟨x, dx, o.s, o.v, rfl, ok, upd_same, fun H' hk hp => ⟨rfl, k H' x (made_same hx hdx hk) ⟨dx, hp⟩⟩⟩
/-- what is made of a row -/
def spMade (K : PySem.W.Frag) (d : Nat) : Sp := fun vs H Q _ => ∃ (a : Addr) (c : Chg), vs = [.ref a] ∧ RowAt H a c ∧ c.Ok ∧ (d = 0 → ∃ o, c = .one o) ∧ ∀ H' r, Same H H' → ChgAt K H' r c → Q (.ref r) H'
theorem sc_made : FnScope ["_law_row"] ["_law_row"] (defScope s__law_made) := ⟨rfl, rfl, rfl, by decide +kernel, rfl, by decide +kernel, by decide +kernel⟩
theorem made_step (T : Txt K mg) (d k : Nat) (h5 : 4 ≤ k) (GO : d ≠ 0 → Ok P w K mg base (a__law_made K) ["_law_row"] k (spMade K 0)) : Ok P w K mg base (a__law_made K) ["_law_row"] (k + 1) (spMade K d) := by
  have GR : Ok P w K mg base (a__law_made K) ["_law_row"] k (fun vs H Q E => d ≠ 0 ∧ spMade K 0 vs H Q E) := by
    by_cases h0 : d = 0
    · exact (ok_no T.f__law_made (fun _ _ _ _ _ _ us hl => match us, hl with | [_], _ => rfl)).imp fun vs H Q E h => (h.1 h0).elim
    · exact (GO h0).imp fun vs H Q E h => h.2
  have G1 : Ok P w K mg base (a_Put_init K) _ 3 (spInit (c_Put K) .put) := ok_Put_init T
  have G2 : Ok P w K mg base (a_Move_init K) _ 3 (spInit (c_Move K) .move) := ok_Move_init T
  have G3 : Ok P w K mg base (a_Add_init K) _ 3 (spInit (c_Add K) .add) := ok_Add_init T
  have G4 : Ok P w K mg base (a_AddSlot_init K) _ 3 (spInit (c_AddSlot K) .addslot) := ok_AddSlot_init T
  have G5 : Ok P w K mg base (a_Raise_init K) _ 3 (spInit (c_Raise K) .rais) := ok_Raise_init T
  have G6 : Ok P w K mg base (a_Lower_init K) _ 3 (spInit (c_Lower K) .lower) := ok_Lower_init T
  have G7 : Ok P w K mg base (a_If_init K) _ 3 (spIfInit K) := ok_If_init T
  refine ok_of T.f__law_made sc_made (fun _ _ _ _ _ _ us hl => match us, hl with | [_], _ => rfl) (fun vs H Q E h => ?_) (fun cdv A outer s H vs Q E hr h => ?_)
  · obtain ⟨a, c, rfl, _⟩ := h
    rfl
  · obtain ⟨a, c, rfl, ha, ok, ho, kk⟩ := h
    have hr4 : Room 4 _ := hr.mono (by omega)
    refine ⟨_, pss_cons (ps_if (pt_cmpR op_eq (pe_ix ix_tup (pv 0) pe_int (fun _ _ => rfl)) pe_str (nomark _)) (pss_one (ps_ret (pe_mkc T.mk_If G7 hr4 T.g_If (pa_cons (pe_ix ix_tup (pv 0) pe_int (fun _ _ => rfl)) (pa_cons (pe_ix ix_tup (pv 0) pe_int (fun _ _ => rfl)) (pa_cons (pe_c GR hr T.g__law_made (pa_cons (pe_ix ix_tup (pv 0) pe_int (fun _ _ => rfl)) pa_nil)) pa_nil)))))) pss_nil)
      (pss_cons (ps_if (pt_cmpR op_eq (pe_ix ix_tup (pv 0) pe_int (fun _ _ => rfl)) pe_str (nomark _)) (pss_one (ps_ret (pe_mkc T.mk_Put G1 hr4 T.g_Put (pa_cons (pe_ix ix_tup (pv 0) pe_int (fun _ _ => rfl)) (pa_cons (pe_ix ix_tup (pv 0) pe_int (fun _ _ => rfl)) pa_nil))))) pss_nil)
      (pss_cons (ps_if (pt_cmpR op_eq (pe_ix ix_tup (pv 0) pe_int (fun _ _ => rfl)) pe_str (nomark _)) (pss_one (ps_ret (pe_mkc T.mk_Move G2 hr4 T.g_Move (pa_cons (pe_ix ix_tup (pv 0) pe_int (fun _ _ => rfl)) (pa_cons (pe_ix ix_tup (pv 0) pe_int (fun _ _ => rfl)) pa_nil))))) pss_nil)
      (pss_cons (ps_if (pt_cmpR op_eq (pe_ix ix_tup (pv 0) pe_int (fun _ _ => rfl)) pe_str (nomark _)) (pss_one (ps_ret (pe_mkc T.mk_Add G3 hr4 T.g_Add (pa_cons (pe_ix ix_tup (pv 0) pe_int (fun _ _ => rfl)) (pa_cons (pe_ix ix_tup (pv 0) pe_int (fun _ _ => rfl)) pa_nil))))) pss_nil)
      (pss_cons (ps_if (pt_cmpR op_eq (pe_ix ix_tup (pv 0) pe_int (fun _ _ => rfl)) pe_str (nomark _)) (pss_one (ps_ret (pe_mkc T.mk_AddSlot G4 hr4 T.g_AddSlot (pa_cons (pe_ix ix_tup (pv 0) pe_int (fun _ _ => rfl)) (pa_cons (pe_ix ix_tup (pv 0) pe_int (fun _ _ => rfl)) pa_nil))))) pss_nil)
      (pss_one (ps_ret (pe_ifExp (pt_cmpR op_eq (pe_ix ix_tup (pv 0) pe_int (fun _ _ => rfl)) pe_str (nomark _)) (pe_mkc T.mk_Raise G5 hr4 T.g_Raise (pa_cons (pe_ix ix_tup (pv 0) pe_int (fun _ _ => rfl)) (pa_cons (pe_ix ix_tup (pv 0) pe_int (fun _ _ => rfl)) pa_nil))) (pe_mkc T.mk_Lower G6 hr4 T.g_Lower (pa_cons (pe_ix ix_tup (pv 0) pe_int (fun _ _ => rfl)) (pa_cons (pe_ix ix_tup (pv 0) pe_int (fun _ _ => rfl)) pa_nil)))))))))), ?_⟩
    cases c with
    | iff m v o =>
      obtain ⟨b, ha, hb⟩ := ha
      have hd : d ≠ 0 := fun z => by obtain ⟨_, z⟩ := ho z; cases z
      refine ⟨_, rfl, a, _, 0, .str (word none), rfl, rfl, SqT.of ha, rfl, rfl, _, rfl, ?_⟩
      rw [w_if, decide_eq_true rfl]
      refine iteT ⟨_, rfl, a, _, 1, _, rfl, rfl, SqT.of ha, rfl, _, rfl, a, _, 2, _, rfl, rfl, SqT.of ha, rfl, _, rfl, a, _, 3, _, rfl, rfl, SqT.of ha, rfl, hd, b, .one o, rfl, hb, ok.2.2, fun _ => ⟨_, rfl⟩, fun H1 r s1 e1 => ?_⟩
      exact fun x dx hx hdx ne => ⟨x, dx, r, m, v, o, rfl, ok.1, ok.2.1, OneAt.ext (same_upd hdx |>.push (by rw [upd_ne (Ne.symm ne)]; exact hx)) e1, upd_same, fun H' hk hp => ⟨rfl, kk H' x (s1.trans (made_same hx hdx hk)) ⟨dx, r, hp, OneAt.ext (made_same hx hdx hk) e1⟩⟩⟩
    | one o =>
      have ha : H a = some (.tup (oneRow o)) := ha
      have fin := init_of (E := E0) (Q := Q) (ok : o.Ok) fun H' r s' h => kk H' r s' h
      refine ⟨_, rfl, a, _, 0, .str (word (some o.k)), rfl, rfl, SqT.of ha, rfl, rfl, _, rfl, ?_⟩
      rw [w_if, decide_eq_false (by simp)]
      refine iteF ⟨_, rfl, a, _, 0, .str (word (some o.k)), rfl, rfl, SqT.of ha, rfl, rfl, _, rfl, ?_⟩
      rw [w_put]
      by_cases c1 : o.k = .put
      · rw [decide_eq_true (by rw [c1])]
        rw [c1] at fin
        exact iteT ⟨_, rfl, a, _, 1, _, rfl, rfl, SqT.of ha, rfl, _, rfl, a, _, 2, _, rfl, rfl, SqT.of ha, rfl, fin⟩
      rw [decide_eq_false (by simpa using c1)]
      refine iteF ⟨_, rfl, a, _, 0, .str (word (some o.k)), rfl, rfl, SqT.of ha, rfl, rfl, _, rfl, ?_⟩
      rw [w_move]
      by_cases c2 : o.k = .move
      · rw [decide_eq_true (by rw [c2])]
        rw [c2] at fin
        exact iteT ⟨_, rfl, a, _, 1, _, rfl, rfl, SqT.of ha, rfl, _, rfl, a, _, 2, _, rfl, rfl, SqT.of ha, rfl, fin⟩
      rw [decide_eq_false (by simpa using c2)]
      refine iteF ⟨_, rfl, a, _, 0, .str (word (some o.k)), rfl, rfl, SqT.of ha, rfl, rfl, _, rfl, ?_⟩
      rw [w_add]
      by_cases c3 : o.k = .add
      · rw [decide_eq_true (by rw [c3])]
        rw [c3] at fin
        exact iteT ⟨_, rfl, a, _, 1, _, rfl, rfl, SqT.of ha, rfl, _, rfl, a, _, 2, _, rfl, rfl, SqT.of ha, rfl, fin⟩
      rw [decide_eq_false (by simpa using c3)]
      refine iteF ⟨_, rfl, a, _, 0, .str (word (some o.k)), rfl, rfl, SqT.of ha, rfl, rfl, _, rfl, ?_⟩
      rw [w_addslot]
      by_cases c4 : o.k = .addslot
      · rw [decide_eq_true (by rw [c4])]
        rw [c4] at fin
        exact iteT ⟨_, rfl, a, _, 1, _, rfl, rfl, SqT.of ha, rfl, _, rfl, a, _, 2, _, rfl, rfl, SqT.of ha, rfl, fin⟩
      rw [decide_eq_false (by simpa using c4)]
      refine iteF ⟨_, rfl, a, _, 0, .str (word (some o.k)), rfl, rfl, SqT.of ha, rfl, rfl, _, rfl, ?_⟩
      rw [w_raise]
      by_cases c5 : o.k = .rais
      · rw [decide_eq_true (by rw [c5])]
        rw [c5] at fin
        exact iteT ⟨_, rfl, a, _, 1, _, rfl, rfl, SqT.of ha, rfl, _, rfl, a, _, 2, _, rfl, rfl, SqT.of ha, rfl, fin⟩
      rw [decide_eq_false (by simpa using c5)]
      have c6 : o.k = .lower := by
        cases h : o.k with
        | put => exact absurd h c1
        | move => exact absurd h c2
        | add => exact absurd h c3
        | addslot => exact absurd h c4
        | rais => exact absurd h c5
        | lower => rfl
      rw [c6] at fin
      exact iteF ⟨_, rfl, a, _, 1, _, rfl, rfl, SqT.of ha, rfl, _, rfl, a, _, 2, _, rfl, rfl, SqT.of ha, rfl, fin⟩
theorem ok_made (T : Txt K mg) : Ok P w K mg base (a__law_made K) ["_law_row"] 6 (spMade K 1) := made_step T 1 5 (by decide) fun _ => made_step T 0 4 (by decide) fun h => (h rfl).elim
end
end OP
namespace OP
open PySem PySem.Spec PyProof.Rows L2
section
variable {P : Program} {w : World} {K : PySem.W.Frag} {mg : Str → Option Value} {base : Heap}
def spAfter (K : PySem.W.Frag) (d : Nat) : Sp := fun vs H Q _ => ∃ (a st : Addr) (c : Chg) (xs : List Int), vs = [.ref a, .ref st] ∧ RowAt H a c ∧ c.Ok ∧ (d = 0 → ∃ o, c = .one o) ∧ H st = some (.tup (xs.map V.int)) ∧ Fits xs.length c ∧ xs.length ≤ 8 ∧
  ∀ H' r, Same H H' → H' r = some (.tup ((c.app xs).map V.int)) → Q (.ref r) H'
theorem sc_after : FnScope ["_law_row", "_law_store", "_law_word", "_law_slot", "_law_value", "_law_late"] ["_law_row", "_law_store"] (defScope s__law_after) := ⟨rfl, rfl, rfl, by decide +kernel, rfl, by decide +kernel, by decide +kernel⟩
theorem one_slot_lt {n : Nat} {o : One} (h : Fits n (.one o)) : o.s < n := by
  have : (o.s : Int) ∈ o.slots := by
    unfold One.slots
    split
    · unfold two
      split
      · exact List.mem_singleton.mpr rfl
      · split
        · exact List.mem_cons_self
        · exact List.mem_cons_of_mem _ List.mem_cons_self
    · exact List.mem_singleton.mpr rfl
  have h2 := h _ this
  omega
theorem one_src_lt {n : Nat} {o : One} (hs : o.k.src = true) (h : Fits n (.one o)) : o.v < n := by
  have : (o.v : Int) ∈ o.slots := by
    unfold One.slots
    rw [if_pos hs]
    unfold two
    split
    · rename_i e
      rw [e]
      exact List.mem_singleton.mpr rfl
    · split
      · exact List.mem_cons_of_mem _ List.mem_cons_self
      · exact List.mem_cons_self
  have h2 := h _ this
  omega
theorem mem_three {s : Nat} {ns : List Int} {z : Int} (h0 : 0 ≤ z) (h2 : z ≤ 2) (h : z = s ∨ z ∈ ns) : z ∈ three s ns := by
  unfold three
  refine List.mem_filter.mpr ⟨List.mem_map.mpr ⟨z.toNat, List.mem_range.mpr (by omega), by omega⟩, decide_eq_true h⟩
theorem slots_le {o : One} (ok : o.Ok) {z : Int} (hz : z ∈ o.slots) : 0 ≤ z ∧ z ≤ 2 := by
  have h1 := ok.s2
  unfold One.slots at hz
  split at hz
  · rename_i hs
    have h2 := ok.v2 hs
    unfold two at hz
    split at hz
    · obtain rfl := List.mem_singleton.mp hz; omega
    · split at hz
      · rcases List.mem_cons.mp hz with rfl | hz
        · omega
        · obtain rfl := List.mem_singleton.mp hz; omega
      · rcases List.mem_cons.mp hz with rfl | hz
        · omega
        · obtain rfl := List.mem_singleton.mp hz; omega
  · obtain rfl := List.mem_singleton.mp hz
    omega
theorem fits_in {n s v : Nat} {o : One} (ok : o.Ok) (h : Fits n (.iff s v o)) : Fits n (.one o) := fun z hz => by
  obtain ⟨h0, h2⟩ := slots_le ok hz
  exact h z (mem_three h0 h2 (.inr hz))
theorem ix_int {xs : List Int} {m : Nat} (h : m < xs.length) : ixN (xs.map V.int).length (m : Int) = some m := by
  unfold ixN
  rw [if_pos (by omega), List.length_map, if_pos (by omega)]
  exact congrArg some (Int.toNat_natCast m)
theorem after_step (T : Txt K mg) (d k : Nat) (GO : d ≠ 0 → Ok P w K mg base (a__law_after K) ["_law_row", "_law_store"] k (spAfter K 0)) : Ok P w K mg base (a__law_after K) ["_law_row", "_law_store"] (k + 1) (spAfter K d) := by
  have GR : Ok P w K mg base (a__law_after K) ["_law_row", "_law_store"] k (fun vs H Q E => d ≠ 0 ∧ spAfter K 0 vs H Q E) := by
    by_cases h0 : d = 0
    · exact (ok_no T.f__law_after (fun _ _ _ _ _ _ us hl => match us, hl with | [_, _], _ => rfl)).imp fun vs H Q E h => (h.1 h0).elim
    · exact (GO h0).imp fun vs H Q E h => h.2
  refine ok_of T.f__law_after sc_after (fun _ _ _ _ _ _ us hl => match us, hl with | [_, _], _ => rfl) (fun vs H Q E h => ?_) (fun cdv A outer s H vs Q E hr h => ?_)
  · obtain ⟨a, st, c, xs, rfl, _⟩ := h
    rfl
  · obtain ⟨a, st, c, xs, rfl, ha, ok, ho, hst, ft, h8, kk⟩ := h
    refine ⟨_, pss_cons (ps_par3 rfl sc_after.nd (i := 2) (j := 3) (l := 4) rfl rfl rfl (by decide) (by decide) (by decide) rfl rfl rfl (pa_cons (pe_ix ix_tup (pv 0) pe_int (fun _ _ => rfl)) (pa_cons (pe_ix ix_tup (pv 0) pe_int (fun _ _ => rfl)) (pa_cons (pe_ix ix_tup (pv 0) pe_int (fun _ _ => rfl)) pa_nil))) (by rfl))
      (pss_cons (ps_if (pt_cmpR op_eq (pv 2) pe_str (nomark _)) (pss_one (ps_ret (pe_ifExp (pt_cmpR op_eq (pe_ix ix_tup (pv 1) (pv 3) (fun _ _ => rfl)) (pv 4) (nomark _)) (pe_c GR hr T.g__law_after (pa_cons (pe_ix ix_tup (pv 0) pe_int (fun _ _ => rfl)) (pa_cons (pv 1) pa_nil))) (pv 1)))) pss_nil)
      (pss_cons (ps_set (i := 5) sc_after.nd rfl (Or.inl rfl) (pe_callTy call_list_of (by rfl) T.z_list (by decide +kernel) (pa_cons (pv 1) pa_nil)))
      (pss_cons (ps_if (pt_cmpR op_eq (pv 2) pe_str (nomark _)) (pss_one (ps_asg (pv 4) (pg_sub (pv 5) (pv 3) set_list)))
        (pss_one (ps_if (pt_cmpR op_eq (pv 2) pe_str (nomark _)) (pss_one (ps_asg (pe_ix ix_tup (pv 1) (pv 4) (fun _ _ => rfl)) (pg_sub (pv 5) (pv 3) set_list)))
        (pss_one (ps_if (pt_cmpR op_eq (pv 2) pe_str (nomark _)) (pss_one (ps_asg (pe_op op_mod (pe_op op_add (pe_ix ix_tup (pv 1) (pv 3) (fun _ _ => rfl)) (pv 4)) pe_int) (pg_sub (pv 5) (pv 3) set_list)))
        (pss_one (ps_if (pt_cmpR op_eq (pv 2) pe_str (nomark _)) (pss_one (ps_asg (pe_op op_mod (pe_op op_add (pe_ix ix_tup (pv 1) (pv 3) (fun _ _ => rfl)) (pe_ix ix_tup (pv 1) (pv 4) (fun _ _ => rfl))) pe_int) (pg_sub (pv 5) (pv 3) set_list)))
        (pss_one (ps_if (pt_cmpR op_eq (pv 2) pe_str (nomark _)) (pss_one (ps_asg (pe_ifExp (pt_cmpR op_gt (pv 4) (pe_ix ix_tup (pv 1) (pv 3) (fun _ _ => rfl)) (nomark _)) (pv 4) (pe_ix ix_tup (pv 1) (pv 3) (fun _ _ => rfl))) (pg_sub (pv 5) (pv 3) set_list)))
        (pss_one (ps_asg (pe_ifExp (pt_cmpR op_lt (pv 4) (pe_ix ix_tup (pv 1) (pv 3) (fun _ _ => rfl)) (nomark _)) (pv 4) (pe_ix ix_tup (pv 1) (pv 3) (fun _ _ => rfl))) (pg_sub (pv 5) (pv 3) set_list))))))))))))
      (pss_one (ps_ret (pe_tupleOf (by rfl) T.z_tuple (pv 5))))))), ?_⟩
    cases c with
    | iff m v o =>
      obtain ⟨b, ha, hb⟩ := ha
      have hd : d ≠ 0 := fun z => by obtain ⟨_, z⟩ := ho z; cases z
      have hm : m < xs.length := by
        have m2 : m ≤ 2 := ok.1
        have : (m : Int) ∈ three m o.slots := mem_three (by omega) (by omega) (.inl rfl)
        have := ft _ this
        omega
      refine ⟨_, rfl, a, _, 0, .str (word none), rfl, rfl, SqT.of ha, rfl, _, rfl, a, _, 1, _, rfl, rfl, SqT.of ha, rfl, _, rfl, a, _, 2, _, rfl, rfl, SqT.of ha, rfl, _, _, _, rfl, ?_⟩
      refine ⟨_, rfl, rfl, _, rfl, ?_⟩
      rw [w_if, decide_eq_true rfl]
      refine iteT ⟨_, rfl, _, rfl, st, _, _, _, rfl, rfl, SqT.of hst, at_int hm, _, rfl, rfl, _, rfl, ?_⟩
      by_cases ev : xs.getD m 0 = (v : Int)
      · rw [decide_eq_true (congrArg V.int ev)]
        refine iteT ⟨_, rfl, a, _, 3, _, rfl, rfl, SqT.of ha, rfl, _, rfl, hd, b, st, .one o, xs, rfl, hb, ok.2.2, fun _ => ⟨_, rfl⟩, hst, fits_in ok.2.2 ft, h8, fun H' r s' e => kk H' r s' ?_⟩
        rw [e]
        show _ = some (HO.tup ((if xs.getD m 0 = (v : Int) then o.app xs else xs).map V.int))
        rw [if_pos ev]
        rfl
      · rw [decide_eq_false (fun z => ev (V.int.inj z))]
        refine iteF ⟨_, rfl, kk H st (Same.refl _) ?_⟩
        show _ = some (HO.tup ((if xs.getD m 0 = (v : Int) then o.app xs else xs).map V.int))
        rw [if_neg ev]
        exact hst
    | one o =>
      have ha : H a = some (.tup (oneRow o)) := ha
      have hs := one_slot_lt ft
      refine ⟨_, rfl, a, _, 0, .str (word (some o.k)), rfl, rfl, SqT.of ha, rfl, _, rfl, a, _, 1, _, rfl, rfl, SqT.of ha, rfl, _, rfl, a, _, 2, _, rfl, rfl, SqT.of ha, rfl, _, _, _, rfl, ?_⟩
      refine ⟨_, rfl, rfl, _, rfl, ?_⟩
      rw [w_if, decide_eq_false (by simp)]
      refine iteF ⟨_, rfl, st, _, rfl, .inr (SqT.of hst), fun l hl => ?_⟩
      have s1 : Same H _ := same_upd (o := .lst (xs.map V.int)) hl
      have endq : ∀ v : Int, v = o.val xs → ∀ q, upd (upd H l (.lst (xs.map V.int))) l (.lst ((xs.map V.int).set o.s (.int v))) q = none →
          Q (.ref q) (upd (upd (upd H l (.lst (xs.map V.int))) l (.lst ((xs.map V.int).set o.s (.int v)))) q (.tup ((xs.map V.int).set o.s (.int v)))) := fun v ev q hq => by
        refine kk _ q (fun b u e => ?_) ?_
        · have bl : b ≠ l := ne_of_none e hl
          have e2 : upd (upd H l (.lst (xs.map V.int))) l (.lst ((xs.map V.int).set o.s (.int v))) b = some u := by rw [upd_ne bl, upd_ne bl]; exact e
          rw [upd_ne (ne_of_none e2 hq)]
          exact e2
        · rw [upd_same]
          show _ = some (HO.tup ((xs.set o.s (o.val xs)).map V.int))
          rw [List.map_set, ev]
      have st1 := s1 _ _ hst
      refine ⟨_, rfl, rfl, _, rfl, ?_⟩
      rw [w_put]
      by_cases c1 : o.k = .put
      · rw [decide_eq_true (by rw [c1])]
        exact iteT ⟨_, rfl, _, rfl, _, rfl, l, _, _, _, rfl, rfl, upd_same, ix_int hs, _, rfl, .inl ⟨l, _, rfl, SqL.of upd_same, endq _ (by unfold One.val; rw [c1])⟩⟩
      rw [decide_eq_false (by simpa using c1)]
      refine iteF ⟨_, rfl, rfl, _, rfl, ?_⟩
      rw [w_move]
      by_cases c2 : o.k = .move
      · rw [decide_eq_true (by rw [c2])]
        have hv := one_src_lt (by rw [c2]; rfl) ft
        exact iteT ⟨_, rfl, _, rfl, st, _, _, _, rfl, rfl, SqT.of st1, at_int hv, _, rfl, _, rfl, l, _, _, _, rfl, rfl, upd_same, ix_int hs, _, rfl, .inl ⟨l, _, rfl, SqL.of upd_same, endq _ (by unfold One.val; rw [c2])⟩⟩
      rw [decide_eq_false (by simpa using c2)]
      refine iteF ⟨_, rfl, rfl, _, rfl, ?_⟩
      rw [w_add]
      by_cases c3 : o.k = .add
      · rw [decide_eq_true (by rw [c3])]
        exact iteT ⟨_, rfl, _, rfl, st, _, _, _, rfl, rfl, SqT.of st1, at_int hs, _, rfl, _, _, rfl, rfl, _, _, rfl, rfl, (show (0 : Int) < 8 by decide), _, rfl, _, rfl, l, _, _, _, rfl, rfl, upd_same, ix_int hs, _, rfl, .inl ⟨l, _, rfl, SqL.of upd_same, endq _ (by unfold One.val; rw [c3])⟩⟩
      rw [decide_eq_false (by simpa using c3)]
      refine iteF ⟨_, rfl, rfl, _, rfl, ?_⟩
      rw [w_addslot]
      by_cases c4 : o.k = .addslot
      · rw [decide_eq_true (by rw [c4])]
        have hv := one_src_lt (by rw [c4]; rfl) ft
        exact iteT ⟨_, rfl, _, rfl, st, _, _, _, rfl, rfl, SqT.of st1, at_int hs, _, rfl, _, rfl, st, _, _, _, rfl, rfl, SqT.of st1, at_int hv, _, _, rfl, rfl, _, _, rfl, rfl, (show (0 : Int) < 8 by decide), _, rfl, _, rfl, l, _, _, _, rfl, rfl, upd_same, ix_int hs, _, rfl, .inl ⟨l, _, rfl, SqL.of upd_same, endq _ (by unfold One.val; rw [c4])⟩⟩
      rw [decide_eq_false (by simpa using c4)]
      refine iteF ⟨_, rfl, rfl, _, rfl, ?_⟩
      rw [w_raise]
      by_cases c5 : o.k = .rais
      · rw [decide_eq_true (by rw [c5])]
        refine iteT ⟨_, rfl, _, rfl, _, rfl, st, _, _, _, rfl, rfl, SqT.of st1, at_int hs, _, _, rfl, rfl, _, rfl, ?_⟩
        by_cases cv : xs.getD o.s 0 < (o.v : Int)
        · rw [decide_eq_true cv]
          exact iteT ⟨_, rfl, _, rfl, _, rfl, l, _, _, _, rfl, rfl, upd_same, ix_int hs, _, rfl, .inl ⟨l, _, rfl, SqL.of upd_same, endq _ (by unfold One.val; rw [c5]; exact (if_pos cv).symm)⟩⟩
        · rw [decide_eq_false cv]
          exact iteF ⟨_, rfl, _, rfl, st, _, _, _, rfl, rfl, SqT.of st1, at_int hs, _, rfl, _, rfl, l, _, _, _, rfl, rfl, upd_same, ix_int hs, _, rfl, .inl ⟨l, _, rfl, SqL.of upd_same, endq _ (by unfold One.val; rw [c5]; exact (if_neg cv).symm)⟩⟩
      rw [decide_eq_false (by simpa using c5)]
      have c6 : o.k = .lower := by
        cases h : o.k with
        | put => exact absurd h c1
        | move => exact absurd h c2
        | add => exact absurd h c3
        | addslot => exact absurd h c4
        | rais => exact absurd h c5
        | lower => rfl
      refine iteF ⟨_, rfl, _, rfl, _, rfl, st, _, _, _, rfl, rfl, SqT.of st1, at_int hs, _, _, rfl, rfl, _, rfl, ?_⟩
      by_cases cv : (o.v : Int) < xs.getD o.s 0
      · rw [decide_eq_true cv]
        exact iteT ⟨_, rfl, _, rfl, _, rfl, l, _, _, _, rfl, rfl, upd_same, ix_int hs, _, rfl, .inl ⟨l, _, rfl, SqL.of upd_same, endq _ (by unfold One.val; rw [c6]; exact (if_pos cv).symm)⟩⟩
      · rw [decide_eq_false cv]
        exact iteF ⟨_, rfl, _, rfl, st, _, _, _, rfl, rfl, SqT.of st1, at_int hs, _, rfl, _, rfl, l, _, _, _, rfl, rfl, upd_same, ix_int hs, _, rfl, .inl ⟨l, _, rfl, SqL.of upd_same, endq _ (by unfold One.val; rw [c6]; exact (if_neg cv).symm)⟩⟩
theorem ok_after (T : Txt K mg) : Ok P w K mg base (a__law_after K) ["_law_row", "_law_store"] 2 (spAfter K 1) := after_step T 1 1 fun _ => after_step T 0 0 fun h => (h rfl).elim
end
end OP
namespace OP
open PySem PySem.Spec PyProof.Rows L2
section
variable {P : Program} {w : World} {K : PySem.W.Frag} {mg : Str → Option Value} {base : Heap}
/-! ### what was drawn: slots, stores, rows -/
abbrev Rws := List (Str × Addr × Chg)
def RowsAt (H : Hp) (L : Rws) : Prop := ∀ p ∈ L, RowAt H p.2.1 p.2.2
theorem RowsAt.kp {H H' : Hp} {L : Rws} (k : Keep H H') (h : RowsAt H L) : RowsAt H' L := fun p hp => (h p hp).kp k
/-- a tuple of slots, stores and rows -/
structure DrAt (H : Hp) (t : Addr) (n : Nat) (S : Sts) (L : Rws) : Prop where
  ob : ∃ l d, H t = some (.tup [.int n, .ref l, .ref d]) ∧ H l = some (.lst (refs S)) ∧ H d = some (.dK (kvs L))
  sts : StsAt H S
  rows : RowsAt H L
theorem StsAt.kp {H H' : Hp} {S : Sts} (k : Keep H H') (h : StsAt H S) : StsAt H' S := fun p hp => k.tup (h p hp)
theorem DrAt.kp {H H' : Hp} {t : Addr} {n : Nat} {S : Sts} {L : Rws} (k : Keep H H') (h : DrAt H t n S L) : DrAt H' t n S L := by
  obtain ⟨⟨l, d, h1, h2, h3⟩, h4, h5⟩ := h
  exact ⟨⟨l, d, k.tup h1, k _ _ (notSt_refs _ S) h2, k.dK h3⟩, h4.kp k, h5.kp k⟩
def appL (L : Rws) (ys : List Str) (xs : List Int) : List Int := appAll L ys xs
def spLEnd (K : PySem.W.Frag) : Sp := fun vs H Q _ => ∃ (t st o : Addr) (n : Nat) (S : Sts) (L : Rws) (xs : List Int) (ys : List Str), vs = [.ref t, .ref st, .ref o] ∧ DrAt H t n S L ∧ WOk n S L ∧ H st = some (.tup (xs.map V.int)) ∧ StoreOk xs ∧ xs.length = n ∧ H o = some (.lst (ys.map V.str)) ∧ ys.length ≤ 4 ∧ (∀ y ∈ ys, y ∈ names L) ∧
  ∀ H' r, Same H H' → H' r = some (.tup ((appAll L ys xs).map V.int)) → Q (.ref r) H'
theorem sc_lend : FnScope ["_law_drawn_here", "_law_store", "_law_order", "_law_name"] ["_law_drawn_here", "_law_store", "_law_order"] (defScope s__law_end) := ⟨rfl, rfl, rfl, by decide +kernel, rfl, by decide +kernel, by decide +kernel⟩
theorem ok_lend (T : Txt K mg) : Ok P w K mg base (a__law_end K) ["_law_drawn_here", "_law_store", "_law_order"] 3 (spLEnd K) := by
  have GA : Ok P w K mg base (a__law_after K) _ 2 (spAfter K 1) := ok_after T
  refine ok_of T.f__law_end sc_lend (fun _ _ _ _ _ _ us hl => match us, hl with | [_, _, _], _ => rfl) (fun vs H Q E h => ?_) (fun cdv A outer s0 H vs Q E hr h => ?_)
  · obtain ⟨t, st, o, n, S, L, xs, ys, rfl, _⟩ := h
    rfl
  · obtain ⟨t, st, o, n, S, L, xs, ys, rfl, D, ok, hst, sx, hn, ho, h4, hin, kk⟩ := h
    obtain ⟨⟨l, d, ht, hl, hd⟩, _, hL⟩ := id D
    refine ⟨_, pss_cons (ps_for PassesOwn.never rfl (pi_list (pv 2)) (pg_name (i := 3) sc_lend.nd rfl (Or.inl rfl)) (pss_one (ps_set (i := 1) sc_lend.nd rfl (Or.inl rfl) (pe_c GA hr T.g__law_after (pa_cons (pe_dget (hu_of hr) (pe_ix ix_tup (pv 0) pe_int (fun _ _ => rfl)) (pv 3) (fun _ _ => rfl)) (pa_cons (pv 1) pa_nil))))))
      (pss_one (ps_ret (pv 1))), ?_⟩
    have hm : (ys.map V.str).length = ys.length := List.length_map ..
    refine ⟨_, rfl, o, rfl, ⟨_, SqL.of ho⟩, for_list (K := K) (a := o) (xs := ys.map V.str) (fun i σ H' => ∃ r v zs, σ = [some (.ref t), some (.ref r), some (.ref o), v] ∧ Same H H' ∧ zs = appAll L (ys.take i) xs ∧ StoreOk zs ∧ zs.length = n ∧ H' r = some (.tup (zs.map V.int)))
      ⟨st, none, xs, rfl, Same.refl _, rfl, sx, hn, hst⟩ (fun i σ H' _ q => ?_) (fun i x σ H' hx q => ?_) fun σ H' q => ?_⟩
    · obtain ⟨_, _, _, _, s3, _⟩ := q
      exact SqL.of (s3 _ _ ho)
    · obtain ⟨r, v, zs, rfl, s3, ez, sz, hz, hr'⟩ := q
      obtain ⟨y, hy, rfl⟩ := strs_at' hx
      obtain ⟨j, hj, rfl⟩ := mem_names (hin y (List.mem_of_getElem? hy))
      have mem : L[j] ∈ L := List.getElem_mem hj
      have ch := ok.chgs.chg _ mem
      have hlt : ∀ z ∈ L[j].2.2.slots, z < (zs.length : Int) := fun z h => by rw [hz]; exact ch.2 z h
      refine ⟨_, rfl, t, _, 2, _, rfl, rfl, SqT.of (s3 _ _ ht), rfl, _, rfl, d, V.ref L[j].2.1, rfl, .inl ⟨kvs L, Sum.inr L[j].1, .inl (s3 _ _ hd), rfl, (valV_kvs ok.chgs.nd hj).symm⟩, _, rfl, L[j].2.1, r, L[j].2.2, zs, rfl, (hL _ mem).kp (Keep.of s3), ch.1, fun z => (by cases z), hr', hlt, by rw [hz]; have := ok.n3; omega, fun H4 r2 s4 e4 => ?_⟩
      have ap := Chg.app_ok ch.1 sz hlt
      refine ⟨r2, _, L[j].2.2.app zs, rfl, s3.trans s4, ?_, ap.1, ap.2.trans hz, e4⟩
      rw [ez, List.take_add_one, hy]
      unfold appAll
      rw [List.foldl_append]
      show _ = (chgOf L L[j].1).app _
      rw [chgOf_at ok.chgs.nd hj]
    · obtain ⟨r, v, zs, rfl, s3, ez, sz, hz, hr'⟩ := q
      refine ⟨_, rfl, kk H' r s3 ?_⟩
      rw [hr', ez, hm, List.take_length]
end
end OP
namespace OP
open PySem PySem.Spec PyProof.Rows L2
def prefs (Z : Prs') : List V := (Z.map (·.1)).map V.ref
section
variable {P : Program} {w : World} {K : PySem.W.Frag} {mg : Str → Option Value} {base : Heap}
def spLWorld (K : PySem.W.Frag) : Sp := fun vs H Q _ => ∃ (t : Addr) (n : Nat) (S : Sts) (L : Rws), vs = [.ref t] ∧ DrAt H t n S L ∧ WOk n S L ∧ ∀ H' p (M : Ncs), Same H H' → WorldAt K H' p n S M → nc M = nc L → Q (.ref p) H'
theorem sc_lworld : FnScope ["_law_drawn_here", "_law_name"] ["_law_drawn_here"] (defScope s__law_world) := ⟨rfl, rfl, rfl, by decide +kernel, rfl, by decide +kernel, by decide +kernel⟩
theorem ok_lworld (T : Txt K mg) : Ok P w K mg base (a__law_world K) ["_law_drawn_here"] 9 (spLWorld K) := by
  have GM : Ok P w K mg base (a__law_made K) _ 6 (spMade K 1) := ok_made T
  have GW : Ok P w K mg base (a_World_init K) _ 7 (spWInit K) := ok_World_init T
  refine ok_of T.f__law_world sc_lworld (fun _ _ _ _ _ _ us hl => match us, hl with | [_], _ => rfl) (fun vs H Q E h => ?_) (fun cdv A outer s0 H vs Q E hr h => ?_)
  · obtain ⟨t, n, S, L, rfl, _⟩ := h
    rfl
  · obtain ⟨t, n, S, L, rfl, D, ok, kk⟩ := h
    obtain ⟨⟨l, d, ht, hl, hd⟩, hS, hL⟩ := id D
    have hr6 : Room 6 _ := hr.mono (by decide)
    refine ⟨_, pss_one (ps_ret (pe_mkc T.mk_World GW hr T.g_World (pa_cons (pe_ix ix_tup (pv 0) pe_int (fun _ _ => rfl)) (pa_cons (pe_ix ix_tup (pv 0) pe_int (fun _ _ => rfl)) (pa_cons (pe_callTy (call_dictP rfl) (by rfl) T.z_dict (by decide +kernel) (pa_cons (pe_lock (pe_lc (own := [("_law_name", 1)]) (g := gName 1) (tt := tYes) rfl sc_lworld.nd (pi_keys (pe_ix ix_tup (pv 0) pe_int (fun _ _ => rfl))) (blkOk_by (own := [("_law_name", 1)]) (N := ["_law_drawn_here", "_law_name"]) (sc := defScope s__law_world) (by decide +kernel))
      (fun _ _ _ _ _ => pg_name (i := 1) sc_lworld.nd rfl (Or.inl rfl)) (fun _ _ _ _ _ => pts_nil)
      (fun _ _ _ _ _ => pe_tup (pa_cons (pv 1) (pa_cons (pe_c GM hr6 T.g__law_made (pa_cons (pe_dget (hu_of hr) (pe_ix (ix_tupK K) (pv 0) pe_int (fun _ _ => rfl)) (pv 1) (fun _ _ => rfl)) pa_nil)) pa_nil))))) pa_nil)) pa_nil))))), ?_⟩
    refine ⟨_, rfl, t, _, 0, _, rfl, rfl, SqT.of ht, rfl, _, rfl, t, _, 1, _, rfl, rfl, SqT.of ht, rfl, d, _, hd, trivial, fun od => ?_⟩
    have nt : t ≠ d := fun z => by rw [z, hd] at ht; cases ht
    have nl : l ≠ d := fun z => by rw [z, hd] at hl; cases hl
    generalize hH : upd H d (.frz od (.dK (kvs L))) = H1
    have o1 : ∀ b u, b ≠ d → H b = some u → H1 b = some u := fun b u hb e => by rw [← hH, upd_ne hb]; exact e
    have hd1 : H1 d = some (.frz od (.dK (kvs L))) := by rw [← hH, upd_same]
    have ht1 := o1 _ _ nt ht
    have rows1 : RowsAt H1 L := fun p hp => by
      have h := hL p hp
      cases hc : p.2.2 with
      | one o =>
        rw [hc] at h
        have h : H p.2.1 = some (.tup (oneRow o)) := h
        exact o1 _ _ (fun z => by rw [← z, h] at hd; cases hd) h
      | iff s v o =>
        rw [hc] at h
        obtain ⟨b, h1, h2⟩ := h
        exact ⟨b, o1 _ _ (fun z => by rw [← z, h1] at hd; cases hd) h1, o1 _ _ (fun z => by rw [← z, h2] at hd; cases hd) h2⟩
    refine ⟨_, rfl, t, _, 2, _, rfl, rfl, SqT.of ht1, rfl, d, od, rfl, .inl ⟨kvs L, hd1, fun D' hD => ?_⟩⟩
    have nd := ok.chgs.nd
    refine lc_it walk_keys (fun i H' => ∃ Z : Prs', Same H1 H' ∧ H' D' = some (.lst (prefs Z)) ∧ MsAt K H' Z ∧ Z.map (fun q => (q.2.1, q.2.2.2)) = nc (L.take i)) ⟨[], same_upd hD, upd_same, (fun q hq => absurd hq List.not_mem_nil), rfl⟩ (fun i H' _ q => ?_) (fun i x H6 H7 hi q y => ?_) (fun H6 q => ?_)
    · obtain ⟨Z, s6, _⟩ := q
      exact s6 _ _ hd1
    · obtain ⟨Z, s6, hDZ, mZ, eZ⟩ := q
      obtain ⟨rfl, kx, vv, ekv, rfl⟩ := y
      have hiL : i < L.length := by rw [kvs_len] at hi; exact hi
      rw [kvs_at hiL] at ekv
      cases ekv
      have mem : L[i] ∈ L := List.getElem_mem hiL
      refine ⟨rfl, tyes (iteT ⟨_, rfl, _, rfl, t, _, 2, _, rfl, rfl, SqT.of (s6 _ _ ht1), rfl, _, rfl, d, V.ref L[i].2.1, rfl, .inl ⟨kvs L, Sum.inr L[i].1, .inr ⟨od, s6 _ _ hd1⟩, rfl, (valV_kvs nd hiL).symm⟩, L[i].2.1, L[i].2.2, rfl, (rows1 _ mem).kp (Keep.of s6), (ok.chgs.chg _ mem).1, fun z => (by cases z), fun H8 r s8 e8 => ?_⟩)⟩
      refine ⟨(by show 2 ≤ sizeLine; decide), fun q hq => ?_⟩
      have s9 : Same H8 _ := same_upd (o := .tup [V.str L[i].1, V.ref r]) hq
      have hD9 := s9 _ _ (s8 _ _ hDZ)
      have lz : (prefs Z).length = i := by
        have h1 : (prefs Z).length = (Z.map (fun q => (q.2.1, q.2.2.2))).length := by unfold prefs; rw [List.length_map, List.length_map, List.length_map]
        rw [h1, eZ, nc_len, List.length_take]
        omega
      refine ⟨_, hD9, small1000 (by rw [lz]; have := ok.chgs.hi; omega), Z ++ [(q, L[i].1, r, L[i].2.2)], fun b u e => ?_, ?_, ?_, ?_⟩
      · rw [upd_ne (ne_of_none e hD)]
        exact s9 _ _ (s8 _ _ (s6 _ _ e))
      · rw [upd_same]
        unfold prefs
        rw [List.map_append, List.map_append] <;> rfl
      · exact ((mZ.ext (s8.trans s9)).snoc upd_same (e8.ext s9)).upd hD9
      · rw [List.map_append, eZ]
        have e6 : L.take (i + 1) = L.take i ++ [L[i]] := by rw [List.take_add_one, List.getElem?_eq_getElem hiL] <;> rfl
        rw [e6]
        unfold nc
        rw [List.map_append] <;> rfl
    · obtain ⟨Z, s6, hDZ, mZ, eZ⟩ := q
      rw [kvs_len, List.take_length] at eZ
      refine ⟨s6 _ _ hd1, ?_⟩
      -- unlocked
      have sU : Same H (upd H6 d (.dK (kvs L))) := lock_same hd (by rw [hH]; exact s6)
      have nDd : D' ≠ d := fun z => by rw [z, hd1] at hD; cases hD
      have hD6 : upd H6 d (.dK (kvs L)) D' = some (.lst (prefs Z)) := by rw [upd_ne nDd]; exact hDZ
      have m6 : MsAt K (upd H6 d (.dK (kvs L))) Z := fun q hq => by
        have hf := s6 _ _ hd1
        refine ⟨?_, (mZ q hq).2.upd hf (fun _ _ _ z => by cases z)⟩
        rw [upd_ne (fun z => by have h1 := (mZ q hq).1; rw [z, hf] at h1; cases h1)]
        exact (mZ q hq).1
      generalize upd H6 d (.dK (kvs L)) = H7 at sU hD6 m6
      have eM : nc (Z.map (·.2)) = nc L := by
        rw [← eZ]
        unfold nc
        rw [List.map_map] <;> rfl
      have okM := ok.chgs.twin eM
      refine ⟨D', Z.map (fun q : Addr × Str × Addr × Chg => q.1), kvs (Z.map (fun q : Addr × Str × Addr × Chg => q.2)), rfl, SqL.of hD6, paired_of m6, fun p hp => ?_⟩
      have em : mergeK [] (kvs (Z.map (·.2))) = kvs (Z.map (·.2)) := by
        have := merge_new [] (Z.map (·.2)) (by rw [List.nil_append]; exact okM.nd)
        rw [List.nil_append] at this
        exact this
      rw [em]
      have s8 : Same H7 _ := same_upd (o := .dK (kvs (Z.map (·.2)))) hp
      have hp8 : upd H7 p (.dK (kvs (Z.map (·.2)))) p = _ := upd_same
      generalize upd H7 p (.dK (kvs (Z.map (·.2)))) = H8 at s8 hp8
      have sU8 := sU.trans s8
      intro x dx hx hdx ne
      have s9 : Same H8 (upd (upd H8 dx (.own x)) x (.ins (c_World K) dx [])) := (same_upd hdx).push (by rw [upd_ne (Ne.symm ne)]; exact hx)
      refine ⟨x, dx, l, p, n, S, Z.map (fun q : Addr × Str × Addr × Chg => q.2), rfl, ⟨ok.n1, ok.n3, ok.sts, okM⟩, upd_same, s9 _ _ (sU8 _ _ hl), (hS.ext sU8).ext s9, s9 _ _ hp8, fun q hq => ?_, fun H' hk W => ⟨rfl, kk H' x _ (sU8.trans (made_same hx hdx hk)) W eM⟩⟩
      obtain ⟨y, hy, rfl⟩ := List.mem_map.mp hq
      exact ((m6 y hy).2.ext s8).ext s9
end
end OP
namespace OP
open PySem PySem.Spec PyProof.Rows L2
theorem room65 {k : Nat} {A : Around} (r : Room k A) : A.units + 65 < cLine := by have := r.un; omega
theorem Keep.new {H0 H1 : Hp} (k : Keep H0 H1) {l : Addr} (hl : H1 l = none) : ∀ a u, NotSt u → H0 a = some u → a ≠ l := fun a u n e z => by
  have := k a u n e
  rw [z, hl] at this
  cases this
theorem Keep.upd {H0 H : Hp} {l : Addr} {x : HO} (k : Keep H0 H) (hl : ∀ a u, NotSt u → H0 a = some u → a ≠ l) : Keep H0 (upd H l x) := fun a u n e => by
  rw [upd_ne (hl a u n e)]
  exact k a u n e
/-- a list of drawn numbers -/
theorem lcR_ints {K : PySem.W.Frag} {n : Nat} {D st sc : Addr} {te : TE} {j : Nat} {σ : L2.St} {H1 : Hp} {Qd : Hp → Prop} (hD : H1 D = none) (hst : StAt K sc H1 st) (hsz : n ≤ 1000)
    (hs : ∀ (i : Nat) H (Qe : VK), Keep H1 H → StAt K sc H st → (∀ (v : Int) H', Keep H H' → StAt K sc H' st → 0 ≤ v → v ≤ 7 → Qe (.int v) H') → te ((wipe σ [j]).set j (some (.int (0 + (i : Int))))) H Qe)
    (hd : ∀ H (xs : List Int), Keep H1 H → StAt K sc H st → H D = some (.lst (xs.map V.int)) → xs.length = n → (∀ x ∈ xs, 0 ≤ x ∧ x ≤ 7) → Qd H)
    (hw : ∀ x, wipe ((wipe σ [j]).set j (some x)) [j] = wipe σ [j] := by intro _; rfl) : LcOk (Itr 0 n) (gName j) tYes te [j] σ H1 D Qd := by
  obtain ⟨n1, n2⟩ := hst.ne hD
  refine lc_it walk_range (fun i H => ∃ xs : List Int, Keep H1 H ∧ StAt K sc H st ∧ H D = some (.lst (xs.map V.int)) ∧ xs.length = i ∧ ∀ x ∈ xs, 0 ≤ x ∧ x ≤ 7) ⟨[], Keep.of (same_upd hD), hst.off n1 n2, upd_same, rfl, fun x hx => by cases hx⟩ (fun _ _ _ _ => trivial) (fun i x H H' hi q y => ?_) (fun H q => ?_)
  · obtain ⟨rfl, rfl⟩ := y
    obtain ⟨xs, k1, s1, e1, l1, b1⟩ := q
    refine ⟨hw _, tyes (iteT ?_)⟩
    refine hs i H' _ k1 s1 fun v H4 k4 s4 h0 h7 => ?_
    refine ⟨_, k4.ints e1, small1000 (by rw [List.length_map]; omega), xs ++ [v], ?_, s4.off n1 n2, ?_, by rw [List.length_append, l1] <;> rfl, fun z hz => ?_⟩
    · exact (k1.trans k4).upd ((Keep.refl H1).new hD)
    · rw [upd_same, List.map_append] <;> rfl
    · rcases List.mem_append.mp hz with z1 | z1
      · exact b1 z z1
      · obtain rfl := List.mem_singleton.mp z1
        exact ⟨h0, h7⟩
  · obtain ⟨xs, k1, s1, e1, l1, b1⟩ := q
    exact hd H xs k1 s1 e1 l1 b1
def allNames : List Str := ["up", "b", "c", "a"]
theorem any_eqv (S : List (List Int)) (xs : List Int) : ((S.map dT).any fun z => PyData.eqv z (dT xs)) = decide (xs ∈ S) := by
  induction S with
  | nil => rfl
  | cons y S ih =>
    rw [List.map_cons, List.any_cons, ih, eqv_T]
    by_cases h : y = xs
    · rw [decide_eq_true h, Bool.true_or, decide_eq_true (by rw [h]; exact List.mem_cons_self)]
    · rw [decide_eq_false h, Bool.false_or]
      refine decide_eq_decide.mpr ⟨fun z => List.mem_cons_of_mem _ z, fun z => ?_⟩
      rcases List.mem_cons.mp z with z | z
      · exact absurd z.symm h
      · exact z
theorem all_ok : ∀ x ∈ allNames, 1 ≤ x.length ∧ x.length ≤ 8 ∧ ∀ c ∈ x.cps.toList, c ∈ ("abcdefghijklmnopqrstuvwxyz" : Str).cps.toList := by decide +kernel
theorem all_nd : allNames.Nodup := by decide +kernel
section
variable {P : Program} {w : World} {K : PySem.W.Frag} {mg : Str → Option Value} {base : Heap} {sc : Addr}
def spDrawn (K : PySem.W.Frag) (sc : Addr) : Sp := fun vs H Q _ => ∃ (st : Addr), vs = [.ref st, .int 4] ∧ StAt K sc H st ∧
  ∀ H' t n S L m, Keep H H' → StAt K sc H' st → DrAt H' t n S L → WOk n S L → n ≤ 2 → 2 ≤ m → m ≤ 4 → names L = allNames.take m → Q (.ref t) H'
abbrev dNames : List Str := ["_law_state", "_law_most", "_law_slots", "_law_stores", "_law_rows", "_law_turn", "_law_store", "_law_at", "_law_name"]
theorem sc_drawn : FnScope dNames ["_law_state", "_law_most"] (defScope s__law_drawn) := ⟨rfl, rfl, rfl, by decide +kernel, rfl, by decide +kernel, by decide +kernel⟩
theorem ok_drawn (T : Txt K mg) : Ok P w K mg base (a__law_drawn K) ["_law_state", "_law_most"] 8 (spDrawn K sc) := by
  have GN : Ok P w K mg base (a__law_next K) _ 3 (spNext K sc) := ok_next T
  have GP : Ok P w K mg base (a__law_pick K) _ 4 (spPick K sc) := ok_pick T
  have GC : Ok P w K mg base (a__law_change K) _ 7 (spRow K sc 1) := ok_row1 T
  refine ok_of T.f__law_drawn sc_drawn (fun _ _ _ _ _ _ us hl => match us, hl with | [_, _], _ => rfl) (fun vs H Q E h => ?_) (fun cdv A outer s0 H vs Q E hr h => ?_)
  · obtain ⟨st, rfl, _⟩ := h
    rfl
  · obtain ⟨st, rfl, hst, kk⟩ := h
    have hr3 : Room 3 _ := hr.mono (by decide)
    have hr4 : Room 4 _ := hr.mono (by decide)
    have hu : _ + 65 < cLine := room65 hr
    refine ⟨_, pss_cons (ps_set (i := 2) sc_drawn.nd rfl (Or.inl rfl) (pe_op op_add pe_int (pe_c GN hr3 T.g__law_next (pa_cons (pv 0) (pa_cons pe_int pa_nil)))))
      (pss_cons (ps_par rfl sc_drawn.nd (i := 3) (j := 4) rfl rfl (by decide) rfl rfl (pa_cons (pe_lst pa_nil) (pa_cons pe_dnewK pa_nil)) (by rfl))
      (pss_cons (ps_for PassesOwn.never rfl (pi_range1 (by rfl) T.z_range (pa_cons (pe_op op_add pe_int (pe_c GN hr3 T.g__law_next (pa_cons (pv 0) (pa_cons pe_int pa_nil)))) pa_nil)) (pg_name (i := 5) sc_drawn.nd rfl (Or.inl rfl))
        (pss_cons (ps_set (i := 6) sc_drawn.nd rfl (Or.inl rfl) (pe_tupleOf (by rfl) T.z_tuple (pe_lc (own := [("_law_at", 7)]) (g := gName 7) (tt := tYes) rfl sc_drawn.nd (pi_range1 (by rfl) T.z_range (pa_cons (pv 2) pa_nil)) (blkOk_by (own := [("_law_at", 7)]) (N := dNames) (sc := defScope s__law_drawn) (by decide +kernel))
          (fun _ _ _ _ _ => pg_name (i := 7) sc_drawn.nd rfl (Or.inl rfl)) (fun _ _ _ _ _ => pts_nil)
          (fun _ _ _ _ _ => pe_c GP hr4 T.g__law_pick (pa_cons (pv 0) (pa_cons (pe_lst (pa_cons pe_int (pa_cons pe_int (pa_cons (pe_c GN hr3 T.g__law_next (pa_cons (pv 0) (pa_cons pe_int pa_nil))) pa_nil)))) pa_nil))))))
        (pss_one (ps_if (pt_cmpR (op_notInD hu) (pv 6) (pv 3) (by rfl)) (pss_one (ps_expr (pe_bm PySem.F.plainAttrs_list PySem.F.slot_list_append PySem.F.type_list_append mt_append (pv 3) (pa_cons (pv 6) pa_nil)))) pss_nil))))
      (pss_cons (ps_for PassesOwn.never rfl (pi_list (pe_slice sl_list (pe_lst (pa_cons pe_str (pa_cons pe_str (pa_cons pe_str (pa_cons pe_str pa_nil))))) po_none (po_some (pe_op op_add pe_int (pe_c GN hr3 T.g__law_next (pa_cons (pv 0) (pa_cons (pe_op op_sub (pv 1) pe_int) pa_nil))))))) (pg_name (i := 8) sc_drawn.nd rfl (Or.inl rfl))
        (pss_one (ps_dput (hu_of hr) (pv 4) (pv 8) (pe_c GC hr T.g__law_change (pa_cons (pv 0) (pa_cons (pv 2) (pa_cons pe_int pa_nil)))) rfl)))
      (pss_one (ps_ret (pe_tup (pa_cons (pv 2) (pa_cons (pv 3) (pa_cons (pv 4) pa_nil))))))))), ?_⟩
    refine ⟨_, rfl, st, 2, rfl, by decide, hst, fun H1 k1 st1 v1 a1 b1 => ⟨_, _, rfl, rfl, ?_⟩⟩
    obtain ⟨n, en⟩ := nat_of (v := 1 + v1) (by omega)
    have hn1 : 1 ≤ n := by omega
    have hn2 : n ≤ 2 := by omega
    show tSeq _ _ _ (((L2.start dNames [.ref st, .int 4]).set 2 (some (V.int (1 + v1))))) H1
    rw [en]
    refine ⟨(by show 0 ≤ sizeLine; exact Nat.zero_le _), fun l hl => fun d hd => ⟨_, _, rfl, ?_⟩⟩
    have s1 : Same H1 _ := same_upd (o := .lst []) hl
    have dl : d ≠ l := fun z => by rw [z, upd_same] at hd; cases hd
    have hd1 : H1 d = none := by rw [upd_ne dl] at hd; exact hd
    obtain ⟨l1, l2⟩ := st1.ne hl
    obtain ⟨d1, d2⟩ := st1.ne hd1
    have newl := k1.new hl
    have newd := k1.new hd1
    have s2 : Same H1 (upd (upd H1 l (.lst [])) d (.dK [])) := s1.push hd
    have hl2 : upd (upd H1 l (.lst [])) d (.dK []) l = some (.lst []) := by rw [upd_ne (Ne.symm dl), upd_same]
    have hd2 : upd (upd H1 l (.lst [])) d (.dK []) d = some (.dK []) := upd_same
    have k2 : Keep H (upd (upd H1 l (.lst [])) d (.dK [])) := k1.trans (Keep.of s2)
    have st2 := st1.ext s2
    generalize upd (upd H1 l (.lst [])) d (.dK []) = H2 at hl2 hd2 k2 st2
    refine ⟨_, rfl, st, 3, rfl, by decide, st2, fun H3 k3 st3 v3 a3 b3 => ⟨_, _, rfl, rfl, 1 + v3, rfl, by omega, by omega, ?_⟩⟩
    refine for_range (fun i σ H' => i ≤ (1 + v3).toNat ∧ ∃ (S : Sts) (v5 v6 : Option V), σ = [some (.ref st), some (.int 4), some (.int n), some (.ref l), some (.ref d), v5, v6, none, none] ∧ Keep H H' ∧ StAt K sc H' st ∧ H' l = some (.lst (refs S)) ∧ H' d = some (.dK []) ∧ StsAt H' S ∧ (∀ p ∈ S, StoreOk p.2 ∧ p.2.length = n) ∧ (S.map (·.2)).Nodup ∧ S.length ≤ i ∧ (1 ≤ i → 1 ≤ S.length))
      ⟨Nat.zero_le _, [], none, none, rfl, k2.trans k3, st3, k3 _ _ (fun _ _ _ z => by cases z) hl2, k3.dK hd2, (fun p hp => absurd hp List.not_mem_nil), (fun p hp => absurd hp List.not_mem_nil), List.nodup_nil, Nat.le_refl _, fun z => by omega⟩ (fun i σ H4 hi q => ?_) fun σ H4 q => ?_
    · obtain ⟨_, S, v5, v6, rfl, k4, st4, hl4, hd4, hS4, each, nd, len, pos⟩ := q
      refine ⟨_, rfl, n, rfl, by omega, by omega, fun D hD => ?_⟩
      refine lcR_ints (K := K) (st := st) (sc := sc) hD st4 (by omega) (fun j H5 Qe k5 st5 kq => ?_) fun H5 xs k5 st5 e5 len5 bd5 => ?_
      · refine ⟨_, rfl, _, rfl, st, 8, rfl, by decide, st5, fun H6 k6 st6 v6 a6 b6 => ⟨(by show 3 ≤ sizeLine; decide), fun t6 ht6 => ?_⟩⟩
        have s7 : Same H6 _ := same_upd (o := .lst [.int 0, .int 1, .int v6]) ht6
        refine ⟨st, t6, [.int 0, .int 1, .int v6], rfl, List.cons_ne_nil _ _, st6.ext s7, upd_same, notSt_ints [0, 1, v6], fun H8 k8 st8 x hx => ?_⟩
        have k58 := (k6.trans (Keep.of s7)).trans k8
        simp only [List.mem_cons, List.not_mem_nil, or_false] at hx
        rcases hx with rfl | rfl | rfl
        · exact kq 0 H8 k58 st8 (by decide) (by decide)
        · exact kq 1 H8 k58 st8 (by decide) (by decide)
        · exact kq v6 H8 k58 st8 a6 (by omega)
      · refine .inl ⟨D, _, rfl, SqL.of e5, fun q hq => ?_⟩
        have s6 : Same H5 _ := same_upd (o := .tup (xs.map V.int)) hq
        have q6 : upd H5 q (.tup (xs.map V.int)) q = _ := upd_same
        have k6 := (k4.trans k5).trans (Keep.of s6)
        have st6 := st5.ext s6
        have l6 := s6 _ _ (k5 _ _ (notSt_refs _ S) hl4)
        have d6 := s6 _ _ (k5.dK hd4)
        have S6 := (hS4.kp k5).ext s6
        generalize upd H5 q (.tup (xs.map V.int)) = H6 at q6 k6 st6 l6 d6 S6
        refine ⟨_, rfl, _, rfl, dT xs, _, dp_T q6, dp_Ts l6 S6, shp_T _, shp_Ts _, _, rfl, ?_⟩
        rw [any_eqv]
        have sok : StoreOk xs ∧ xs.length = n := ⟨⟨by omega, by omega, bd5⟩, len5⟩
        by_cases hin : xs ∈ S.map (·.2)
        · rw [decide_eq_true hin]
          refine iteF ⟨by omega, S, _, _, rfl, k6, st6, l6, d6, S6, each, nd, by omega, fun _ => ?_⟩
          obtain ⟨p, hp, _⟩ := List.mem_map.mp hin
          exact List.length_pos_of_mem hp
        · rw [decide_eq_false hin]
          refine iteT ⟨_, rfl, .inl ⟨rfl, _, SqL.of l6⟩, _, rfl, l, _, _, rfl, rfl, l6, small1000 (by rw [List.length_map]; omega), ?_⟩
          refine ⟨by omega, S ++ [(q, xs)], _, _, rfl, k6.upd newl, st6.off l1 l2, ?_, ?_, (S6.snoc q6).off l6, fun p hp => ?_, ?_, ?_, fun _ => ?_⟩
          · rw [upd_same]
            unfold refs
            rw [List.map_append] <;> rfl
          · rw [upd_ne dl]
            exact d6
          · rcases List.mem_append.mp hp with z | z
            · exact each p z
            · obtain rfl := List.mem_singleton.mp z
              exact sok
          · rw [List.map_append]
            exact List.nodup_append.mpr ⟨nd, List.nodup_cons.mpr ⟨List.not_mem_nil, List.nodup_nil⟩, fun a ha b hb => by
              obtain rfl := List.mem_singleton.mp hb
              exact fun z => hin (by rw [← z]; exact ha)⟩
          · rw [List.length_append, List.length_singleton]; omega
          · rw [List.length_append, List.length_singleton]; omega
    · obtain ⟨_, S, v5, v6, rfl, k4, st4, hl4, hd4, hS4, each, nd, len, pos⟩ := q
      have S1 : 1 ≤ S.length := pos (by omega)
      have S8 : S.length ≤ 8 := by omega
      refine ⟨(by show 4 ≤ sizeLine; decide), fun a ha => ⟨_, rfl, _, rfl, _, _, rfl, rfl, st, 3, rfl, by decide, st4.ext (same_upd ha), fun H5 k5 st5 v7 a7 b7 => ⟨_, _, rfl, rfl, ?_⟩⟩⟩
      refine ⟨2 + v7, rfl, a, allNames.map V.str, rfl, SqL.of (k5.strs (ns := allNames) upd_same), fun p hp => ?_⟩
      obtain ⟨m, em⟩ := nat_of (v := 2 + v7) (by omega)
      have m2 : 2 ≤ m := by omega
      have m4 : m ≤ 4 := by omega
      have cut : cutV (allNames.map V.str) none (some (2 + v7)) = (allNames.take m).map V.str := by
        rw [em]
        have all : ∀ m : Nat, m ≤ 4 → cutV (allNames.map V.str) none (some (m : Int)) = (allNames.take m).map V.str := by decide +kernel
        exact all m m4
      rw [cut]
      have s6 : Same H5 _ := same_upd (o := .lst ((allNames.take m).map V.str)) hp
      have p6 : upd H5 p (.lst ((allNames.take m).map V.str)) p = _ := upd_same
      have k46 := ((Keep.of (same_upd ha)).trans k5).trans (Keep.of s6)
      have k6 := k4.trans k46
      have st6 := st5.ext s6
      have l6 := k46 _ _ (notSt_refs _ S) hl4
      have d6 := k46.dK hd4
      have S6 := hS4.kp k46
      generalize upd H5 p (.lst ((allNames.take m).map V.str)) = H6 at p6 k6 st6 l6 d6 S6
      have hm : ((allNames.take m).map V.str).length = m := by
        rw [List.length_map, List.length_take]
        show min m 4 = m
        omega
      refine ⟨p, rfl, ⟨_, SqL.of p6⟩, for_list (K := K) (a := p) (xs := (allNames.take m).map V.str) (fun i σ H' => ∃ (L : Rws) (v8 : Option V), σ = [some (.ref st), some (.int 4), some (.int n), some (.ref l), some (.ref d), v5, v6, none, v8] ∧ Keep H H' ∧ StAt K sc H' st ∧ H' p = some (.lst ((allNames.take m).map V.str)) ∧ H' l = some (.lst (refs S)) ∧ H' d = some (.dK (kvs L)) ∧ StsAt H' S ∧ RowsAt H' L ∧ names L = (allNames.take m).take i ∧ ∀ q ∈ L, q.2.2.Ok ∧ Fits n q.2.2)
        ⟨[], none, rfl, k6, st6, p6, l6, d6, S6, (fun q hq => absurd hq List.not_mem_nil), rfl, (fun q hq => absurd hq List.not_mem_nil)⟩ (fun i σ H' _ q => ?_) (fun i x σ H' hx q => ?_) fun σ H' q => ?_⟩
      · obtain ⟨_, _, _, _, _, p7, _⟩ := q
        exact SqL.of p7
      · obtain ⟨L, v8, rfl, k7, st7, p7, l7, d7, S7, R7, nm, okL⟩ := q
        obtain ⟨y, hy, rfl⟩ := strs_at' hx
        refine ⟨_, rfl, _, rfl, st, n, rfl, hn1, hn2, st7, fun H8 r c k8 st8 row ok8 fit8 _ => ?_⟩
        have lenL : L.length ≤ 4 := by
          have h1 : L.length = (names L).length := (List.length_map ..).symm
          rw [h1, nm, List.length_take, List.length_take]
          omega
        have yn : y ∉ names L := fun z => by
          rw [nm] at z
          obtain ⟨j, hj, ej⟩ := List.mem_take_iff_getElem.mp z
          have ndt : (allNames.take m).Nodup := all_nd.sublist (List.take_sublist _ _)
          obtain ⟨hi, ei⟩ := List.getElem?_eq_some_iff.mp hy
          have := (List.getElem_inj ndt).mp (ej.trans ei.symm)
          omega
        refine ⟨_, rfl, _, rfl, d, _, rfl, DPut.k (k := Sum.inr y) (k8.dK d7) (small1000 (by rw [kvs_len]; omega)), ?_⟩
        have d8 := k8.dK d7
        have pu : putK (kvs L) (Sum.inr y : Key) (V.ref r) = kvs (L ++ [(y, r, c)]) := by
          rw [putK_new _ (valV_not yn)]
          unfold kvs
          rw [List.map_append] <;> rfl
        rw [pu]
        have off : ∀ {b : Addr} {u : HO}, H8 b = some u → (∀ kv, u ≠ .dK kv) → upd H8 d (.dK (kvs (L ++ [(y, r, c)]))) b = some u := fun {b u} e n => by
          rw [upd_ne (fun z => by rw [z, d8] at e; exact n _ (Option.some.inj e).symm)]
          exact e
        have rowU : ∀ {b : Addr} {e : Chg}, RowAt H8 b e → RowAt (upd H8 d (.dK (kvs (L ++ [(y, r, c)])))) b e := fun {b e} h => by
          cases e with
          | one o => exact off h (fun _ z => by cases z)
          | iff s v o =>
            obtain ⟨b2, h1, h2⟩ := h
            exact ⟨b2, off h1 (fun _ z => by cases z), off h2 (fun _ z => by cases z)⟩
        refine ⟨L ++ [(y, r, c)], _, rfl, (k7.trans k8).upd newd, st8.off d1 d2, off (k8.strs p7) (fun _ z => by cases z), off (k8 _ _ (notSt_refs _ S) l7) (fun _ z => by cases z), upd_same, fun q hq => off (k8.tup (S7 q hq)) (fun _ z => by cases z), fun q hq => ?_, ?_, fun q hq => ?_⟩
        · rcases List.mem_append.mp hq with z | z
          · exact rowU ((R7 q z).kp k8)
          · obtain rfl := List.mem_singleton.mp z
            exact rowU row
        · unfold names at nm ⊢
          rw [List.map_append, nm, List.take_add_one, hy] <;> rfl
        · rcases List.mem_append.mp hq with z | z
          · exact okL q z
          · obtain rfl := List.mem_singleton.mp z
            exact ⟨ok8, fit8⟩
      · obtain ⟨L, v8, rfl, k7, st7, p7, l7, d7, S7, R7, nm, okL⟩ := q
        rw [hm, List.take_of_length_le (by rw [List.length_take]; omega)] at nm
        refine ⟨_, rfl, _, rfl, _, rfl, (by show 3 ≤ sizeLine; decide), fun t ht => ?_⟩
        have s8 : Same H' _ := same_upd (o := .tup [.int n, .ref l, .ref d]) ht
        refine kk _ t n S L m (k7.trans (Keep.of s8)) (st7.ext s8) ⟨⟨l, d, upd_same, s8 _ _ l7, s8 _ _ d7⟩, S7.ext s8, R7.kp (Keep.of s8)⟩ ⟨hn1, by omega, ⟨S1, S8, each, nd⟩, ⟨?_, ?_, fun q hq => ?_, fun q hq => okL q hq, ?_⟩⟩ hn2 m2 m4 nm
        · have h1 : L.length = (names L).length := (List.length_map ..).symm
          rw [h1, nm, List.length_take]
          show 2 ≤ min m 4
          omega
        · have h1 : L.length = (names L).length := (List.length_map ..).symm
          rw [h1, nm, List.length_take]
          show min m 4 ≤ 4
          omega
        · have mem : q.1 ∈ names L := List.mem_map.mpr ⟨q, hq, rfl⟩
          rw [nm] at mem
          obtain ⟨h1, h2, h3⟩ := all_ok _ (List.mem_of_mem_take mem)
          exact ⟨h1, h2, h3⟩
        · rw [nm]
          exact all_nd.sublist (List.take_sublist _ _)
end
end OP
namespace OP
open PySem PySem.Spec PyProof.Rows L2
theorem vals_each : ∀ {xs : List V} {us : List Value}, Vals xs us → PySem.W.EachIs (fun (u : Value) (x : V) => RelV x u) us xs
  | _, _, .nil => .nil
  | _, _, .cons r t => .cons r (vals_each t)
theorem each_vals : ∀ {us : List Value} {xs : List V}, PySem.W.EachIs (fun (u : Value) (x : V) => RelV x u) us xs → Vals xs us
  | _, _, .nil => .nil
  | _, _, .cons r t => .cons r (each_vals t)
/-- each key that is out is the key of its item -/
def KeysAt (K : PySem.W.Frag) (keyOf : V → PyData) (H : Hp) (ys : List V) (xs : List V) : Prop := PySem.W.EachIs (fun y x => Dp K H y (keyOf x)) ys xs
mutual
theorem Dp_mono {K : PySem.W.Frag} {H H' : Hp} (e : Same H H') : ∀ (d : PyData) (v : V), Dp K H v d → Dp K H' v d
  | .none, _, h => by cases h; exact .non
  | .bool b, _, h => by cases h; exact .bl b
  | .int i, _, h => by cases h; exact .int i
  | .str x, _, h => by cases h; exact .str x
  | .list ds, _, h => by
    cases h with
    | lst a b => exact .lst (e.seq a) (DpAll_mono e ds _ b)
  | .tuple ds, _, h => by
    cases h with
    | tup a b => exact .tup (SqT.ext a e) (DpAll_mono e ds _ b)
  | .dict _, _, h => by cases h
theorem DpAll_mono {K : PySem.W.Frag} {H H' : Hp} (e : Same H H') : ∀ (ds : List PyData) (vs : List V), DpAll K H vs ds → DpAll K H' vs ds
  | [], _, h => by cases h; exact .nil
  | d :: ds, _, h => by
    cases h with
    | cons a b => exact .cons (Dp_mono e d _ a) (DpAll_mono e ds _ b)
end
section
variable {X : Cx} {pins : List (Addr × Obj)} {σ : L2.St} {H : Hp} {s : Shared}
/-- the heap without the object at k -/
theorem freed_none (h : Heap) (k : Addr) : (h.update k fun o => { o with data := .freed }).get? k = none := by
  unfold Heap.get? Heap.update
  cases e : h.objs[k]? with
  | none =>
    have q : (h.objs.modify k fun o => { o with data := .freed })[k]? = none := by simp [Array.getElem?_modify, e]
    simp only [q]
  | some o =>
    have q : (h.objs.modify k fun o => { o with data := .freed })[k]? = some { o with data := .freed } := by simp [Array.getElem?_modify, e]
    simp only [q]
/-- an object that only the call knows (kS, pinned) is written; what it held is told anew -/
theorem repin {kS : Addr} {o o' : Obj} {h2 : Heap} {t2 : Nat} (I : Inv X ((kS, o) :: pins) σ H s) (hk : ∀ b u, b ≠ kS → s.heap.get? b = some u → h2.get? b = some u) (ho : h2.get? kS = some o') (hd : ∀ v, o'.data ≠ .cell v)
    (hy : X.s_0.heap.objs.size ≤ kS) (hc : ∀ x c, X.env.cells.lookup x = some c → c ≠ kS) (hp : ∀ p ∈ X.pn ++ pins, p.1 ≠ kS) : Inv X ((kS, o') :: pins) σ H { s with heap := h2, toks := t2 } := by
  obtain ⟨_, n0, nl, nf, _⟩ := I.pin (kS, o) (List.mem_append_right _ List.mem_cons_self)
  have J : Inv X pins σ H { s with heap := h2, toks := t2 } := (ClX.unpin I).turned hk n0 nl (.inr hy) hc hp
  refine J.pins_of fun p hp' => ?_
  rcases List.mem_cons.mp hp' with e | e
  · rw [e]
    exact ⟨ho, n0, nl, nf, hd⟩
  · exact J.pin p (List.mem_append_right _ e)
/-- sorted(xs, key=f): f's call gives each item its key, and leaves all that stands -/
theorem sorted_by {l f : Addr} {fo : Obj} {xs : List V} {Q : VK} {E : Value → Shared → Prop} (keyOf : V → PyData) (I : Inv X pins σ H s) (hx : SqL X.K H l xs) (hfo : (f, fo) ∈ pins) (hal : PySem.W.AllAlike (xs.map keyOf)) (hsk : PySem.W.Sortable (xs.map keyOf))
    (hu : ∀ d, d ∈ xs.map keyOf → X.A.in1.in1.units + d.depth < cLine)
    (turn : ∀ (i : Nat) (x : V) (u : Value) (pins' : List (Addr × Obj)) (H' : Hp) (s' : Shared), xs[i]? = some x → Same H H' → Inv X pins' σ H' s' → (f, fo) ∈ pins' → RelV x u →
      wpAny (model X.prog X.w) X.A.in1.in1 (call (.ref f) [u]) (EP X pins' σ fun y H2 => Same H' H2 ∧ Dp X.K H2 y (keyOf x)) (fun _ _ => False) s')
    (h : ∀ a H', H' a = none → Same H H' → Q (.ref a) (upd H' a (.lst (xs.mergeSort (PySem.W.dataLe false keyOf))))) :
    wpAny (model X.prog X.w) X.A (call (.builtin "sorted") [.ref l] [(Str.ofString "key", .ref f)]) (EP X pins σ Q) E s := by
  obtain ⟨its, rv, hl, hz⟩ := I.list hx
  have hzi : its.length ≤ sizeLine := by rw [← rv.length]; exact hz
  refine PySem.W.sorted_of_sort hl.isList hzi (ksk_s1 _ _) (fun a => ksk_l1 _ _) fun E' => ?_
  rw [ksk_t1]
  have old : ∀ b o, s.heap.get? b = some o → (PySem.W.sortingHeap (PySem.W.copyHeap s.heap its) (s.heap.objs.size + 1) its).get? b = some o := fun b o e => PySem.W.sorting_copy_old e
  have hcp := PySem.W.copyHeap_at s.heap its
  unfold ksk_tree
  refine wpAny_bind (listItems_at hcp rfl ?_)
  refine wpAny_bind (listUpdate_at hcp rfl ?_ (by rw [List.size_toArray]; exact hzi) (Nat.zero_le _))
  obtain ⟨e1, ho1⟩ : ∃ e1, ((PySem.W.copyHeap s.heap its).update (s.heap.objs.size + 1) (Obj.mapSeq fun _ => (#[] : Array Value))).get? (s.heap.objs.size + 1) = some (seqObj "list" #[] e1) := ⟨_, get?_update_seq hcp fun _ => #[]⟩
  refine wpAny_bind (seqEpoch_at ho1 rfl ?_)
  refine wpAny_bind (wpAny_newTuple ?_ (by show its.length ≤ _; exact hzi))
  refine wpAny_bind (wpAny_newList ?_ (Nat.zero_le _))
  refine wpAny_holding ?_
  generalize hA : s.heap.objs.size + 1 = a at *
  have hszc : (PySem.W.copyHeap s.heap its).objs.size = s.heap.objs.size + 2 := by
    unfold PySem.W.copyHeap
    rw [size_push', Heap.size_update, size_push']
  generalize hK : (((PySem.W.copyHeap s.heap its).update a (Obj.mapSeq fun _ => (#[] : Array Value))).push (seqObj "tuple" its.toArray 0)).objs.size = kS
  have hKv : kS = s.heap.objs.size + 3 := by rw [← hK, size_push', Heap.size_update, hszc]
  have hka : kS ≠ a := by omega
  show wpAny _ _ _ _ _ { s with heap := PySem.W.sortingHeap (PySem.W.copyHeap s.heap its) a its }
  have na0 : (PySem.W.sortingHeap (PySem.W.copyHeap s.heap its) a its).get? a = some (seqObj "list" #[] e1) := Heap.get?_push_of_some _ (Heap.get?_push_of_some _ ho1)
  have nk0 : (PySem.W.sortingHeap (PySem.W.copyHeap s.heap its) a its).get? kS = some (seqObj "list" #[] 0) := by
    rw [← hK]
    exact Heap.get?_push_size _ rfl
  -- the emptied copy and the keys' list are pinned
  have younger : ∀ q : Addr, s.heap.objs.size ≤ q → X.s_0.heap.objs.size ≤ q ∧ q ≠ X.env.locals ∧ (∀ x c, X.env.cells.lookup x = some c → c ≠ q) ∧ ∀ p ∈ X.pn ++ pins, p.1 ≠ q := fun q hq => by
    refine ⟨Nat.le_trans I.sz hq, Nat.ne_of_gt (Nat.lt_of_lt_of_le I.lt hq), fun x c e z => ?_, fun p hp z => ?_⟩
    · obtain ⟨v, q2⟩ := I.cell x c e
      exact Nat.lt_irrefl _ (Nat.lt_of_lt_of_le q2.lt (z ▸ hq))
    · exact Nat.lt_irrefl _ (Nat.lt_of_lt_of_le (Heap.lt_size (I.pin p hp).1) (z ▸ hq))
  have ya := younger a (by omega)
  have yk := younger kS (by omega)
  have I0 := ClX.pin_new (t' := s.toks) I old (show s.heap.objs.size ≤ a by omega) na0 (fun v q => by cases q)
  have I1 : Inv X ((kS, seqObj "list" #[] 0) :: (a, seqObj "list" #[] e1) :: pins) σ H { s with heap := PySem.W.sortingHeap (PySem.W.copyHeap s.heap its) a its } := by
    refine I0.pins_of fun p hp => ?_
    rcases List.mem_cons.mp hp with e | e
    · rw [e]
      exact ⟨nk0, I.hok.fresh (by omega), yk.2.1, I.nofs (by omega), fun v q => by cases q⟩
    · exact I0.pin p (List.mem_append_right _ e)
  have hpk : ∀ p ∈ X.pn ++ (a, seqObj "list" #[] e1) :: pins, p.1 ≠ kS := fun p hp => by
    rcases List.mem_append.mp hp with z | z
    · exact yk.2.2.2 p (List.mem_append_left _ z)
    · rcases List.mem_cons.mp z with z | z
      · rw [z]; exact hka.symm
      · exact yk.2.2.2 p (List.mem_append_right _ z)
  unfold ksk_rest
  refine wpAny_bind (wpAny_rule ?_)
  rw [List.forIn_toArray]
  refine wpAny_bind (ksk_fold (fun i s1 => ∃ H1 kA n ys, Inv X ((kS, seqObj "list" kA n) :: (a, seqObj "list" #[] e1) :: pins) σ H1 s1 ∧ Same H H1 ∧ Vals ys kA.toList ∧ KeysAt X.K keyOf H1 ys (xs.take i)) its 0 _ ⟨_, #[], 0, [], I1, Same.refl _, .nil, .nil⟩ ?step ?done)
  case step =>
    rintro j u s1 hj ⟨H1, kA, n, ys, J, sm, ry, ky⟩
    rw [Nat.zero_add] at ky
    obtain ⟨x, hxj, rx⟩ : ∃ x, xs[j]? = some x ∧ RelV x u := by
      have hlt : j < xs.length := by rw [rv.length]; exact (List.getElem?_eq_some_iff.mp hj).1
      obtain ⟨u', e1, e2⟩ := rv.get (List.getElem?_eq_getElem hlt)
      rw [hj] at e1
      cases e1
      exact ⟨_, List.getElem?_eq_getElem hlt, e2⟩
    refine wpAny_bind (wpAny_attempt (wpAny_mono (turn j x u _ H1 s1 hxj sm J (List.mem_cons_of_mem _ (List.mem_cons_of_mem _ hfo)) rx) (fun v s2 hv => ?_) fun _ _ z => z.elim))
    obtain ⟨y, H2, J2, ryv, s12, dy⟩ := hv
    have nk2 : s2.heap.get? kS = some (seqObj "list" kA n) := ClX.pin_at J2
    have hsz3 : kA.size < xs.length := by
      have q3 : j < xs.length := (List.getElem?_eq_some_iff.mp hxj).1
      rw [← Array.length_toList, ← ry.length, show ys.length = (xs.take j).length from ky.length, List.length_take, Nat.min_eq_left (Nat.le_of_lt q3)]
      exact q3
    have hsz2 : kA.size ≤ sizeLine := Nat.le_trans (Nat.le_of_lt hsz3) hz
    refine wpAny_bind (listUpdate_at nk2 rfl ?_ hsz2 (by rw [Array.size_push]; omega))
    obtain ⟨c2, hc2⟩ : ∃ c2, (s2.heap.update kS (Obj.mapSeq (·.push v))).get? kS = some (seqObj "list" (kA.push v) c2) := ⟨_, get?_update_seq nk2 (·.push v)⟩
    have J3 := repin (t2 := s2.toks) (h2 := s2.heap.update kS (Obj.mapSeq (·.push v))) J2 (fun b o hb e => (Heap.get?_update_other _ _ (Ne.symm hb)).trans e) hc2 (fun v q => by cases q) yk.1 yk.2.2.1 hpk
    refine wpAny_pure ⟨rfl, H2, kA.push v, c2, ys ++ [y], J3, sm.trans s12, ?_, ?_⟩
    · rw [Array.toList_push]
      exact ry.append (.cons ryv .nil)
    · rw [Nat.zero_add, List.take_add_one, hxj]
      exact PySem.W.each_snoc (R := fun y x => Dp X.K H2 y (keyOf x)) dy (ky.mono fun y' x' q => Dp_mono s12 _ _ q)
  case done =>
    rintro s1 ⟨H1, kA, n, ys, J, sm, ry, ky⟩
    have et : xs.take (0 + its.length) = xs := List.take_of_length_le (by rw [rv.length]; omega)
    rw [et] at ky
    have hks : kA.size = its.length := by
      rw [← Array.length_toList, ← ry.length, ← rv.length]
      exact ky.length
    have nk1 : s1.heap.get? kS = some (seqObj "list" kA n) := ClX.pin_at J
    obtain ⟨na1, Ha, _, hfa, _⟩ := J.pin (a, seqObj "list" #[] e1) (List.mem_append_right _ (List.mem_cons_of_mem _ List.mem_cons_self))
    obtain ⟨_, Hk, _, hfk, _⟩ := J.pin (kS, seqObj "list" kA n) (List.mem_append_right _ List.mem_cons_self)
    refine wpAny_bind (listItems_at nk1 rfl ?_)
    have hkd : PySem.W.EachIs (fun v d => ∃ as, Reads s1.heap v d as) kA.toList (xs.map keyOf) := by
      have go : ∀ {ys : List V} {us : List Value} {xs : List V}, Vals ys us → KeysAt X.K keyOf H1 ys xs → PySem.W.EachIs (fun v d => ∃ as, Reads s1.heap v d as) us (xs.map keyOf) := by
        intro ys us xs r k
        induction k generalizing us with
        | nil => cases r; exact .nil
        | cons d _ ih =>
          cases r with
          | cons rr rt => exact .cons (Dp.reads J _ _ _ d rr) (ih rt)
      exact go ry ky
    have SA := PySem.W.SortsAt.data (prog := X.prog) (w := X.w) (A := X.A.in1.in1) (s := s1) hkd hal hsk hu
    have hlen : kA.toList.length = (xs.map keyOf).length := by rw [Array.length_toList, hks, List.length_map, rv.length]
    refine PySem.W.keyH_end (κ := PySem.W.dataKind s1.heap (xs.map keyOf)) (h₁ := s1.heap.update kS fun o => { o with data := .freed }) (fun b o hb e => ?_) (freed_none _ _) nk1 na1 hka SA hks hzi fun h3 t3 c3 k3 n3 => ⟨rfl, ?_⟩
    · by_cases hbk : b = kS
      · rw [hbk, freed_none] at e
        cases e
      · rw [Heap.get?_update_other _ _ (Ne.symm hbk)] at e
        exact e
    have k4 : ∀ b o, b ≠ a → b ≠ kS → s1.heap.get? b = some o → h3.get? b = some o := fun b o h1 h2 e => k3 b o h1 (by rw [Heap.get?_update_other _ _ (Ne.symm h2)]; exact e)
    have ko : PySem.W.KeyedOut false (xs.map keyOf) its (PySem.W.sortVals (PySem.W.dataKind s1.heap (xs.map keyOf)) false kA.toList its) := ⟨s1.heap, kA.toList, hal, rfl, hkd⟩
    have ev := each_vals (PySem.W.keyedOut_each keyOf ko (vals_each rv))
    have J0 : Inv X pins σ H1 s1 := ClX.unpin (ClX.unpin J)
    have nt : ∀ b u, H1 b = some u → b ≠ a ∧ b ≠ kS := fun b u e => ⟨(fun z => by rw [z, Ha] at e; cases e), (fun z => by rw [z, Hk] at e; cases e)⟩
    refine ⟨.ref a, upd H1 a (.lst (xs.mergeSort (PySem.W.dataLe false keyOf))), ?_, rfl, h a H1 Ha sm⟩
    refine J0.step (g' := s1.gens) (d' := s1.drawn) (ch := [kS, a]) (fun b hb => ?_) (fun b o _ _ hc e _ => k4 b o (fun z => hc (by simp [z])) (fun z => hc (by simp [z])) e)
      (fun b o _ _ hc e _ => ⟨o.slots, k4 b o (fun z => hc (by simp [z])) (fun z => hc (by simp [z])) e⟩) (fun b o hc e n => by rw [upd_ne (fun z => hc (by simp [z]))]; exact n) (fun b o hc e => ⟨o, k4 b o (fun z => hc (by simp [z])) (fun z => hc (by simp [z])) e⟩)
      (fun b zs e => by rw [upd_ne (nt b _ e).1]; exact e) (fun b o u e => by rw [upd_ne (nt b _ e).1]; exact e) (fun b ps e => ⟨#[], by rw [upd_ne (nt b _ e).1, e]; simp⟩) (fun m hm => ?_) (fun b u e => ?_) J0.bare
    · rcases List.mem_cons.mp hb with z | z
      · rw [z]; exact ⟨.inr yk.1, yk.2⟩
      · rw [List.mem_singleton.mp z]; exact ⟨.inr ya.1, ya.2⟩
    · obtain ⟨ob, es, ep, ho, r⟩ := hm
      exact ⟨ob, es, ep, k4 _ ob ya.2.1.symm yk.2.1.symm ho, r⟩
    · by_cases hb : b = a
      · rw [hb, upd_same] at e
        cases e
        rw [hb]
        exact ⟨by rw [List.length_mergeSort]; exact hz, _, c3, ev, n3⟩
      · rw [upd_ne hb] at e
        refine (J0.hok b u e).stay (fun d v hd q => k4 d v ?_ ?_ q) (fun d q => by rw [upd_ne (nt d _ q).1]; exact q) fun d zs q => by rw [upd_ne (nt d _ q).1]; exact q
        · rcases hd with z | z
          · rw [z]; exact hb
          · exact (nt d _ z).1
        · rcases hd with z | z
          · rw [z]; exact (nt b _ e).2
          · exact (nt d _ z).2
end
end OP
namespace OP
open PySem PySem.Spec PyProof.Rows L2 LamX
/-- a lambda of one parameter a: no other name of its own; it may capture -/
structure Lam1 (sc scope : Scope) (a : Str) : Prop where
  kind : scope.kind = .function
  co : scope.isCoroutine = false
  gen : scope.isGenerator = false
  cell : ∀ y ∈ scope.names, y.2 ≠ .cell
  loc : ∀ y ∈ scope.names, y.2 = .local → y.1 = a
  par : scope.names.lookup a = some .local
  free : ∀ y ∈ scope.names, y.2 = .free → sc.names.lookup y.1 = some .cell ∨ sc.names.lookup y.1 = some .free
def lam1B (sc scope : Scope) (a : Str) : Bool := decide (scope.kind = .function) && (!scope.isCoroutine && (!scope.isGenerator && (decide (scope.names.lookup a = some .local) &&
  scope.names.all fun y => !decide (y.2 = .cell) && ((!decide (y.2 = .local) || decide (y.1 = a)) && (!decide (y.2 = .free) || (decide (sc.names.lookup y.1 = some .cell) || decide (sc.names.lookup y.1 = some .free)))))))
theorem lam1_by {sc scope : Scope} {a : Str} (h : lam1B sc scope a = true) : Lam1 sc scope a := by
  unfold lam1B at h
  simp only [Bool.and_eq_true, Bool.or_eq_true, Bool.not_eq_true', decide_eq_true_eq, decide_eq_false_iff_not, List.all_eq_true] at h
  obtain ⟨h1, h2, h3, h4, h5⟩ := h
  refine ⟨h1, h2, h3, fun y hy => (h5 y hy).1, fun y hy e => ?_, h4, fun y hy e => ?_⟩
  · exact (h5 y hy).2.1.elim (fun z => absurd e z) id
  · exact (h5 y hy).2.2.elim (fun z => absurd e z) id
/-- the context of such a lambda's body; nothing is raised there -/
def lamCx1 (X : Cx) (A : Around) (outer : List Env) (s : Shared) (H : Hp) (scope : Scope) (f c' : Addr) : Cx := { lamCx X A outer s H (fun _ _ _ => False) scope f c' with xe := fun _ _ => False }
section
variable {X : Cx} {pins : List (Addr × Obj)} {σ : L2.St} {H : Hp} {s : Shared}
theorem lam1_start {A : Around} {scope : Scope} {a : Str} {f c' : Addr} {j : Nat} {x : V} {u : Value} {g : Heap} {tk : Nat} (I : Inv X pins σ H s) (L : Lam1 X.env.scope scope a) (e0 : Env0 X.prog X.w X.K X.mg X.base A X.stack s H) (hd : A.handled = none)
    (hN : X.N.Nodup) (hj : X.N[j]? = some a) (rx : RelV x u) (hns : g.Ns s.heap.objs.size fun y => [(a, u)].reverse.lookup y) (kp : ∀ b o, s.heap.get? b = some o → g.get? b = some o) :
    Inv (lamCx1 X A X.stack s H scope f c') [] (σ.set j (some x)) H { s with heap := g, toks := tk } := by
  have own : ∀ {y : Str}, scope.names.lookup y = some .free → ∃ c, X.env.cells.lookup y = some c := fun {y} hl => by
    have hy : (y, NameKind.free) ∈ scope.names := PySem.mem_of_lookup hl
    exact (L.free _ hy rfl).elim (fun k => I.ok.has _ (.inl k)) fun k => I.ok.has _ (.inr k)
  have back : ∀ {y : Str} {c : Addr}, (cloFrom X.env.cells scope.names []).lookup y = some c → X.env.cells.lookup y = some c := fun {y c} e => by
    rcases cloFrom_mem (PySem.mem_of_lookup e) with hm | ⟨h1, h2⟩
    · cases hm
    · obtain ⟨c1, hc⟩ := (L.free _ h1 rfl).elim (fun k => I.ok.has _ (.inl k)) fun k => I.ok.has _ (.inr k)
      have hc2 : X.env.cells.lookup y = some c1 := hc
      rw [hc2, show c = c1 from by rw [h2, hc2] <;> rfl]
  have look : ∀ {y : Str}, scope.names.lookup y = some .free → ∃ c, (cloFrom X.env.cells scope.names []).lookup y = some c := fun {y} hl =>
    mem_lookup (cloFrom_has (cells := X.env.cells) (acc := []) (PySem.mem_of_lookup hl))
  have cellK : ∀ {c : Addr} {v : Option Value}, s.heap.IsCell c v → g.IsCell c v := fun {c v} ⟨o, ho, q⟩ => ⟨o, kp _ _ ho, q⟩
  have none0 : ∀ b : Addr, b ∉ (lamCx1 X A X.stack s H scope f c').ex := fun b z => absurd (show b ∈ ([] : List Addr) from z) (by simp)
  have hjl : j < σ.length := by rw [I.len]; exact (List.getElem?_eq_some_iff.mp hj).1
  refine { ok := ?_, os := rfl, bare := e0.bare, base := Un.kept kp, loc := ⟨_, hns, fun i y v e1 e2 e3 => ?_⟩, cell := fun y c e => ?_, free := e0.hok.fresh (Nat.le_refl _), freeC := fun y c e => ?_, pin := fun q hq => absurd (show q ∈ ([] : List (Addr × Obj)) ++ [] from hq) (by simp), hok := e0.hok.kept kp, len := ?_ }
  · refine { mod := e0.mod, kind := L.kind, glob := rfl, blt := rfl, above := Nat.le_refl _, inj := fun y z c q1 q2 => I.ok.inj y z c (back q1) (back q2), has := fun y hy => ?_, cab := fun y c z _ => ?_, hd := (fun _ => hd), frames := (Around.frames_deeper e0.frames), stk := .inr ⟨rfl, rfl⟩, exf := fun b z => absurd z (none0 b), bs := e0.bs, bsz := e0.bsz, noex := fun b _ _ => none0 b, exfs := fun b z => absurd z (none0 b), funs := e0.funs, frf := e0.frf }
    · have hy2 : scope.names.lookup y = some .cell ∨ scope.names.lookup y = some .free := hy
      rcases hy2 with k | k
      · exact absurd rfl (L.cell _ (PySem.mem_of_lookup k))
      · exact look k
    · have z2 : false = true := z
      cases z2
  · have e3' : Vis scope y := e3
    rcases e3' with k | k | k
    · have ya : y = a := L.loc _ (PySem.mem_of_lookup k) rfl
      subst ya
      have hij : i = j := nodup_ix hN e1 hj
      subst hij
      rw [List.getElem?_set_self hjl] at e2
      cases e2
      exact ⟨u, rx, .inl ⟨k, by simp⟩⟩
    · exact absurd rfl (L.cell _ (PySem.mem_of_lookup k))
    · have yna : y ≠ a := fun z => by
        rw [z, L.par] at k
        cases k
      have hij : j ≠ i := fun z => yna (by
        rw [← z] at e1
        have e4 : some y = some a := e1.symm.trans hj
        exact Option.some.inj e4)
      rw [List.getElem?_set_ne hij] at e2
      obtain ⟨m, hn, hl⟩ := I.loc
      have hvis : Vis X.env.scope y := (L.free _ (PySem.mem_of_lookup k) rfl).elim (fun k => .inr (.inl k)) (fun k => .inr (.inr k))
      obtain ⟨u', r, q⟩ := hl i y v e1 e2 hvis
      obtain ⟨c2, h2⟩ := look k
      refine ⟨u', r, .inr ⟨.inr k, c2, h2, ?_⟩⟩
      rcases q with ⟨k', _⟩ | ⟨_, c3, e', z⟩
      · have k2 : X.env.scope.names.lookup y = some .local := k'
        rcases L.free _ (PySem.mem_of_lookup k) rfl with k3 | k3 <;> rw [show X.env.scope.names.lookup y = _ from k3] at k2 <;> cases k2
      · rw [back h2] at e'
        cases e'
        exact cellK z
  · obtain ⟨v, z⟩ := I.cell y c (back e)
    exact ⟨v, cellK z⟩
  · exact I.freeC y c (back e)
  · rw [List.length_set]
    exact I.len
/-- f(u), f such a lambda that the frame X made -/
theorem lam1_call {A : Around} {scope : Scope} {a : Str} {f c' : Addr} {pm ctv : Value} {params : Arguments} {body : Expr} {j k : Nat} {x : V} {u : Value} {Q : VK} {tb : TE} {E : Value → Shared → Prop} (I : Inv X pins σ H s) (L : Lam1 X.env.scope scope a)
    (hf : s.heap.get? f = some (PySem.W.kla_obj "<lambda>" (X.env.qual ++ "<lambda>") params body scope (cloFrom X.env.cells scope.names []) pm c' ctv)) (hc : H c' = some (CodeO c' (X.env.qual ++ "<lambda>")))
    (hbind : bindArgs (PySem.W.kla_fn "<lambda>" (X.env.qual ++ "<lambda>") params body scope (cloFrom X.env.cells scope.names []) pm (.ref c') ctv) ⟨[u], []⟩ = pure [(a, u)])
    (e0 : Env0 X.prog X.w X.K X.mg X.base A X.stack s H) (hr : Room (k + 1) A) (hN : X.N.Nodup) (hj : X.N[j]? = some a) (rx : RelV x u)
    (hbody : Room k (A.deeper (lamEnv X scope s.heap.objs.size f c')) → PE (lamCx1 X A X.stack s H scope f c') body tb) (ht : tb (σ.set j (some x)) H Q) :
    wpAny (model X.prog X.w) A (call (.ref f) [u]) (EP X pins σ Q) E s := by
  obtain ⟨⟨oc, vs, t, hoc, hdc, hvc⟩, _, _⟩ := I.hok c' _ hc
  have rc : codeAny (model X.prog X.w) A (.call (.ref f) ⟨[u], []⟩) (CR CX0 X.stack X.prog X.w H s Q E0) s := by
    refine PySem.W.kla_callFunE hr.depth hf rfl L.co L.gen rfl ⟨c', oc, vs, t, rfl, hoc, hdc, hvc⟩ ?_
    rw [hbind]
    refine wpAny_pure (wpAny_newFunctionEnv L.cell (fun y hy => by rw [List.mem_singleton.mp hy]; exact L.par) (fun g hns hsb => ⟨I.nolimit.fresh _ hsb, ?_⟩) L.kind)
    show codeAny _ _ (.expr body (lamEnv X scope s.heap.objs.size f c')) _ _
    have kp : ∀ b o, s.heap.get? b = some o → g.get? b = some o := fun b o e => hsb.extBut b o (Nat.ne_of_lt (Heap.lt_size e)) (Heap.get?_push_of_some _ e)
    have J := lam1_start (tk := s.toks + [(a, u)].length) (f := f) (c' := c') I L e0 hr.hd hN hj rx hns kp
    refine PySem.W.kla_codeExpr (wpAny_mono ((hbody (hr.deeper _)).run [] _ _ H Q J ht) (fun v s' hq => ?_) fun e s' hq => (show False from hq).elim)
    obtain ⟨y, H', J', rv, q⟩ := hq
    exact ⟨y, H', J'.os, J'.bare, J'.base, J'.hok, rv, q⟩
  refine wpAny_call (codeAny_mono rc fun r s' hq => ?_)
  cases r with
  | error e => exact (show False from hq).elim
  | ok fl =>
    cases fl with
    | ret v => exact I.after hq
    | next => exact False.elim hq
    | brk => exact False.elim hq
    | cont => exact False.elim hq
end
end OP
namespace OP
open PySem PySem.Spec PyProof.Rows L2 LamX
theorem ExtN.sq {K : PySem.W.Frag} {H H' : Hp} {a : Addr} {xs : List V} (e : ExtN H H') (h : SqL K H a xs) : SqL K H' a xs := by
  rcases h with (h | ⟨o, h⟩) | h
  · exact .inl (.inl (e _ _ h fun ps z => by cases z))
  · exact .inl (.inr ⟨o, e _ _ h fun ps z => by cases z⟩)
  · exact .inr h
/-- sorted(e, key=lambda a: body): the keys by body's reading, j the slot that stands for a -/
def tSortLam (K : PySem.W.Frag) (A : Around) (T : List (Addr × Str)) (j : Nat) (tb : TE) (te : TA) : TE := fun σ H Q => te σ H fun ws H1 => ∃ (l : Addr) (xs : List V) (keyOf : V → PyData), ws = [V.ref l] ∧ SqL K H1 l xs ∧ Tabs T H1 ∧
  PySem.W.AllAlike (xs.map keyOf) ∧ PySem.W.Sortable (xs.map keyOf) ∧ (∀ d, d ∈ xs.map keyOf → A.in1.in1.units + d.depth < cLine) ∧
  (∀ (i : Nat) (z : V) (H' : Hp) (Q' : VK), xs[i]? = some z → ExtN H1 H' → (∀ y H2, Same H' H2 → Dp K H2 y (keyOf z) → Q' y H2) → tb (σ.set j (some z)) H' Q') ∧
  ∀ a H', H' a = none → ExtN H1 H' → Tabs T H' → Q (.ref a) (upd H' a (.lst (xs.mergeSort (PySem.W.dataLe false keyOf))))
section
variable {X : Cx}
theorem pe_sortLam {T : List (Addr × Str)} {c P : Addr} {k j : Nat} {a x : Str} {params : Arguments} {e body : Expr} {scope : Scope} {tb : TE} {te : TA} {p lpos kpos pos : Pos} (ha : PA X [e] te) (hg : Gl X x) (hm : X.mg x = none) (hv : bootBuiltins x = some (.builtin "sorted"))
    (TB : TabB X.base X.mg c P) (hcode : X.env.code = .ref c) (hmT : (P, X.env.qual ++ "<lambda>") ∈ T) (hu : ∀ q ∈ T, q.1 = P → q.2 = X.env.qual ++ "<lambda>") (hr : Room (k + 3) X.A) (L : Lam1 X.env.scope scope a) (hdef : defaultsOf params X.env = ([], []))
    (hN : X.N.Nodup) (hj : X.N[j]? = some a) (hbind : ∀ (q : Str) (cl : List (Str × Addr)) (pm cv ctv u : Value), bindArgs (PySem.W.kla_fn "<lambda>" q params body scope cl pm cv ctv) ⟨[u], []⟩ = pure [(a, u)])
    (hbody : ∀ (A : Around) (s : Shared) (H : Hp) (f c' : Addr), Room k (A.deeper (lamEnv X scope s.heap.objs.size f c')) → PE (lamCx1 X A X.stack s H scope f c') body tb)
    (hn : x ≠ "__name__" := by decide) (hdb : (x == ("__debug__" : Str)) = false := by decide)
    (h1 : backTo pos (starEach [e] X.env) = (false, eval e X.env) :: backTo pos (starEach [] X.env) := by rfl) (h2 : (backTo pos (starEach [e] X.env)).any (·.1) = false := by rfl)
    (h3 : (backToKw pos (keywordEach [⟨some (Str.ofString "key"), .Lambda params body scope lpos, kpos⟩] X.env)).all (·.1.isSome) = true := by rfl) (h4 : (backToKw pos (keywordEach [⟨some (Str.ofString "key"), .Lambda params body scope lpos, kpos⟩] X.env)).any (·.1.isNone) = false := by rfl)
    (h5 : (backToKw pos (keywordEach [⟨some (Str.ofString "key"), .Lambda params body scope lpos, kpos⟩] X.env)).filterMap (·.1) = [Str.ofString "key"] := by rfl) :
    PE X (.Call (.Name x p) [e] [⟨some (Str.ofString "key"), .Lambda params body scope lpos, kpos⟩] pos) (tSortLam X.K X.A T j tb te) := by
  refine ⟨fun pins s σ H Q I h => ?_⟩
  refine wpAny_Call_Name_kw (ld_blt I hg hm hv ?_ hn hdb)
  refine PyProof.Rows.callWith_kw (thn (ha.run pos pins s σ H _ I h) fun us s1 hq => ?_) h1 h2 h3 h4
  obtain ⟨vs, H1, I1, r1, l, xs, keyOf, rfl, hx, hT, hal, hsk, hud, hturn, hfin⟩ := hq
  cases r1 with
  | cons ra rb =>
  cases rb
  cases ra
  show wpAny _ _ (evalAll ((do let v ← eval (.Lambda params body scope lpos) X.env; standAt pos; pure v) :: [])) _ _ s1
  refine wpAny_evalAll_cons (wpAny_bind (lam_make2 I1 TB hcode hmT hu hT hdef ?_ fun f c' pm ctv H2 s2 I2 eN T2 hf hfn hfr hco => wpAny_bind (wpAny_standAt (wpAny_pure ?_))))
  · exact fun y hy z => (L.free y hy z).elim (fun k => I1.ok.has _ (.inl k)) fun k => I1.ok.has _ (.inr k)
  refine wpAny_evalAll_nil ?_
  rw [h5]
  show wpAny _ _ (call (.builtin "sorted") [.ref l] [(Str.ofString "key", .ref f)]) _ _ s2
  have hfl : f ≠ X.env.locals := fun z => by
    obtain ⟨m, ⟨ob, es, ep, ho, hcls, hdat, _⟩, _⟩ := I2.loc
    rw [← z, hf] at ho
    cases ho
    have q := hcls
    cases q
  have hff : f ∉ X.fs := fun z => hfr (by
    rcases I2.ok.stk with q | ⟨q, _⟩
    · rw [q]; exact z
    · rw [q]
      obtain ⟨en, h6, h7⟩ := List.mem_filterMap.mp z
      exact List.mem_filterMap.mpr ⟨en, List.mem_cons_of_mem _ h6, h7⟩)
  have I3 : Inv X ((f, PySem.W.kla_obj "<lambda>" (X.env.qual ++ "<lambda>") params body scope (cloFrom X.env.cells scope.names []) pm c' ctv) :: pins) σ H2 s2 := by
    refine I2.pins_of fun q hq => ?_
    rcases List.mem_cons.mp hq with z | z
    · rw [z]
      exact ⟨hf, hfn, hfl, hff, fun v w => by cases w⟩
    · exact I2.pin q (List.mem_append_right _ z)
  refine wpAny_mono (sorted_by (E := X.xe) (Q := Q) keyOf I3 (ExtN.sq eN hx) List.mem_cons_self hal hsk hud (fun i z u pins' H' s' hz sm J hp rz => ?_) fun b H' hb sm => ?_) (fun u s3 hq => ClX.unpinE hq) fun _ _ q => q
  · have hf2 := (J.pin _ (List.mem_append_right _ hp)).1
    refine lam1_call (k := k) J L hf2 (sm _ _ hco) (hbind _ _ _ _ _ _) J.env0.in1.in1 hr.in1.in1 hN hj rz (fun hr2 => hbody _ _ _ _ _ hr2) ?_
    exact hturn i z H' _ hz (eN.trans (ExtN.of sm)) fun y H3 s3 d => ⟨s3, d⟩
  · exact hfin b H' hb (eN.trans (ExtN.of sm)) (T2.ext sm)
end
end OP
namespace OP
open PySem PySem.Spec PyProof.Rows L2 LamX
/-! ### all sets, put in order -/
def subs (ys : List Str) : List (List Str) := ys.foldl (fun acc y => acc ++ acc.map (· ++ [y])) [[]]
theorem subs_take {ys : List Str} {i : Nat} (h : i < ys.length) : subs (ys.take (i + 1)) = subs (ys.take i) ++ (subs (ys.take i)).map (· ++ [ys[i]]) := by
  unfold subs
  rw [List.take_add_one, List.getElem?_eq_getElem h, Option.toList_some, List.foldl_append]
  rfl
def keyD (ys : List Str) (one : List Str) : PyData := .tuple [.int one.length, .list (one.map fun y => PyData.int (ys.idxOf y))]
def rank (ys : List Str) (z : List Str) : Nat := (setsOf ys).idxOf z
structure SubOk (ys : List Str) : Prop where
  le : ∀ a ∈ subs ys, ∀ b ∈ subs ys, PySem.W.dataLe false (keyD ys) a b = decide (rank ys a ≤ rank ys b)
  perm : (setsOf ys).Perm (subs ys)
  alike : ∀ a ∈ subs ys, ∀ b ∈ subs ys, PySem.W.alike (keyD ys a) (keyD ys b) = true
  sorted : (setsOf ys).Pairwise fun a b => decide (rank ys a ≤ rank ys b) = true
  mem : ∀ a ∈ subs ys, a.length ≤ 4 ∧ ∀ y ∈ a, y ∈ ys
  len : ∀ i, i ≤ ys.length → (subs (ys.take i)).length ≤ 16
  len4 : ∀ i, i ≤ ys.length → ∀ a ∈ subs (ys.take i), a.length ≤ 4
theorem sub2 : SubOk (allNames.take 2) := ⟨by decide +kernel, by decide +kernel, by decide +kernel, by decide +kernel, by decide +kernel, by decide +kernel, by decide +kernel⟩
theorem sub3 : SubOk (allNames.take 3) := ⟨by decide +kernel, by decide +kernel, by decide +kernel, by decide +kernel, by decide +kernel, by decide +kernel, by decide +kernel⟩
theorem sub4 : SubOk (allNames.take 4) := ⟨by decide +kernel, by decide +kernel, by decide +kernel, by decide +kernel, by decide +kernel, by decide +kernel, by decide +kernel⟩
theorem sub_ok {m : Nat} (h2 : 2 ≤ m) (h4 : m ≤ 4) : SubOk (allNames.take m) := by
  obtain rfl | rfl | rfl : m = 2 ∨ m = 3 ∨ m = 4 := by omega
  · exact sub2
  · exact sub3
  · exact sub4
theorem sort_sets {ys : List Str} (h : SubOk ys) : (subs ys).mergeSort (PySem.W.dataLe false (keyD ys)) = setsOf ys := by
  have e1 : (subs ys).mergeSort (PySem.W.dataLe false (keyD ys)) = (subs ys).mergeSort fun a b => decide (rank ys a ≤ rank ys b) := by
    have := List.map_mergeSort (r := PySem.W.dataLe false (keyD ys)) (s := fun a b => decide (rank ys a ≤ rank ys b)) (f := id) (l := subs ys) h.le
    rw [List.map_id, List.map_id] at this
    exact this
  rw [e1]
  refine List.Perm.eq_of_pairwise (le := fun a b => decide (rank ys a ≤ rank ys b) = true) (fun a b ha hb h1 h2 => ?_) (List.pairwise_mergeSort (fun a b c x y => ?_) (fun a b => ?_) _) h.sorted ((List.mergeSort_perm _ _).trans h.perm.symm)
  · have e : rank ys a = rank ys b := Nat.le_antisymm (of_decide_eq_true h1) (of_decide_eq_true h2)
    have ma : a ∈ setsOf ys := h.perm.symm.mem_iff.mp ((List.mergeSort_perm _ _).mem_iff.mp ha)
    unfold rank at e
    have g1 := List.getElem_idxOf (List.idxOf_lt_length_of_mem ma)
    have g2 := List.getElem_idxOf (List.idxOf_lt_length_of_mem hb)
    rw [← g1, ← g2]
    congr 1
  · exact decide_eq_true (Nat.le_trans (of_decide_eq_true x) (of_decide_eq_true y))
  · rcases Nat.le_total (rank ys a) (rank ys b) with z | z
    · rw [decide_eq_true z, Bool.true_or]
    · rw [decide_eq_true z, Bool.or_true]
end OP
namespace OP
open PySem PySem.Spec PyProof.Rows L2 LamX
section
variable {X : Cx}
end
abbrev lamScope : Scope := { kind := .function, names := [("_law_one", .local), ("_law_names", .free), ("len", .globalImplicit)], isGenerator := false, isCoroutine := false, more := [("fast", .str "_law_one"), ("fast", .str "_law_name"), ("fast", .str "_law_names")] }
abbrev lamQ : Str := (envOfC "_law_sets" (defScope s__law_sets) 0 0 .none).qual ++ "<lambda>"
/-- the def that sorts by a lambda: its code object's table -/
structure LamTab (K : PySem.W.Frag) (mg : Str → Option Value) (base : Heap) (P : Addr) : Prop where
  ex : ∃ (oc : Value) (od : Option Addr) (kV doc pm : Value) (an : Option Addr) (ct : Value) (osl : Array (Option Value)) (c : Addr),
    K.lookup (a__law_sets K) = some ⟨oc, od, .func (PySem.W.fnOf "_law_sets" "_law_sets" (defArgs s__law_sets) (defBody s__law_sets) (defScope s__law_sets) .none kV doc pm an (.ref c) ct), osl⟩ ∧ PySem.W.codeIn K (.ref c) "_law_sets" = true ∧ LamX.TabB base mg c P
  kp : PySem.W.keepIn K (.ref (a__law_sets K)) = true
def keyOf (ys : List Str) (Z : Nts) (v : V) : PyData := match Z.find? (fun p => decide (V.ref p.1 = v)) with
  | some p => keyD ys p.2
  | none => .none
theorem strs_inj : ∀ {xs ys : List Str}, xs.map V.str = ys.map V.str → xs = ys
  | [], [], _ => rfl
  | [], _ :: _, h => by cases h
  | _ :: _, [], h => by cases h
  | x :: xs, y :: ys, h => by
    obtain ⟨h1, h2⟩ := List.cons.inj h
    rw [V.str.inj h1, strs_inj h2]
theorem keyOf_at {ys : List Str} {Z : Nts} {H : Hp} (h : NtsAt H Z) {p : Addr × List Str} (hp : p ∈ Z) : keyOf ys Z (.ref p.1) = keyD ys p.2 := by
  unfold keyOf
  cases e : Z.find? (fun q => decide (V.ref q.1 = V.ref p.1)) with
  | none =>
    have z := List.find?_eq_none.mp e p hp
    simp at z
  | some q =>
    have e0 := List.find?_some e
    simp only [decide_eq_true_eq] at e0
    have e1 : q.1 = p.1 := V.ref.inj e0
    have h1 := h q (List.mem_of_find?_eq_some e)
    rw [e1, h p hp] at h1
    injection h1 with h1
    injection h1 with h1
    show keyD ys q.2 = _
    rw [strs_inj h1]
theorem keyD_depth (ys one : List Str) : (keyD ys one).depth ≤ 2 := by
  have e : PyData.depthAll (one.map fun y => PyData.int (ys.idxOf y)) = 0 := by
    induction one with
    | nil => rfl
    | cons y one ih => simp only [List.map_cons, PyData.depthAll, PyData.depth, ih, Nat.max_self]
  unfold keyD
  simp only [PyData.depth, PyData.depthAll, e]
  decide
theorem dp_map {K : PySem.W.Frag} {H : Hp} {α : Type} (f : α → Int) : ∀ xs : List α, DpAll K H (xs.map fun y => V.int (f y)) (xs.map fun y => PyData.int (f y))
  | [] => .nil
  | x :: xs => .cons (.int _) (dp_map f xs)
theorem NtsAt.exn {H H' : Hp} {Z : Nts} (e : ExtN H H') (h : NtsAt H Z) : NtsAt H' Z := fun p hp => e _ _ (h p hp) (fun _ z => by cases z)
theorem NtsAt.off {H : Hp} {A : Nts} {D : Addr} {ys : List V} {o : HO} (hd : H D = some (.lst ys)) (h : NtsAt H A) : NtsAt (upd H D o) A := fun p hp => by
  rw [upd_ne (tup_ne (h p hp) hd)]
  exact h p hp
theorem nrefs_len (Z : Nts) : (nrefs Z).length = Z.length := List.length_map ..
section
variable {P : Program} {w : World} {K : PySem.W.Frag} {mg : Str → Option Value} {base : Heap}
def spLSets (K : PySem.W.Frag) (TT : List (Addr × Str)) : Sp := fun vs H Q _ => ∃ (l : Addr) (m : Nat), vs = [.ref l] ∧ 2 ≤ m ∧ m ≤ 4 ∧ H l = some (.lst ((allNames.take m).map V.str)) ∧ Tabs TT H ∧
  ∀ (H' : Hp) (r : Addr) (Z : Nts), ExtN H H' → Tabs TT H' → H' r = some (.lst (nrefs Z)) → NtsAt H' Z → Z.map (·.2) = setsOf (allNames.take m) → Q (.ref r) H'
abbrev sNames : List Str := ["_law_names", "_law_found", "_law_name", "_law_one"]
theorem sc_lsets : FnScope sNames ["_law_names"] (defScope s__law_sets) := ⟨rfl, rfl, rfl, by decide +kernel, rfl, by decide +kernel, by decide +kernel⟩
theorem ok_lsets (T : Txt K mg) {Pt : Addr} {TT : List (Addr × Str)} (LT : LamTab K mg base Pt) (hmT : (Pt, lamQ) ∈ TT) (huT : ∀ q ∈ TT, q.1 = Pt → q.2 = lamQ) : Ok P w K mg base (a__law_sets K) ["_law_names"] 5 (spLSets K TT) := by
  obtain ⟨⟨oc, od, kV, doc, pm, an, ct, osl, c, lk, hcd, TB⟩, kp⟩ := LT
  refine ⟨⟨_, fn_of lk hcd sc_lsets (fun vs H Q E h => ?_) (fun A outer s H vs Q E hr h => ?_), .all (fun us hl => match us, hl with | [_], _ => rfl)⟩, kp⟩
  · obtain ⟨l, m, rfl, _⟩ := h
    rfl
  · obtain ⟨l, m, rfl, m2, m4, hl, tabs, kk⟩ := h
    have hr3 : Room 3 _ := hr.mono (by decide)
    suffices h : ∃ t, PSs (cxOf CX0 P w K mg base sNames "_law_sets" (defScope s__law_sets) (a__law_sets K) (.ref c) A outer s H E).nox (defBody s__law_sets) t ∧ t { nx := fun _ H' => Q .non H', rt := Q } (start sNames [.ref l]) H by
      obtain ⟨t, h, q⟩ := h
      exact ⟨t, h.nox, q⟩
    refine ⟨_, pss_cons (ps_set (i := 1) sc_lsets.nd rfl (Or.inl rfl) (pe_lst (pa_cons (pe_tup pa_nil) pa_nil)))
      (pss_cons (ps_for PassesOwn.never rfl (pi_list (pv 0)) (pg_name (i := 2) sc_lsets.nd rfl (Or.inr rfl)) (pss_one (ps_set (i := 1) sc_lsets.nd rfl (Or.inl rfl) (pe_op op_cat (pv 1) (pe_lc (own := [("_law_one", 3)]) (g := gName 3) (tt := tYes) rfl sc_lsets.nd (pi_list (pv 1)) (blkOk_by (own := [("_law_one", 3)]) (N := sNames) (sc := defScope s__law_sets) (by decide +kernel))
        (fun _ _ _ _ _ => pg_name (i := 3) sc_lsets.nd rfl (Or.inl rfl)) (fun _ _ _ _ _ => pts_nil)
        (fun _ _ _ _ _ => pe_op (op_catAK K) (pv 3) (pe_tup (pa_cons (pv 2) pa_nil))))))))
      (pss_one (ps_ret (pe_sortLam (T := TT) (c := c) (P := Pt) (k := 0) (j := 3) (a := "_law_one") (pa_cons (pv 1) pa_nil) (by rfl) T.z_sorted (by decide +kernel) TB rfl hmT huT hr3 (lam1_by (sc := defScope s__law_sets) (scope := lamScope) (by decide +kernel)) rfl sc_lsets.nd rfl (fun _ _ _ _ _ _ => rfl)
        (fun A' s' H' f c' hr' => pe_tup (pa_cons (pe_callB (call_ln K) (by rfl) T.z_len PySem.boot_len (pa_cons (pv 3) pa_nil)) (pa_cons (pe_lc (own := [("_law_name", 2)]) (g := gName 2) (tt := tYes) rfl sc_lsets.nd (pi_tupK K (pv 3)) (blkOk_by (own := [("_law_name", 2)]) (N := sNames) (sc := lamScope) (by decide +kernel))
          (fun _ _ _ _ _ => pg_name (i := 2) sc_lsets.nd rfl (Or.inl rfl)) (fun _ _ _ _ _ => pts_nil)
          (fun _ _ _ _ _ => tbmK K (pe_bm PySem.F.plainAttrs_list PySem.F.slot_list_index PySem.F.type_list_index (mt_indexK K) (pv 0) (pa_cons (pv 2) pa_nil)))) pa_nil))))))), ?_⟩
    have so := sub_ok m2 m4
    generalize hys : allNames.take m = ys at hl kk so
    have ysn : ys.Nodup := by rw [← hys]; exact all_nd.sublist (List.take_sublist _ _)
    have hml : (ys.map V.str).length = ys.length := List.length_map ..
    refine ⟨(by show 0 ≤ sizeLine; exact Nat.zero_le _), fun t ht => ⟨(by show 1 ≤ sizeLine; decide), fun f hf => ?_⟩⟩
    have s1 : Same H _ := same_upd (o := .tup []) ht
    have s2 : Same H _ := s1.push (o := .lst [V.ref t]) hf
    refine ⟨_, rfl, l, rfl, ⟨_, SqL.of (s2 _ _ hl)⟩, for_list (K := K) (a := l) (xs := ys.map V.str) (fun i σ H' => ∃ (f : Addr) (Z : Nts) (v2 : Option V), σ = [some (.ref l), some (.ref f), v2, none] ∧ Same H H' ∧ H' f = some (.lst (nrefs Z)) ∧ NtsAt H' Z ∧ Z.map (·.2) = subs (ys.take i))
      ⟨f, [(t, [])], none, rfl, s2, upd_same, fun p hp => ?_, rfl⟩ (fun i σ H' _ q => ?_) (fun i x σ H1 hx q => ?_) fun σ H1 q => ?_⟩
    · obtain rfl := List.mem_singleton.mp hp
      show upd _ f _ t = _
      rw [upd_ne (ne_of_none upd_same hf)]
      exact upd_same
    · obtain ⟨_, _, _, _, s3, _⟩ := q
      exact SqL.of (s3 _ _ hl)
    · obtain ⟨f, Z, v2, rfl, s3, hf, hZ, eZ⟩ := q
      obtain ⟨y, hy, rfl⟩ := strs_at' hx
      have hil : i < ys.length := (List.getElem?_eq_some_iff.mp hy).1
      have eyi : ys[i] = y := (List.getElem?_eq_some_iff.mp hy).2
      have zl : Z.length ≤ 16 := by
        have h1 : Z.length = (Z.map (·.2)).length := (List.length_map ..).symm
        rw [h1, eZ]
        exact so.len i (Nat.le_of_lt hil)
      refine ⟨_, rfl, _, rfl, f, rfl, ⟨_, SqL.of hf⟩, fun D hD => ?_⟩
      refine lc_it (walk_list (K := K) (a := f) (xs := nrefs Z)) (fun j H' => ∃ Z2 : Nts, Same H1 H' ∧ H' D = some (.lst (nrefs Z2)) ∧ NtsAt H' Z2 ∧ Z2.map (·.2) = ((Z.map (·.2)).take j).map (· ++ [y])) ⟨[], same_upd hD, upd_same, (fun p hp => absurd hp List.not_mem_nil), by rw [List.take_zero] <;> rfl⟩ (fun j H' _ q => ?_) (fun j x H2 H3 hj q yy => ?_) (fun H2 q => ?_)
      · obtain ⟨_, s4, _⟩ := q
        exact SqL.of (s4 _ _ hf)
      · obtain ⟨Z2, s4, hD4, hZ4, eZ4⟩ := q
        obtain ⟨rfl, hxj⟩ := yy
        have hjZ : j < Z.length := by rw [nrefs_len] at hj; exact hj
        unfold nrefs at hxj
        rw [List.getElem?_map, List.getElem?_eq_getElem hjZ] at hxj
        obtain rfl := (Option.some.inj hxj).symm
        have mem : Z[j] ∈ Z := List.getElem_mem hjZ
        have hq : H3 Z[j].1 = some (.tup (Z[j].2.map V.str)) := s4 _ _ (hZ _ mem)
        have l4 : Z[j].2.length ≤ 4 := so.len4 i (Nat.le_of_lt hil) _ (by rw [← eZ]; exact List.mem_map.mpr ⟨Z[j], mem, rfl⟩)
        have lz2 : Z2.length = j := by
          have h1 : Z2.length = (Z2.map (·.2)).length := (List.length_map ..).symm
          rw [h1, eZ4, List.length_map, List.length_take, List.length_map]
          omega
        have step : ∀ (H7 : Hp) (q : Addr), Same H3 H7 → H7 q = some (.tup ((Z[j].2 ++ [y]).map V.str)) → ∃ acc, H7 D = some (.lst acc) ∧ acc.length < sizeLine ∧ ∃ Z2 : Nts, Same H1 (upd H7 D (.lst (acc ++ [V.ref q]))) ∧ upd H7 D (.lst (acc ++ [V.ref q])) D = some (.lst (nrefs Z2)) ∧ NtsAt (upd H7 D (.lst (acc ++ [V.ref q]))) Z2 ∧ Z2.map (·.2) = ((Z.map (·.2)).take (j + 1)).map (· ++ [y]) := fun H7 q s7 hq7 => by
          have e1 := s7 _ _ hD4
          refine ⟨_, e1, small1000 (by rw [nrefs_len]; omega), Z2 ++ [(q, Z[j].2 ++ [y])], fun b u e => ?_, ?_, NtsAt.off e1 ((hZ4.ext s7).snoc hq7), ?_⟩
          · rw [upd_ne (ne_of_none e hD)]
            exact s7 _ _ (s4 _ _ e)
          · rw [upd_same, nrefs_snoc]
          · have e6 : (Z.map (·.2)).take (j + 1) = (Z.map (·.2)).take j ++ [Z[j].2] := by
              rw [List.take_add_one, List.getElem?_map, List.getElem?_eq_getElem hjZ] <;> rfl
            rw [List.map_append, eZ4, e6, List.map_append] <;> rfl
        refine ⟨rfl, tyes (iteT ⟨_, rfl, _, rfl, (by show 1 ≤ sizeLine; decide), fun t2 ht2 => ?_⟩)⟩
        have s6 : Same H3 _ := same_upd (o := .tup [V.str y]) ht2
        refine ⟨Z[j].1, t2, Z[j].2.map V.str, [V.str y], rfl, rfl, SqT.of (s6 _ _ hq), SqT.of upd_same, ?_, fun e => ?_, fun _ z => absurd z (List.cons_ne_nil _ _), fun _ _ q hq' => ?_⟩
        · rw [List.length_map, List.length_singleton]
          exact Nat.le_trans (show Z[j].2.length + 1 ≤ 1000 by omega) (by decide)
        · refine step _ t2 s6 ?_
          rw [List.map_append, e] <;> exact upd_same
        · refine step _ q (s6.push hq') ?_
          rw [List.map_append] <;> exact upd_same
      · obtain ⟨Z2, s4, hD4, hZ4, eZ4⟩ := q
        rw [List.take_of_length_le (by rw [nrefs_len, List.length_map]; exact Nat.le_refl _)] at eZ4
        have lz2 : Z2.length ≤ 16 := by
          have h1 : Z2.length = (Z2.map (·.2)).length := (List.length_map ..).symm
          rw [h1, eZ4, List.length_map, List.length_map]
          exact zl
        refine ⟨f, D, _, _, rfl, rfl, s4 _ _ hf, hD4, ?_, fun p hp => ?_⟩
        · rw [nrefs_len, nrefs_len]
          exact Nat.le_trans (show Z.length + Z2.length ≤ 1000 by omega) (by decide)
        · have s5 : Same H2 _ := same_upd (o := .lst (nrefs Z ++ nrefs Z2)) hp
          refine ⟨p, Z ++ Z2, _, rfl, (s3.trans s4).trans s5, ?_, fun q hq => ?_, ?_⟩
          · rw [upd_same]
            unfold nrefs
            rw [List.map_append]
          · rcases List.mem_append.mp hq with z | z
            · exact s5 _ _ (s4 _ _ (hZ q z))
            · exact s5 _ _ (hZ4 q z)
          · rw [List.map_append, eZ, eZ4, eZ, subs_take hil, eyi]
    · obtain ⟨f, Z, v2, rfl, s3, hf, hZ, eZ⟩ := q
      rw [hml, List.take_length] at eZ
      have l1 := s3 _ _ hl
      have memS : ∀ p ∈ Z, p.2 ∈ subs ys := fun p hp => by rw [← eZ]; exact List.mem_map.mpr ⟨p, hp, rfl⟩
      have keys : ∀ d ∈ (nrefs Z).map (keyOf ys Z), ∃ a ∈ subs ys, d = keyD ys a := fun d hd => by
        unfold nrefs at hd
        rw [List.map_map] at hd
        obtain ⟨p, hp, rfl⟩ := List.mem_map.mp hd
        exact ⟨p.2, memS p hp, keyOf_at hZ hp⟩
      refine ⟨_, rfl, f, nrefs Z, keyOf ys Z, rfl, SqL.of hf, tabs.ext s3, fun d hd d' hd' => ?_, .inl fun d hd => ?_, fun d hd => ?_, fun i z H' Q' hz e' kq => ?_, fun a H' ha e' t' => ?_⟩
      · obtain ⟨a, ha, rfl⟩ := keys d hd
        obtain ⟨b, hb, rfl⟩ := keys d' hd'
        exact so.alike a ha b hb
      · obtain ⟨a, ha, rfl⟩ := keys d hd
        exact ⟨_, _, rfl⟩
      · obtain ⟨a, ha, rfl⟩ := keys d hd
        have h1 := keyD_depth ys a
        have h2 := hr.un
        show (A.deeper _).units + 1 + 1 + _ < cLine
        omega
      · have hiZ : i < Z.length := by rw [← nrefs_len]; exact (List.getElem?_eq_some_iff.mp hz).1
        unfold nrefs at hz
        rw [List.getElem?_map, List.getElem?_eq_getElem hiZ] at hz
        obtain rfl := (Option.some.inj hz).symm
        have mem : Z[i] ∈ Z := List.getElem_mem hiZ
        obtain ⟨l4, inY⟩ := so.mem _ (memS _ mem)
        have hq : H' Z[i].1 = some (.tup (Z[i].2.map V.str)) := e' _ _ (hZ _ mem) (fun _ z => by cases z)
        have hl' : H' l = some (.lst (ys.map V.str)) := e' _ _ l1 (fun _ z => by cases z)
        have hm : (Z[i].2.map V.str).length = Z[i].2.length := List.length_map ..
        refine ⟨_, rfl, Z[i].1, _, rfl, .inr (SqT.of hq), _, rfl, Z[i].1, rfl, ⟨_, SqT.of hq⟩, fun D hD => ?_⟩
        refine lcT_map (K := K) (a := Z[i].1) (xs := Z[i].2.map V.str) (Z[i].2.map fun y => V.int (ys.idxOf y)) hD (SqT.of hq) (by rw [hm]; omega) (by rw [hm, List.length_map]) (fun j x v H2 Qe hx hv s4 kq2 => ?_) fun H2 s4 e4 => ?_
        · obtain ⟨y, hy, rfl⟩ := strs_at' hx
          rw [List.getElem?_map, hy] at hv
          obtain rfl := Option.some.inj hv
          have my : y ∈ ys := inY y (List.mem_of_getElem? hy)
          have lt := List.idxOf_lt_length_of_mem my
          have ge := List.getElem_idxOf lt
          refine ⟨_, rfl, .inl ⟨rfl, _, SqL.of (s4 _ _ hl')⟩, _, rfl, l, ys.map V.str, .str y, ys.idxOf y, .str y, rfl, rfl, SqL.of (s4 _ _ hl'), rfl, ?_, ?_, ?_, fun n z' hn hz' => ?_, kq2 H2 (Same.refl _)⟩
          · rw [List.all_eq_true]
            intro v hv
            obtain ⟨_, _, rfl⟩ := List.mem_map.mp hv
            rfl
          · rw [List.getElem?_map, List.getElem?_eq_getElem lt, ge] <;> rfl
          · show (y == y) = true
            exact beq_self_eq_true y
          · obtain ⟨y', hy', rfl⟩ := strs_at' hz'
            show (y' == y) = false
            refine beq_eq_false_iff_ne.mpr fun z => ?_
            obtain ⟨hn2, e2⟩ := List.getElem?_eq_some_iff.mp hy'
            have := (List.getElem_inj (h₀ := hn2) (h₁ := lt) ysn).mp (by rw [e2, ge, z])
            omega
        · refine ⟨(by show 2 ≤ sizeLine; decide), fun p hp => ?_⟩
          have s5 : Same H2 _ := same_upd (o := .tup [.int ((Z[i].2.map V.str).length : Int), .ref D]) hp
          refine kq _ _ (s4.trans s5) ?_
          rw [keyOf_at hZ mem]
          unfold keyD
          refine .tup (SqT.of upd_same) (.cons ?_ (.cons (.lst (SqL.of (s5 _ _ e4)) (dp_map _ _)) .nil))
          rw [hm]
          exact .int _
      · have s4 : Same H' _ := same_upd (o := .lst ((nrefs Z).mergeSort (PySem.W.dataLe false (keyOf ys Z)))) ha
        have hZ' := hZ.exn e'
        have mm : ((Z.mergeSort fun p q => PySem.W.dataLe false (keyD ys) p.2 q.2)).map (fun p => V.ref p.1) = (nrefs Z).mergeSort (PySem.W.dataLe false (keyOf ys Z)) :=
          List.map_mergeSort (r := fun p q : Addr × List Str => PySem.W.dataLe false (keyD ys) p.2 q.2) (s := PySem.W.dataLe false (keyOf ys Z)) (f := fun p : Addr × List Str => V.ref p.1) (l := Z) fun p hp q hq => by
            rw [PySem.W.dataLe_eq, PySem.W.dataLe_eq]
            show (!_) = (!_)
            rw [keyOf_at hZ hp, keyOf_at hZ hq]
        have ms : ((Z.mergeSort fun p q => PySem.W.dataLe false (keyD ys) p.2 q.2)).map (fun p => p.2) = (Z.map (fun p => p.2)).mergeSort (PySem.W.dataLe false (keyD ys)) :=
          List.map_mergeSort (r := fun p q : Addr × List Str => PySem.W.dataLe false (keyD ys) p.2 q.2) (s := PySem.W.dataLe false (keyD ys)) (f := fun p : Addr × List Str => p.2) (l := Z) fun p hp q hq => rfl
        refine kk _ a (Z.mergeSort fun p q => PySem.W.dataLe false (keyD ys) p.2 q.2) ((ExtN.of s3).trans (e'.trans (ExtN.of s4))) (t'.ext s4) ?_ (fun p hp => s4 _ _ (hZ' p ((List.mergeSort_perm _ _).mem_iff.mp hp))) ?_
        · rw [upd_same]
          unfold nrefs at mm ⊢
          rw [mm]
        · rw [ms, eZ]
          exact sort_sets so
end
end OP
namespace OP
open PySem PySem.Spec PyProof.Rows GenW L2
theorem free_iff {E : Ents} {ys : List Str} {y : Str} : y ∈ freeN E ys ↔ y ∈ ys ∧ ∀ o ∈ ys, bef E o y = false := by
  unfold freeN
  rw [List.mem_filter]
  simp
theorem free_some (E : Ents) : ∀ (n : Nat) {zs ys : List Str}, cyc E n zs = false → zs.length ≤ n → (∀ y ∈ ys, y ∈ zs) → ys ≠ [] → freeN E ys ≠ []
  | n, zs, ys, hc, hl, sub, ne => by
    have zne : zs ≠ [] := fun z => by
      obtain ⟨y, hy⟩ := List.exists_mem_of_ne_nil _ ne
      have := sub y hy
      rw [z] at this
      cases this
    have fz : freeN E zs ≠ [] := fun z => by
      rw [cyc_none hl zne z] at hc
      cases hc
    by_cases h : ∃ y ∈ ys, y ∈ freeN E zs
    · obtain ⟨y, hy, hf⟩ := h
      have : y ∈ freeN E ys := free_iff.mpr ⟨hy, fun o ho => (free_iff.mp hf).2 o (sub o ho)⟩
      exact fun z => by rw [z] at this; cases this
    · obtain ⟨m, rfl, lm, ec⟩ := cyc_step hl fz
      rw [ec] at hc
      exact free_some E m hc lm (fun y hy => List.mem_filter.mpr ⟨sub y hy, by
        have : y ∉ freeN E zs := fun q => h ⟨y, hy, q⟩
        simp [this]⟩) ne
theorem without_sub {ys : List Str} {y x : Str} (h : x ∈ withoutN ys y) : x ∈ ys ∧ x ≠ y := by
  unfold withoutN at h
  obtain ⟨h1, h2⟩ := List.mem_filter.mp h
  exact ⟨h1, by simpa using h2⟩
theorem allow_some {E : Ents} {ns : List Str} (fr : ∀ ys : List Str, (∀ y ∈ ys, y ∈ ns) → ys ≠ [] → freeN E ys ≠ []) : ∀ (n : Nat) (ys : List Str), ys.length ≤ n → (∀ y ∈ ys, y ∈ ns) → allowN E n ys ≠ []
  | 0, ys, _, _ => by
    show ([[]] : List (List Str)) ≠ []
    exact List.cons_ne_nil _ _
  | n + 1, ys, hl, sub => by
    show (if ys = [] then [[]] else (freeN E ys).flatMap fun y => (allowN E n (withoutN ys y)).map (y :: ·)) ≠ []
    by_cases ne : ys = []
    · rw [if_pos ne]
      exact List.cons_ne_nil _ _
    · rw [if_neg ne]
      obtain ⟨y, hy⟩ := List.exists_mem_of_ne_nil _ (fr ys sub ne)
      have lt := without_lt (free_mem hy)
      obtain ⟨o, ho⟩ := List.exists_mem_of_ne_nil _ (allow_some fr n (withoutN ys y) (by omega) fun x hx => sub x (without_sub hx).1)
      have : (y :: o) ∈ (freeN E ys).flatMap fun y => (allowN E n (withoutN ys y)).map (y :: ·) := List.mem_flatMap.mpr ⟨y, hy, List.mem_map.mpr ⟨o, ho, rfl⟩⟩
      exact fun z => by rw [z] at this; cases this
theorem allow_ord (E : Ents) : ∀ (n : Nat) (ys o : List Str), o ∈ allowN E n ys → o.Nodup ∧ ∀ x ∈ o, x ∈ ys
  | 0, _, o, ho => by
    obtain rfl := List.mem_singleton.mp ho
    exact ⟨List.nodup_nil, fun x hx => (by cases hx)⟩
  | n + 1, ys, o, ho => by
    have ho : o ∈ (if ys = [] then [[]] else (freeN E ys).flatMap fun y => (allowN E n (withoutN ys y)).map (y :: ·)) := ho
    split at ho
    · obtain rfl := List.mem_singleton.mp ho
      exact ⟨List.nodup_nil, fun x hx => (by cases hx)⟩
    · obtain ⟨y, hy, h2⟩ := List.mem_flatMap.mp ho
      obtain ⟨r, hr, rfl⟩ := List.mem_map.mp h2
      obtain ⟨h3, h4⟩ := allow_ord E n _ r hr
      refine ⟨List.nodup_cons.mpr ⟨fun z => (without_sub (h4 y z)).2 rfl, h3⟩, fun x hx => ?_⟩
      rcases List.mem_cons.mp hx with e | hx
      · rw [e]; exact free_mem hy
      · exact (without_sub (h4 x hx)).1
end OP
namespace OP
open PySem PySem.Spec PyProof.Rows GenW L2
theorem noI_tuple_add : typeLookup (.type "tuple") (dunderI "add") = pure none := by rw [typeLookup_type, builtinLookup_eq_fast]; kernel_rfl
theorem pe_imp {X : Cx} {e : Expr} {t t2 : TE} (h : PE X e t) (f : ∀ σ H Q, t2 σ H Q → t σ H Q) : PE X e t2 := ⟨fun pins s σ H Q I q => h.run pins s σ H Q I (f σ H Q q)⟩
theorem pt_imp {X : Cx} {e : Expr} {t t2 : TT} (h : PT X e t) (f : ∀ σ H Q, t2 σ H Q → t σ H Q) : PT X e t2 := ⟨fun pins s σ H Q I q => h.run pins s σ H Q I (f σ H Q q)⟩
section
variable {X : Cx}
theorem ip_tup : PIp X .Add (rCatA X.K) := by
  intro pins s σ H x y v u Q I rx ry h
  obtain ⟨a, b, xs, ys, rfl, rfl, ha, hb, hz, q0, q1, q2⟩ := h
  cases rx
  cases ry
  obtain ⟨its, r1, p1, _⟩ := I.tuple ha
  obtain ⟨its2, r2, p2, _⟩ := I.tuple hb
  obtain ⟨⟨cls, dd, data, sl⟩, ho, hc, n, hd⟩ := id p1
  obtain ⟨⟨cls2, dd2, data2, sl2⟩, ho2, hc2, n2, hd2⟩ := id p2
  simp only at hc hd hc2 hd2
  subst hc hd hc2 hd2
  refine wpAny_inplaceOp_concat ⟨_, ho, rfl⟩ ⟨_, ho2, rfl⟩ noI_tuple_add noFill_tuple_add seq_tuple_add ?_
  by_cases hx : xs = []
  · subst hx
    cases r1
    exact call_meets PySem.F.slot_tuple_add ⟨_, ho, rfl⟩ PySem.F.entry_tuple_add (PySem.F.args_tuple_add_2 _ _) (tuple_addW0 a b ([] : List Value).toArray its2.toArray n n2 dd dd2 sl sl2 (by simp)) ⟨ho, ho2, ⟨.ref b, H, I, rfl, q0 rfl⟩⟩
  · have hv : its ≠ [] := fun z => hx (r1.nil_iff.mp z)
    by_cases hw : ys = []
    · exact call_meets PySem.F.slot_tuple_add ⟨_, ho, rfl⟩ PySem.F.entry_tuple_add (PySem.F.args_tuple_add_2 _ _) (tuple_addW1 a b its.toArray its2.toArray n n2 dd dd2 sl sl2 (by simpa using hv) (by simp [r2.nil_iff.mpr hw])) ⟨ho, ho2, ⟨.ref a, H, I, rfl, q1 hx hw⟩⟩
    · have hw' : its2 ≠ [] := fun z => hw (r2.nil_iff.mp z)
      refine call_meets PySem.F.slot_tuple_add ⟨_, ho, rfl⟩ PySem.F.entry_tuple_add (PySem.F.args_tuple_add_2 _ _) (tuple_addW2 a b its.toArray its2.toArray n n2 dd dd2 sl sl2 (by simpa using hv) (by simpa using hw') (by rw [List.size_toArray, List.size_toArray, ← r1.length, ← r2.length]; exact hz)) ⟨ho, ho2, ?_⟩
      have e : its.toArray ++ its2.toArray = (its ++ its2).toArray := by simp
      rw [e]
      refine ⟨.ref s.heap.objs.size, _, I.laid (t' := s.toks) (o := .tup (xs ++ ys)) (fun b ob q => Heap.get?_push_of_some _ q) (Nat.le_refl _) ?_, rfl, q2 hx hw _ (I.hok.fresh (Nat.le_refl _))⟩
      exact ⟨by rw [List.length_append]; exact hz, _, r1.append r2, IsTup.new _ _⟩
end
/-- the order in which a replica applies what it has: again and again the first that is free -/
def lineN (E : Ents) : Nat → List Str → List Str
  | 0, _ => []
  | n + 1, ys => match freeN E ys with
    | [] => []
    | y :: _ => y :: lineN E n (withoutN ys y)
def comN : List Str → List Str → Nat
  | a :: as, b :: bs => if a = b then comN as bs + 1 else 0
  | _, _ => 0
theorem line_nil (E : Ents) (n : Nat) : lineN E n [] = [] := by
  cases n with
  | zero => rfl
  | succ n => rfl
theorem line_step {E : Ents} {n : Nat} {ys : List Str} (h : ys.length ≤ n) (ne : ys ≠ []) (hf : freeN E ys ≠ []) : ∃ m y zs, n = m + 1 ∧ freeN E ys = y :: zs ∧ lineN E n ys = y :: lineN E m (withoutN ys y) := by
  cases n with
  | zero => exact absurd (List.length_eq_zero_iff.mp (by omega)) ne
  | succ n =>
    cases e : freeN E ys with
    | nil => exact absurd e hf
    | cons y zs =>
      refine ⟨n, y, zs, rfl, rfl, ?_⟩
      show (match freeN E ys with | [] => [] | y :: _ => y :: lineN E n (withoutN ys y)) = _
      rw [e]
theorem none_back {H H' : Hp} {a : Addr} (s : Same H H') (h : H' a = none) : H a = none := by
  cases e : H a with
  | none => rfl
  | some o => rw [s _ _ e] at h; cases h
theorem com_le1 : ∀ xs ys : List Str, comN xs ys ≤ xs.length
  | [], _ => Nat.zero_le _
  | _ :: _, [] => Nat.zero_le _
  | a :: as, b :: bs => by
    show (if a = b then comN as bs + 1 else 0) ≤ as.length + 1
    have := com_le1 as bs
    split <;> omega
theorem com_le2 : ∀ xs ys : List Str, comN xs ys ≤ ys.length
  | [], _ => Nat.zero_le _
  | _ :: _, [] => Nat.zero_le _
  | a :: as, b :: bs => by
    show (if a = b then comN as bs + 1 else 0) ≤ bs.length + 1
    have := com_le2 as bs
    split <;> omega
theorem com_lt : ∀ (xs ys : List Str) (i : Nat), i < comN xs ys → ∃ y, xs[i]? = some y ∧ ys[i]? = some y
  | [], _, _, h => absurd h (Nat.not_lt_zero _)
  | _ :: _, [], _, h => absurd h (Nat.not_lt_zero _)
  | a :: as, b :: bs, i, h => by
    have h : i < (if a = b then comN as bs + 1 else 0) := h
    by_cases ab : a = b
    · rw [if_pos ab] at h
      cases i with
      | zero => exact ⟨a, rfl, by rw [ab]; rfl⟩
      | succ i =>
        obtain ⟨y, h1, h2⟩ := com_lt as bs i (by omega)
        exact ⟨y, h1, h2⟩
    · rw [if_neg ab] at h
      exact absurd h (Nat.not_lt_zero _)
theorem com_at : ∀ (xs ys : List Str) (x y : Str), xs[comN xs ys]? = some x → ys[comN xs ys]? = some y → x ≠ y
  | [], _, _, _, h, _ => (by cases h)
  | _ :: _, [], _, _, _, h => (by cases h)
  | a :: as, b :: bs, x, y, h1, h2 => by
    by_cases ab : a = b
    · have e : comN (a :: as) (b :: bs) = comN as bs + 1 := if_pos ab
      rw [e] at h1 h2
      exact com_at as bs x y h1 h2
    · have e : comN (a :: as) (b :: bs) = 0 := if_neg ab
      rw [e] at h1 h2
      obtain rfl := Option.some.inj h1
      obtain rfl := Option.some.inj h2
      exact ab
section
variable {P : Program} {w : PySem.World} {K : PySem.W.Frag} {mg : Str → Option Value} {base : Heap}
def spStart (K : PySem.W.Frag) : Sp := fun vs H Q _ => ∃ (p st : Addr) (xs : List Int) (n : Nat) (S : Sts) (L : Ncs), vs = [.ref p, .ref st] ∧ WorldAt K H p n S L ∧ StoreOk xs ∧ xs.length = n ∧ H st = some (.tup (xs.map V.int)) ∧ xs ∈ S.map (·.2) ∧ ∀ H', Same H H' → Q (.bl true) H'
theorem mem_any_eqv {S : List (List Int)} {xs : List Int} (h : xs ∈ S) : ((S.map dT).any fun z => PyData.eqv z (dT xs)) = true := by rw [any_eqv, decide_eq_true h]
theorem sc_istart : FnScope ["world", "store"] ["world", "store"] (defScope s_is_start) := ⟨rfl, rfl, rfl, by decide +kernel, rfl, by decide +kernel, by decide +kernel⟩
theorem ok_istart (T : Txt K mg) : Ok P w K mg base (a_is_start K) ["world", "store"] 4 (spStart K) := by
  have GS : Ok P w K mg base (a_is_store_of K) _ 3 spIsStoreOf := ok_is_store_of T
  refine ok_of T.f_is_start sc_istart (fun _ _ _ _ _ _ us hl => match us, hl with | [_, _], _ => rfl) (fun vs H Q E h => ?_) (fun cdv A outer s H vs Q E hr h => ?_)
  · obtain ⟨p, st, xs, n, S, L, rfl, _⟩ := h
    rfl
  · obtain ⟨p, st, xs, n, S, L, rfl, W, sx, hn, hst, hin, kk⟩ := h
    obtain ⟨⟨dx, l, d, hp, hl, hd⟩, hS, _⟩ := id W
    refine ⟨_, (pss_one (ps_ret (pe_and (pe_c GS hr T.g_is_store_of (pa_cons (pv 1) (pa_cons (pe_fld (pv 0) rfl) pa_nil))) (pe_one (pe_cmpR (op_inD (room65 hr)) (pv 1) (pe_fld (pv 0) rfl) (by rfl)))))), ?_⟩
    refine ⟨_, rfl, _, rfl, p, c_World K, dx, _, _, rfl, hp, T.o_World.cl, T.n_World_width, lookA, st, xs, n, rfl, hst, sx, by rw [hn], fun H1 s1 => ⟨true, rfl, iteT ?_⟩⟩
    refine ⟨_, rfl, _, rfl, p, c_World K, dx, _, _, rfl, s1 _ _ hp, T.o_World.cl, T.n_World_starts, lookB w_s, dT xs, _, dp_T (s1 _ _ hst), dp_Ts (s1 _ _ hl) (hS.ext s1), shp_T _, shp_Ts _, ?_⟩
    rw [mem_any_eqv hin]
    exact kk _ s1
/-- how long the tuple in a place is -/
def lenTAt (i : Nat) (σ : L2.St) (H : Hp) : Nat := match σ[i]? with
  | some (some (.ref l)) => (match H l with | some (.tup xs) => xs.length | _ => 0)
  | _ => 0
def spOrder (K : PySem.W.Frag) : Sp := fun vs H Q _ => ∃ (d a : Addr) (E : Ents) (ys : List Str), vs = [.ref d, .ref a] ∧ PolAt H d E ∧ H a = some (.lst (ys.map V.str)) ∧ ys.length ≤ 4 ∧ (∀ zs : List Str, (∀ z ∈ zs, z ∈ ys) → zs ≠ [] → freeN E zs ≠ []) ∧ ∀ H' r, Same H H' → H r = none → H' r = some (.tup ((lineN E 4 ys).map V.str)) → Q (.ref r) H'
theorem sc_orderof : FnScope ["policy", "received", "left", "order", "name"] ["policy", "received"] (defScope s_order_of) := ⟨rfl, rfl, rfl, by decide +kernel, rfl, by decide +kernel, by decide +kernel⟩
theorem ok_orderof (T : Txt K mg) : Ok P w K mg base (a_order_of K) ["policy", "received"] 2 (spOrder K) := by
  have GF : Ok P w K mg base (a_free_names K) _ 1 (spFree K) := ok_free T
  have GW : Ok P w K mg base (a_without K) _ 1 (spWithout K) := ok_without T
  refine ok_of T.f_order_of sc_orderof (fun _ _ _ _ _ _ us hl => match us, hl with | [_, _], _ => rfl) (fun vs H Q E h => ?_) (fun cdv A outer s H vs Q E hr h => ?_)
  · obtain ⟨d, a, E', ys, rfl, _⟩ := h
    rfl
  · obtain ⟨d, a, E', ys, rfl, hd, ha, h4, fr, kk⟩ := h
    refine ⟨_, (pss_cons (ps_set (i := 2) sc_orderof.nd rfl (Or.inl rfl) (pe_tupleOf (by rfl) T.z_tuple (pv 1)))
      (pss_cons (ps_set (i := 3) sc_orderof.nd rfl (Or.inl rfl) (pe_tup pa_nil))
      (pss_cons (ps_while PassesOwn.never (pt_truth (pv 2) (by intro _; rfl)) (pss_cons (ps_set (i := 4) sc_orderof.nd rfl (Or.inl rfl) (pe_ix ix_list (pe_c GF hr T.g_free_names (pa_cons (pv 0) (pa_cons (pv 2) pa_nil))) pe_int (fun _ _ => rfl)))
      (pss_cons (ps_aug (i := 3) sc_orderof.nd rfl (Or.inl rfl) (pe_tup (pa_cons (pv 4) pa_nil)) ip_tup)
      (pss_one (ps_set (i := 2) sc_orderof.nd rfl (Or.inl rfl) (pe_c GW hr T.g_without (pa_cons (pv 2) (pa_cons (pv 4) pa_nil))))))))
      (pss_one (ps_ret (pv 3)))))), ?_⟩
    refine ⟨_, rfl, .inl ⟨a, _, rfl, SqL.of ha, fun q hq => ⟨(by show 0 ≤ sizeLine; decide), fun t ht => ?_⟩⟩⟩
    have s1 : Same H _ := same_upd (o := .tup (ys.map V.str)) hq
    have s2 : Same _ _ := same_upd (o := .tup []) ht
    have hq2 := s2 q _ upd_same
    have ht2 : upd (upd H q (.tup (ys.map V.str))) t (.tup []) t = some (.tup (([] : List Str).map V.str)) := upd_same
    have htn : H t = none := none_back s1 ht
    have s12 := s1.trans s2
    generalize upd (upd H q (.tup (ys.map V.str))) t (.tup []) = H2 at s2 hq2 ht2 s12
    dsimp only [gName]
    show tWhile _ _ _ _ _
    refine while_by (fun σ H' => ∃ (l o : Addr) (zs os : List Str) (n : Nat) (f : Option V), σ = [some (.ref d), some (.ref a), some (.ref l), some (.ref o), f] ∧ Same H H' ∧ H o = none ∧ H' l = some (.tup (zs.map V.str)) ∧ H' o = some (.tup (os.map V.str)) ∧ zs.length ≤ n ∧ os.length + n ≤ 4 ∧ (∀ z ∈ zs, z ∈ ys) ∧ os ++ lineN E' n zs = lineN E' 4 ys) (lenTAt 2) ⟨q, t, ys, [], 4, _, rfl, s12, htn, hq2, ht2, h4, (by decide), fun z hz => hz, rfl⟩ (fun σ H3 inv => ?_) (fun σ H Q Q' h ⟨x, hx, k, tr, q⟩ => ⟨x, hx, k, tr, h _ _ q⟩)
    obtain ⟨l, o, zs, os, n, f, rfl, s3, hon, hl, ho, hn, h4n, sub, eo⟩ := inv
    refine ⟨_, rfl, _, .inr (.inl ⟨_, SqT.of hl, rfl⟩), ?_⟩
    have hm : (zs.map V.str).length = zs.length := List.length_map ..
    by_cases ne : zs = []
    · subst ne
      refine iteF ⟨_, rfl, kk _ o s3 hon ?_⟩
      rw [line_nil, List.append_nil] at eo
      rw [← eo]
      exact ho
    · have tru : (!(zs.map V.str).isEmpty) = true := by
        cases zs with
        | nil => exact absurd rfl ne
        | cons y ys => rfl
      rw [tru]
      have nf := fr zs sub ne
      obtain ⟨m, y, ys', rfl, ef, em⟩ := line_step (E := E') hn ne nf
      have yin : y ∈ zs := free_mem (E := E') (by rw [ef]; exact List.mem_cons_self)
      refine iteT ⟨_, rfl, _, rfl, d, l, E', zs, rfl, hd.ext s3, .inr (SqT.of hl), (by omega), fun H4 fa s4 _ hf => ?_⟩
      rw [ef] at hf
      refine ⟨fa, _, ((0 : Nat) : Int), V.str y, rfl, rfl, SqL.of hf, atI_nat rfl, ?_⟩
      refine ⟨_, rfl, _, rfl, (by show 1 ≤ sizeLine; decide), fun q hq => ?_⟩
      have s5 : Same H4 _ := same_upd (o := .tup [V.str y]) hq
      have hq5 : upd H4 q (.tup [V.str y]) q = some (.tup [V.str y]) := upd_same
      have hqn : H q = none := none_back (s3.trans s4) hq
      generalize upd H4 q (.tup [V.str y]) = H5 at s5 hq5
      have s45 := s4.trans s5
      have go : ∀ (H6 : Hp) (o' : Addr), Same H5 H6 → H o' = none → H6 o' = some (.tup ((os ++ [y]).map V.str)) → (spWithout K) [.ref l, .str y] H6 (fun v H7 => (∃ (l o : Addr) (zs os : List Str) (n : Nat) (f : Option V), ([some (.ref d), some (.ref a), some v, some (.ref o'), some (.str y)] : L2.St) = [some (.ref d), some (.ref a), some (.ref l), some (.ref o), f] ∧ Same H H7 ∧ H o = none ∧ H7 l = some (.tup (zs.map V.str)) ∧ H7 o = some (.tup (os.map V.str)) ∧ zs.length ≤ n ∧ os.length + n ≤ 4 ∧ (∀ z ∈ zs, z ∈ ys) ∧ os ++ lineN E' n zs = lineN E' 4 ys) ∧ lenTAt 2 [some (.ref d), some (.ref a), some v, some (.ref o'), some (.str y)] H7 < lenTAt 2 [some (.ref d), some (.ref a), some (.ref l), some (.ref o), f] H3) E := by
        intro H6 o' s6 ho' e6
        have s36 := s45.trans s6
        refine ⟨l, y, zs, rfl, SqT.of (s36 _ _ hl), (by omega), fun H7 r s7 e7 => ⟨⟨r, o', withoutN zs y, os ++ [y], m, _, rfl, (s3.trans s36).trans s7, ho', e7, s7 _ _ e6, ?_, ?_, fun z hz => sub z (without_sub hz).1, ?_⟩, ?_⟩⟩
        · have := without_lt yin
          omega
        · rw [List.length_append, List.length_singleton]
          omega
        · rw [← eo, em, List.append_assoc] <;> rfl
        · show (match H7 r with | some (.tup xs) => xs.length | _ => 0) < (match H3 l with | some (.tup xs) => xs.length | _ => 0)
          rw [e7, hl]
          show (List.map _ _).length < (List.map _ _).length
          rw [List.length_map, List.length_map]
          exact without_lt yin
      refine ⟨o, q, _, _, rfl, rfl, SqT.of (s45 _ _ ho), SqT.of hq5, ?_, fun z => ?_, fun z1 z2 => (by cases z2), fun z1 z2 p hp => ?_⟩
      · rw [List.length_map]
        show _ + 1 ≤ sizeLine
        have : 5 ≤ sizeLine := by decide
        omega
      · have z : os = [] := List.map_eq_nil_iff.mp z
        refine ⟨_, rfl, _, rfl, go H5 q (Same.refl _) hqn ?_⟩
        rw [z]
        exact hq5
      · have s6 : Same H5 _ := same_upd (o := .tup (os.map V.str ++ [V.str y])) hp
        refine ⟨_, rfl, _, rfl, go _ p s6 (none_back (s3.trans s45) hp) ?_⟩
        rw [List.map_append]
        exact upd_same
/-- how far the int in a place is from m -/
def farTo (m i : Nat) (σ : L2.St) (_ : Hp) : Nat := match σ[i]? with
  | some (some (.int k)) => m - k.toNat
  | _ => 0
def tCom : TT := fun σ H Q => ∃ (a b : Addr) (xs ys : List Str) (i : Nat), σ = [some (.ref a), some (.ref b), some (.int (i : Int))] ∧ H a = some (.tup (xs.map V.str)) ∧ H b = some (.tup (ys.map V.str)) ∧ i ≤ comN xs ys ∧ Q (decide (i < comN xs ys)) H
theorem min_two (m n : Nat) : (if (n : Int) < (m : Int) then (n : Int) else (m : Int)) = ((min m n : Nat) : Int) := by split <;> omega
theorem str_at {xs : List Str} {i : Nat} {y : Str} (h : xs[i]? = some y) : (xs.map V.str)[i]? = some (V.str y) := by
  rw [List.getElem?_map, h] <;> rfl
def spCom (K : PySem.W.Frag) : Sp := fun vs H Q _ => ∃ (a b : Addr) (xs ys : List Str), vs = [.ref a, .ref b] ∧ H a = some (.tup (xs.map V.str)) ∧ H b = some (.tup (ys.map V.str)) ∧ xs.length ≤ 4 ∧ Q (.int (comN xs ys)) H
theorem sc_com : FnScope ["old", "new", "many"] ["old", "new"] (defScope s_common_length) := ⟨rfl, rfl, rfl, by decide +kernel, rfl, by decide +kernel, by decide +kernel⟩
theorem ok_com (T : Txt K mg) : Ok P w K mg base (a_common_length K) ["old", "new"] 1 (spCom K) := by
  refine ok_of T.f_common_length sc_com (fun _ _ _ _ _ _ us hl => match us, hl with | [_, _], _ => rfl) (fun vs H Q E h => ?_) (fun cdv A outer s H vs Q E hr h => ?_)
  · obtain ⟨a, b, xs, ys, rfl, _⟩ := h
    rfl
  · obtain ⟨a, b, xs, ys, rfl, ha, hb, h4, kk⟩ := h
    refine ⟨_, (pss_cons (ps_set (i := 2) sc_com.nd rfl (Or.inl rfl) pe_int)
      (pss_cons (ps_while PassesOwn.never (pt_imp (t2 := tCom) (PW.pt (pw_and (pt_cmpR op_lt (pv 2) (pe_callB (call_min2 rfl) (by rfl) T.z_min (by decide +kernel) (pa_cons (pe_callB call_len_seq (by rfl) T.z_len PySem.boot_len (pa_cons (pv 0) pa_nil)) (pa_cons (pe_callB call_len_seq (by rfl) T.z_len PySem.boot_len (pa_cons (pv 1) pa_nil)) pa_nil))) (nomark _)) (pw_and1 (pt_cmpR op_eq (pe_ix ix_tup (pv 0) (pv 2) (fun _ _ => rfl)) (pe_ix ix_tup (pv 1) (pv 2) (fun _ _ => rfl)) (nomark _))))) (by
      intro σ H Q h
      obtain ⟨a, b, xs, ys, i, rfl, ha, hb, hi, q⟩ := h
      refine ⟨_, rfl, _, rfl, a, _, rfl, .inr (SqT.of ha), _, rfl, b, _, rfl, .inr (SqT.of hb), _, _, rfl, ?_⟩
      refine ⟨_, _, rfl, rfl, _, rfl, ?_⟩
      dsimp only
      rw [List.length_map, List.length_map, min_two]
      have l1 := com_le1 xs ys
      have l2 := com_le2 xs ys
      by_cases lt : (i : Int) < ((min xs.length ys.length : Nat) : Int)
      · rw [decide_eq_true lt]
        have hx : i < xs.length := by omega
        have hy : i < ys.length := by omega
        have gx : xs[i]? = some xs[i] := List.getElem?_eq_getElem hx
        have gy : ys[i]? = some ys[i] := List.getElem?_eq_getElem hy
        refine iteT ⟨_, rfl, _, rfl, a, _, (i : Int), _, rfl, rfl, SqT.of ha, atI_nat (str_at gx), _, rfl, _, rfl, b, _, (i : Int), _, rfl, rfl, SqT.of hb, atI_nat (str_at gy), rfl, _, rfl, ?_⟩
        by_cases c : i < comN xs ys
        · obtain ⟨y, h1, h2⟩ := com_lt xs ys i c
          rw [gx] at h1
          rw [gy] at h2
          rw [Option.some.inj h1, Option.some.inj h2, decide_eq_true rfl]
          rw [decide_eq_true c] at q
          exact q
        · obtain rfl : i = comN xs ys := by omega
          have ne := com_at xs ys _ _ gx gy
          rw [decide_eq_false fun z => ne (V.str.inj z)]
          rw [decide_eq_false c] at q
          exact q
      · rw [decide_eq_false lt]
        have c : ¬ i < comN xs ys := by omega
        rw [decide_eq_false c] at q
        exact iteF q)) (pss_one (ps_aug (i := 2) sc_com.nd rfl (Or.inl rfl) pe_int ip_add)))
      (pss_one (ps_ret (pv 2))))), ?_⟩
    show tWhile _ _ _ _ _
    refine while_by (fun σ H' => ∃ i : Nat, σ = [some (.ref a), some (.ref b), some (.int (i : Int))] ∧ H' = H ∧ i ≤ comN xs ys) (farTo 4 2) ⟨0, rfl, rfl, Nat.zero_le _⟩ (fun σ H3 inv => ?_) (fun σ H Q Q' h ⟨a, b, xs, ys, i, e1, e2, e3, e4, q⟩ => ⟨a, b, xs, ys, i, e1, e2, e3, e4, h _ _ q⟩)
    obtain ⟨i, rfl, rfl, hi⟩ := inv
    refine ⟨a, b, xs, ys, i, rfl, ha, hb, hi, ?_⟩
    by_cases lt : i < comN xs ys
    · rw [decide_eq_true lt]
      have := com_le1 xs ys
      refine iteT ⟨_, rfl, _, _, rfl, rfl, ⟨i + 1, rfl, rfl, lt⟩, ?_⟩
      show 4 - ((i : Int) + 1).toNat < 4 - (i : Int).toNat
      omega
    · rw [decide_eq_false lt]
      refine iteF ⟨_, rfl, ?_⟩
      obtain rfl : i = comN xs ys := by omega
      exact kk
end
end OP
/-! {k: v for t in ..} whose keys are tuples of ints and texts -/
namespace OP
open PySem PySem.Spec PyProof.Rows L2
/-- the new dict takes one more entry -/
theorem dT_put {X : Cx} {ps : List (Addr × Obj)} {σ : L2.St} {H : Hp} {s : Shared} {E : Value → Shared → Prop} {D b : Addr} {es : List (List Key × V)} {k : List Key} {z : V} {r : Value} {Q : Unit → Shared → Prop}
    (hu : X.A.units + 1 < cLine) (I : Inv X ps σ H s) (hD : H D = some (.dT es)) (hb : H b = some (.tup (k.map kV))) (few : es.length < sizeLine) (rz : RelV z r)
    (fin : ∀ s', Inv X ps σ (upd H D (.dT (putK es k z))) s' → Q () s') : wpAny (model X.prog X.w) X.A (dictSet D (.ref b) r) Q E s := by
  obtain ⟨lz, sy, xs, pr, at_⟩ := dt_of I.hok hD
  have lx : xs.length ≤ sizeLine := Paired.length pr ▸ lz
  have more : (putK es k z).length ≤ sizeLine := by
    have := length_putK es k z
    omega
  refine wpAny_dictSet_heap (hsz := lx) (Nat.lt_of_succ_lt hu) (key_of I.hok hb) at_ fun h' new sb => fin _ ?_
  obtain ⟨o, e1, e2, g1, g2, g3, g4, _, g5⟩ := new
  refine d_write I (by rw [hD]; trivial) sb ⟨o, g1⟩ ⟨more, sy, _, (pr.put k hb rz).keeps fun c ys ec => ?_, o, e1, e2, g1, g2, g3, g4, g5⟩
  exact (upd_ne (ne_of ec hD fun z => nomatch z)).trans ec
section
variable {X : Cx}
/-- D is the new dict; a turn's key is a tuple, its entry is put behind the others or in its old place -/
def tDcT (wi : TI) (g : TG) (tk tv : TE) (vs : List Nat) : TE := fun σ H Q => wi σ H fun J H1 => ∀ D, H1 D = none → ∃ W : Nat → Nat → Hp → Prop,
  (∃ m, W 0 m (upd H1 D (.dT []))) ∧ ∀ i m H, W i m H → (J.stop i H ∧ Q (.ref D) H) ∨ (J.go i H ∧ ∃ Nx : Hp → Prop, (∀ H', Nx H' → ∃ m', m' < m ∧ W (i + 1) m' H') ∧
    ∀ x H', J.yld i H x H' → g x (wipe σ vs) H' fun σ2 H2 => wipe σ2 vs = wipe σ vs ∧ tk σ2 H2 fun y H4 => tv σ2 H4 fun z H5 => ∃ (b : Addr) (es : List (List Key × V)) (k : List Key), y = .ref b ∧ H5 b = some (.tup (k.map kV)) ∧ H5 D = some (.dT es) ∧ es.length < sizeLine ∧ Nx (upd H5 D (.dT (putK es k z))))
abbrev AllB (X : Cx) (sc : Scope) (Z : Cx → Prop) : Prop := ∀ (s : Shared) (H : Hp) (C : Addr) (cl : List (Str × Addr)) (fp : List Addr), Z (X.blk s H sc (compEnvC sc cl C X.env) fp)
theorem pe_dcT {kx vx tg iter : Expr} {sc : Scope} {own : List (Str × Nat)} {pos : Pos} {wi : TI} {g : TG} {tk tv : TE} (hu : X.A.units + 1 < cLine) (hc : X.calm = true) (nd : X.N.Nodup) (hi : PI X tg iter wi) (ok : BlkOk X.N X.env.scope sc own)
    (hg : AllB X sc fun Y => PG Y tg g) (hk : AllB X sc fun Y => PE Y kx tk) (hv : AllB X sc fun Y => PE Y vx tv) (hs : ∀ x, foldedSetIterable iter X.env x = pure x := by intro _; rfl) :
    PE X (.DictComp kx vx [⟨tg, iter, [], 0⟩] sc pos) (tDcT wi g tk tv (own.map (·.2))) := by
  refine ⟨fun ps s σ H Q I h => ?_⟩
  rw [arm_eval_DictComp]
  have fr : ∀ y ∈ sc.names, y.2 = .free → ∃ c, X.env.cells.lookup y.1 = some c := fun y hy e => (ok.free y hy e).elim (fun z => I.ok.has _ (.inl z)) fun z => I.ok.has _ (.inr z)
  refine wpAny_comprehension_free rfl hs (closure_ok fr) ok.kind (fun y hy e => by rw [ok.uniq y hy, e]) (thn (hi.run ps s σ H _ I h) fun xv s1 hx => thn hx fun itv s2 h2 => ?_)
  obtain ⟨it, fp, tn, J, H2, rfl, I2, tu, st2, f2, q⟩ := h2
  refine wpAny_newObj_type (newEnv_comp ?_)
  have dn : H2 s2.heap.objs.size = none := I2.hok.fresh (Nat.le_refl _)
  obtain ⟨W, ⟨m0, w0⟩, turn⟩ := q _ dn
  have I3 : Inv X ps σ (upd H2 s2.heap.objs.size (.dT [])) { s2 with heap := s2.heap.push { cls := .type "dict", data := .dict #[] } } := I2.laid (t' := s2.toks) (fun b o e => Heap.get?_push_of_some _ e) (Nat.le_refl _) (dt_empty s2.heap I2.big)
  generalize e3 : ({ s2 with heap := s2.heap.push { cls := .type "dict", data := .dict #[] } } : Shared) = s3 at I3
  have up : s3.heap = s2.heap.push { cls := .type "dict", data := .dict #[] } := by rw [← e3]
  have f3 : ∀ b ∈ fp, FpOk X ps (upd H2 s2.heap.objs.size (.dT [])) b ∧ b < s3.heap.objs.size := fun b hb => by
    obtain ⟨o, e, _⟩ := tu.obj _ _ st2 b hb
    have lt := Heap.lt_size e
    refine ⟨⟨(upd_ne (Nat.ne_of_lt lt)).trans (f2 b hb).1, (f2 b hb).2⟩, ?_⟩
    rw [up, Heap.size_push]
    exact Nat.lt_succ_of_lt lt
  generalize s2.heap.objs.size = D at *
  generalize upd H2 D (.dT []) = H3 at I3 w0 f3
  have cl := cellsFrom (s3.heap.objs.size + 1) sc.names (cloFrom X.env.cells sc.names [])
  have I4 := block_start I3 ok nd f3
  have pg := hg s3 H3 s3.heap.objs.size (cellsFrom (s3.heap.objs.size + 1) sc.names (cloFrom X.env.cells sc.names [])) fp
  have pk := hk s3 H3 s3.heap.objs.size (cellsFrom (s3.heap.objs.size + 1) sc.names (cloFrom X.env.cells sc.names [])) fp
  have pv' := hv s3 H3 s3.heap.objs.size (cellsFrom (s3.heap.objs.size + 1) sc.names (cloFrom X.env.cells sc.names [])) fp
  have st4 : tn 0 (pushCells (s3.heap.push { cls := .type "dict", data := .dict #[] }) sc.names) := tu.keep _ _ _ st2 fun b _ o e => pushCells_keeps _ _ _ _ (Heap.get?_push_of_some _ (by rw [up]; exact Heap.get?_push_of_some _ e))
  generalize e4 : ({ s3 with heap := pushCells (s3.heap.push { cls := .type "dict", data := .dict #[] }) sc.names } : Shared) = s4 at I4
  have st4 : tn 0 s4.heap := by rw [← e4]; exact st4
  show codeAny _ _ (.compStart (.DictComp kx vx [⟨tg, iter, [], 0⟩] sc pos) 0 (.ref it) (.ref D) (compEnvC sc (cellsFrom (s3.heap.objs.size + 1) sc.names (cloFrom X.env.cells sc.names [])) s3.heap.objs.size X.env)) (compPost (model X.prog X.w) X.A X.xe _ _ (.ref D) s3.heap.objs.size) s4
  generalize hce : compEnvC sc (cellsFrom (s3.heap.objs.size + 1) sc.names (cloFrom X.env.cells sc.names [])) s3.heap.objs.size X.env = ce at I4 pg pk pv' ⊢
  have cL : ce.locals = s3.heap.objs.size := by rw [← hce] <;> rfl
  have fpk : ∀ {σ' : L2.St} {H' : Hp} {s' : Shared}, Inv (X.blk s3 H3 sc ce fp) [] σ' H' s' → (∀ b ∈ fp, H' b = none) → ∀ b ∈ fp, FpOk (X.blk s3 H3 sc ce fp) [] H' b := fun I' hn b hb =>
    ⟨hn b hb, (I'.ok.exf b hb).1, I'.ok.exfs b hb, .inl hb, (I'.ok.exf b hb).2, fun p hp => (by cases hp)⟩
  have run : codeAny (model X.prog X.w) X.A (.compLoop (.DictComp kx vx [⟨tg, iter, [], 0⟩] sc pos) 0 (.ref it) (.ref D) ce) (compPost (model X.prog X.w) X.A X.xe none (EP X ps σ Q) (.ref D) s3.heap.objs.size) s4 := by
    refine compLoop_anyD (fun n s' => ∃ i H', Inv (X.blk s3 H3 sc ce fp) [] (wipe σ (own.map (·.2))) H' s' ∧ tn i s'.heap ∧ (∀ b ∈ fp, H' b = none) ∧ W i n H') ?_ m0 ⟨0, H3, I4, st4, fun b hb => (f3 b hb).1.1, w0⟩
    rintro n s5 ⟨i, H5, I5, st5, n5, w5⟩
    rcases turn i n H5 w5 with ⟨stop, qq⟩ | ⟨go, Nx, hNx, step⟩
    · refine thnF (tu.done (X.blk s3 H3 sc ce fp) rfl rfl rfl hc i [] s5 _ H5 (fun _ _ => False) I5 (fpk I5 n5) st5 stop) fun r s6 ⟨hr, I6⟩ => ?_
      subst hr
      have I7 : Inv X ps σ H5 s6 := I3.call' (ch := fp) I6.os I6.base I6.hok I6.bare fun b hb => by
        obtain ⟨⟨_, z1, _, z3, z4, z5⟩, _⟩ := f3 b hb
        exact ⟨z3, z1, z4, z5⟩
      have nC : H5 s3.heap.objs.size = none := by
        have z : H5 ce.locals = none := I6.free
        rwa [cL] at z
      obtain ⟨m, hn, _⟩ := I6.loc
      have hn : s6.heap.Ns ce.locals m := hn
      rw [cL] at hn
      obtain ⟨f0, f1, _, f3', f4, f5⟩ := I3.fpOk (Nat.le_refl _) nC
      exact ⟨m, hn, fun h'' sb => ⟨.ref D, H5, I7.turned (t' := s6.toks) (fun b o hb e => (sb.2 b hb).trans e) f0 f1 f3' f4 f5, rfl, qq⟩⟩
    · refine thnF (tu.item (X.blk s3 H3 sc ce fp) rfl rfl rfl hc i [] s5 _ H5 (fun _ _ => False) I5 (fpk I5 n5) st5 go) fun r s6 ⟨u, hr, h6⟩ => ?_
      subst hr
      refine thnF h6 fun _ s7 ⟨x, H7, I7, r7, y7, st7, n7⟩ => ?_
      refine thnF (pg.run _ s7 _ H7 x u _ (I7.pinned (fpk I7 n7) (tu.obj _ _ st7)) r7 (step x H7 y7)) fun _ s8 ⟨σ8, H8, I8, hw8, q8⟩ => ?_
      refine wpAny_pure ?_
      rw [if_pos rfl]
      refine thnF (pk.run _ s8 σ8 H8 _ I8 q8) fun kv s9 ⟨y, H9, I9, r9, q9⟩ => ?_
      refine thnF (pv'.run _ s9 σ8 H9 _ I9 q9) fun vv s10 ⟨z, H10, I10, r10, b, es, k, ey, hb, hD, few, nx⟩ => ?_
      subst ey
      obtain rfl : kv = .ref b := r9
      refine dT_put (X := X.blk s3 H3 sc ce fp) hu I10 hD hb few r10 fun s11 I11 => ?_
      obtain ⟨m', hm, w'⟩ := hNx _ nx
      have pin : ∀ b ∈ fp, ∀ o, s7.heap.get? b = some o → s11.heap.get? b = some o ∧ upd H10 D (.dT (putK es k z)) b = none := fun b hb o e => by
        have z := I11.pin (b, o) (List.mem_append_right _ (List.mem_append_right _ (mem_pinsAt hb e)))
        exact ⟨z.1, z.2.1⟩
      refine ⟨m', hm, i + 1, _, (I11.unpinned (pins := [])).weak (by rw [← hw8, wipe_length]) (fun j v e => ?_), tu.keep _ _ _ st7 fun b hb o e => (pin b hb o e).1, fun b hb => ?_, w'⟩
      · rw [← hw8] at e
        exact (wipe_some e).1
      · obtain ⟨o, e, _⟩ := tu.obj _ _ st7 b hb
        exact (pin b hb o e).2
  exact codeAny_compStart_dict run (tu.self X.A 0 _ _ _ st4 run)
end
end OP
namespace OP
open PySem PySem.Spec PyProof.Rows GenW L2
/-! ### fields by their place -/
theorem zip_look : ∀ {F : List Str} {vs : List V} {i : Nat} {f : Str} {v : V}, F.Nodup → F[i]? = some f → vs[i]? = some v → (F.zip vs).lookup f = some v
  | [], _, _, _, _, _, h, _ => (by cases h)
  | _ :: _, [], _, _, _, _, _, h => (by simp at h)
  | g :: F, x :: vs, 0, f, v, _, h, hv => by
    obtain rfl := Option.some.inj h
    obtain rfl := Option.some.inj hv
    show List.lookup g ((g, x) :: F.zip vs) = some x
    simp [List.lookup]
  | g :: F, x :: vs, i + 1, f, v, nd, h, hv => by
    obtain ⟨n1, n2⟩ := List.nodup_cons.mp nd
    have ne : (f == g) = false := beq_eq_false_iff_ne.mpr fun z => n1 (by rw [← z]; exact List.mem_of_getElem? h)
    show List.lookup f ((g, x) :: F.zip vs) = some v
    rw [List.lookup, ne]
    exact zip_look n2 h hv
theorem zip_put : ∀ {F : List Str} {vs : List V} {i : Nat} {f : Str} {v : V}, F.Nodup → F[i]? = some f → i < vs.length → putF f v (F.zip vs) = F.zip (vs.set i v)
  | [], _, _, _, _, _, h, _ => (by cases h)
  | _ :: _, [], _, _, _, _, _, h => absurd h (Nat.not_lt_zero _)
  | g :: F, x :: vs, 0, f, v, _, h, _ => by
    obtain rfl := Option.some.inj h
    show (if g = g then (g, v) :: F.zip vs else (g, x) :: putF g v (F.zip vs)) = _
    rw [if_pos rfl] <;> rfl
  | g :: F, x :: vs, i + 1, f, v, nd, h, hi => by
    obtain ⟨n1, n2⟩ := List.nodup_cons.mp nd
    have ne : ¬ g = f := fun z => n1 (by rw [z]; exact List.mem_of_getElem? h)
    show (if g = f then (g, v) :: F.zip vs else (g, x) :: putF f v (F.zip vs)) = _
    rw [if_neg ne, zip_put n2 h (Nat.lt_of_succ_lt_succ hi)] <;> rfl
theorem zip_new : ∀ {F : List Str} {vs : List V} {f : Str} {v : V}, F.Nodup → F[vs.length]? = some f → putF f v (F.zip vs) = F.zip (vs ++ [v])
  | [], _, _, _, _, h => (by cases h)
  | g :: F, [], f, v, _, h => by
    obtain rfl := Option.some.inj h
    show [(g, v)] = (g, v) :: F.zip []
    rw [List.zip_nil_right]
  | g :: F, x :: vs, f, v, nd, h => by
    obtain ⟨n1, n2⟩ := List.nodup_cons.mp nd
    have h : F[vs.length]? = some f := h
    have ne : ¬ g = f := fun z => n1 (by rw [z]; exact List.mem_of_getElem? h)
    show (if g = f then (g, v) :: F.zip vs else (g, x) :: putF f v (F.zip vs)) = _
    rw [if_neg ne, zip_new n2 h] <;> rfl
def rNames : List Str := ["world", "policy", "start", "arrived", "applied", "reached", "applications"]
theorem rNd : rNames.Nodup := by decide +kernel
/-- a replica: its objects, and what they hold -/
structure Rep where
  dx : Addr
  p : Addr
  dp : Addr
  st : Addr
  ar : Addr
  ap : Addr
  rc : Addr
  E : Ents
  x0 : List Int
  ys : List Str
  os : List Str
  xs : List Int
  k : Nat
def Rep.vals (q : Rep) : List V := [.ref q.p, .ref q.dp, .ref q.st, .ref q.ar, .ref q.ap, .ref q.rc, .int q.k]
def Rep.flds (q : Rep) : List (Str × V) := rNames.zip q.vals
structure RepAt (K : PySem.W.Frag) (H : Hp) (r : Addr) (q : Rep) : Prop where
  ob : H r = some (.ins (c_Replica K) q.dx q.flds)
  po : H q.dp = some (.dT (pol q.E))
  st : H q.st = some (.tup (q.x0.map V.int))
  ar : H q.ar = some (.lst (q.ys.map V.str))
  ap : H q.ap = some (.tup (q.os.map V.str))
  rc : H q.rc = some (.tup (q.xs.map V.int))
theorem RepAt.ext {K : PySem.W.Frag} {H H' : Hp} {r : Addr} {q : Rep} (s : Same H H') (h : RepAt K H r q) : RepAt K H' r q := ⟨s _ _ h.ob, s _ _ h.po, s _ _ h.st, s _ _ h.ar, s _ _ h.ap, s _ _ h.rc⟩
theorem pol_snoc {E : Ents} {i : Nat} (nd : E.Nodup) (h : i < E.length) : putK (pol (E.take i)) [Sum.inr E[i].1, Sum.inr E[i].2] (V.bl true) = pol (E.take (i + 1)) := by
  have nin : E[i] ∉ E.take i := fun z => by
    obtain ⟨m, hm, em⟩ := List.mem_take_iff_getElem.mp z
    have := (List.getElem_inj nd).mp em
    omega
  rw [putK_new _ (by rw [pol_val, if_neg nin])]
  have e : E.take (i + 1) = E.take i ++ [E[i]] := by rw [List.take_add_one, List.getElem?_eq_getElem h] <;> rfl
  rw [e]
  unfold pol
  rw [List.map_append] <;> rfl
/-- a dict comprehension with tuple keys over any walk -/
theorem dcT_it {J : It} {n : Nat} {G : Hp → Prop} {Y : Nat → Hp → V → Hp → Prop} (wk : Walk J n G Y) {g : TG} {tk tv : TE} {vs : List Nat} {σ : L2.St} {H1 : Hp} {D : Addr} {Qd : Hp → Prop} (Pv : Nat → Hp → Prop) (h0 : Pv 0 (upd H1 D (.dT []))) (hG : ∀ i H, i ≤ n → Pv i H → G H)
    (hs : ∀ i x H H', i < n → Pv i H → Y i H x H' → g x (wipe σ vs) H' fun σ2 H2 => wipe σ2 vs = wipe σ vs ∧ tk σ2 H2 fun y H4 => tv σ2 H4 fun z H5 =>
      ∃ (b : Addr) (es : List (List Key × V)) (k : List Key), y = .ref b ∧ H5 b = some (.tup (k.map kV)) ∧ H5 D = some (.dT es) ∧ es.length < sizeLine ∧ Pv (i + 1) (upd H5 D (.dT (putK es k z)))) (hd : ∀ H, Pv n H → Qd H) :
    ∃ W : Nat → Nat → Hp → Prop, (∃ m, W 0 m (upd H1 D (.dT []))) ∧ ∀ i m H, W i m H → (J.stop i H ∧ Qd H) ∨ (J.go i H ∧ ∃ Nx : Hp → Prop, (∀ H', Nx H' → ∃ m', m' < m ∧ W (i + 1) m' H') ∧
    ∀ x H', J.yld i H x H' → g x (wipe σ vs) H' fun σ2 H2 => wipe σ2 vs = wipe σ vs ∧ tk σ2 H2 fun y H4 => tv σ2 H4 fun z H5 => ∃ (b : Addr) (es : List (List Key × V)) (k : List Key), y = .ref b ∧ H5 b = some (.tup (k.map kV)) ∧ H5 D = some (.dT es) ∧ es.length < sizeLine ∧ Nx (upd H5 D (.dT (putK es k z)))) := by
  refine ⟨fun i m H => m = n - i ∧ i ≤ n ∧ Pv i H, ⟨n, rfl, Nat.zero_le _, h0⟩, fun i m H hW => ?_⟩
  obtain ⟨rfl, hi, p⟩ := hW
  by_cases lt : i < n
  · exact .inr ⟨wk.goes i H lt (hG i H hi p), Pv (i + 1), fun H' p' => ⟨n - (i + 1), by omega, rfl, lt, p'⟩, fun x H' y => hs i x H H' lt p (wk.yields i H x H' lt (hG i H hi p) y)⟩
  · obtain rfl : i = n := by omega
    exact .inl ⟨wk.stops H (hG _ H hi p), hd H p⟩
theorem rlen (vs : List V) : (rNames.zip vs).length < 1000 := by
  rw [List.length_zip]
  exact Nat.lt_of_le_of_lt (Nat.min_le_left _ _) (by decide)
/-- a replica in the making -/
structure Mid (K : PySem.W.Frag) (H : Hp) (r dx : Addr) (Hk : Hp) (vs : List V) : Prop where
  off : ∀ b u, b ≠ r → H b = some u → Hk b = some u
  ob : Hk r = some (.ins (c_Replica K) dx (rNames.zip vs))
theorem Mid.put {K : PySem.W.Frag} {H Hk : Hp} {r dx : Addr} {vs : List V} {f : Str} {v : V} (m : Mid K H r dx Hk vs) (h : rNames[vs.length]? = some f) : Mid K H r dx (upd Hk r (.ins (c_Replica K) dx (putF f v (rNames.zip vs)))) (vs ++ [v]) :=
  ⟨fun b u hb e => (upd_ne hb).trans (m.off b u hb e), by rw [upd_same, zip_new rNd h]⟩
theorem Mid.more {K : PySem.W.Frag} {H Hk H' : Hp} {r dx : Addr} {vs : List V} (m : Mid K H r dx Hk vs) (s : Same Hk H') : Mid K H r dx H' vs := ⟨fun b u hb e => s _ _ (m.off b u hb e), s _ _ m.ob⟩
theorem off_none {H H' : Hp} {r a : Addr} (o : ∀ b u, b ≠ r → H b = some u → H' b = some u) (n : a ≠ r) (h : H' a = none) : H a = none := by
  cases e : H a with
  | none => rfl
  | some u => rw [o _ _ n e] at h; cases h
theorem Mid.new {K : PySem.W.Frag} {H Hk : Hp} {r dx a : Addr} {vs : List V} (m : Mid K H r dx Hk vs) (h : Hk a = none) : a ≠ r ∧ H a = none := by
  have ne : a ≠ r := fun z => by rw [z, m.ob] at h; cases h
  exact ⟨ne, off_none m.off ne h⟩
section
variable {P : Program} {w : PySem.World} {K : PySem.W.Frag} {mg : Str → Option Value} {base : Heap}
/-- a new replica -/
def newRep (dx p dp st ar ap : Addr) (E : Ents) (x0 : List Int) : Rep := ⟨dx, p, dp, st, ar, ap, st, E, x0, [], [], x0, 0⟩
def spRInit (K : PySem.W.Frag) : Sp := fun vs H Q _ => ∃ (r dx p d st : Addr) (n : Nat) (S : Sts) (L : Ncs) (E : Ents) (x0 : List Int), vs = [.ref r, .ref p, .ref d, .ref st] ∧ WorldAt K H p n S L ∧ WOk n S L ∧ H d = some (.dT (pol E)) ∧ PolOk E (names L) ∧ E.Nodup ∧
  StoreOk x0 ∧ x0.length = n ∧ H st = some (.tup (x0.map V.int)) ∧ x0 ∈ S.map (·.2) ∧ H r = some (.ins (c_Replica K) dx []) ∧
  ∀ H' dp ar ap, (∀ b u, b ≠ r → H b = some u → H' b = some u) → H dp = none → H ar = none → RepAt K H' r (newRep dx p dp st ar ap E x0) → Q .non H'
theorem sc_ri : FnScope ["self", "world", "policy", "start", "pair"] ["self", "world", "policy", "start"] (defScope s_Replica_init) := ⟨rfl, rfl, rfl, by decide +kernel, rfl, by decide +kernel, by decide +kernel⟩
theorem ok_Replica_init (T : Txt K mg) : Ok P w K mg base (a_Replica_init K) ["self", "world", "policy", "start"] 5 (spRInit K) := by
  have GW : Ok P w K mg base (a_check_world K) _ 1 (spCWorld K) := ok_cworld T
  have GP : Ok P w K mg base (a_check_policy K) _ 3 (spCPol K) := ok_cpol T
  have GS : Ok P w K mg base (a_is_start K) _ 4 (spStart K) := ok_istart T
  refine ok_of T.f_Replica_init sc_ri (fun _ _ _ _ _ _ us hl => match us, hl with | [_, _, _, _], _ => rfl) (fun vs H Q E h => ?_) (fun cdv A outer s0 H vs Q E hr h => ?_)
  · obtain ⟨r, dx, p, d, st, n, S, L, E', x0, rfl, _⟩ := h
    rfl
  · obtain ⟨r, dx, p, d, st, n, S, L, E', x0, rfl, W, ok, hd, po, end', sx, hx, hst, hin, hrp, kk⟩ := h
    have hr1 : Room 1 _ := hr.mono (by decide)
    have hr3 : Room 3 _ := hr.mono (by decide)
    refine ⟨_, (pss_cons (ps_expr (pe_c GW hr1 T.g_check_world (pa_cons (pv 1) pa_nil)))
      (pss_cons (ps_expr (pe_c GP hr3 T.g_check_policy (pa_cons (pv 1) (pa_cons (pv 2) pa_nil))))
      (pss_cons (ps_if (pt_not (pt_val (pe_c GS hr T.g_is_start (pa_cons (pv 1) (pa_cons (pv 3) pa_nil))))) (pss_one ps_never) pss_nil)
      (pss_cons (ps_fld (pv 0) (pv 1) rfl)
      (pss_cons (ps_fld (pv 0) (pe_lock (pe_dcT (own := [("pair", 4)]) (g := gName 4) (hu_of hr) rfl sc_ri.nd (pi_keys (pv 2)) (blkOk_by (own := [("pair", 4)]) (N := ["self", "world", "policy", "start", "pair"]) (sc := defScope s_Replica_init) (by decide +kernel)) (fun _ _ _ _ _ => pg_name (i := 4) sc_ri.nd rfl (Or.inl rfl)) (fun _ _ _ _ _ => pv 4) (fun _ _ _ _ _ => pe_bl))) rfl)
      (pss_cons (ps_fld (pv 0) (pv 3) rfl)
      (pss_cons (ps_fld (pv 0) (pe_lst pa_nil) rfl)
      (pss_cons (ps_fld (pv 0) (pe_tup pa_nil) rfl)
      (pss_cons (ps_fld (pv 0) (pv 3) rfl)
      (pss_one (ps_fld (pv 0) pe_int rfl))))))))))), ?_⟩
    refine ⟨_, rfl, p, n, S, L, rfl, W, ?_⟩
    refine ⟨_, rfl, _, rfl, p, d, n, S, L, E', rfl, W, ok.chgs.nd, ok.chgs.hi, hd, po, fun H1 s1 => ?_⟩
    refine ⟨_, rfl, _, rfl, p, st, x0, n, S, L, rfl, W.ext s1, sx, hx, s1 _ _ hst, hin, fun H2 s2 => ⟨true, rfl, iteF ?_⟩⟩
    have s12 := s1.trans s2
    have hr2 := s12 _ _ hrp
    have nf : (0 : Nat) < 1000 := by decide
    refine ⟨_, rfl, _, rfl, r, c_Replica K, dx, [], rfl, hr2, T.o_Replica.cl, T.n_Replica_world, (by show 0 < 1000; decide), ?_⟩
    have m3 : Mid K H r dx (upd H2 r (.ins (c_Replica K) dx (putF "world" (.ref p) []))) [.ref p] := Mid.put (vs := []) ⟨fun b u _ e => s12 _ _ e, hr2⟩ rfl
    show (tSeq _ _) _ _ _
    generalize upd H2 r (.ins (c_Replica K) dx (putF "world" (.ref p) [])) = H3 at m3
    have ndr : d ≠ r := fun z => by rw [z, hrp] at hd; cases hd
    have nsr : st ≠ r := fun z => by rw [z, hrp] at hst; cases hst
    have hd3 := m3.off _ _ ndr hd
    refine ⟨d, _, hd3, trivial, fun od => ⟨_, rfl, d, od, rfl, .inr ⟨pol E', upd_same, fun D hD => ?_⟩⟩⟩
    have nDd : D ≠ d := fun z => by rw [z, upd_same] at hD; cases hD
    refine dcT_it walk_keysT (fun i H' => (∀ b u, b ≠ D → upd H3 d (.frz od (.dT (pol E'))) b = some u → H' b = some u) ∧ H' D = some (.dT (pol (E'.take i)))) ⟨fun b u hb e => by rw [upd_ne hb]; exact e, upd_same⟩ (fun i H' _ q => q.1 _ _ nDd.symm upd_same) (fun i x H6 H7 hi q y => ?_) (fun H6 q => ?_)
    · obtain ⟨rfl, kk', vv, qa, ekv, rfl, hq⟩ := y
      obtain ⟨e, he, rfl, rfl⟩ := pol_at ekv
      obtain ⟨hiE, rfl⟩ := List.getElem?_eq_some_iff.mp he
      refine ⟨rfl, _, rfl, qa, _, _, rfl, hq, q.2, ?_, fun b u hb e => ?_, ?_⟩
      · refine small1000 ?_
        rw [pol_len, List.length_take]
        have := po.few
        omega
      · rw [upd_ne hb]
        exact q.1 b u hb e
      · rw [upd_same, pol_snoc end' hiE]
    · rw [pol_len, List.take_length] at q
      obtain ⟨q1, q2⟩ := q
      refine ⟨q1 _ _ nDd.symm upd_same, ?_⟩
      rw [upd_ne nDd] at hD
      obtain ⟨nDr, nD⟩ := m3.new hD
      have s4 : Same H3 (upd H6 d (.dT (pol E'))) := fun b u e => by
        by_cases hb : b = d
        · rw [hb, upd_same]
          rw [hb, hd3] at e
          exact e
        · rw [upd_ne hb]
          exact q1 b u (fun z => by rw [← z, e] at hD; cases hD) (by rw [upd_ne hb]; exact e)
      have hD4 : upd H6 d (.dT (pol E')) D = some (.dT (pol E')) := (upd_ne nDd).trans q2
      have m4 := m3.more s4
      generalize upd H6 d (.dT (pol E')) = H4 at hD4 m4
      refine ⟨_, rfl, r, c_Replica K, dx, _, rfl, m4.ob, T.o_Replica.cl, T.n_Replica_policy, rlen _, ?_⟩
      have m5 := m4.put (f := "policy") (v := .ref D) rfl
      have hD5 : upd H4 r (.ins (c_Replica K) dx (putF "policy" (.ref D) (rNames.zip [.ref p]))) D = some (.dT (pol E')) := (upd_ne nDr).trans hD4
      show (tSeq _ _) _ _ _
      generalize upd H4 r (.ins (c_Replica K) dx (putF "policy" (.ref D) (rNames.zip [.ref p]))) = H5 at m5 hD5
      refine ⟨_, rfl, _, rfl, r, c_Replica K, dx, _, rfl, m5.ob, T.o_Replica.cl, T.n_Replica_start, rlen _, ?_⟩
      have m6 := m5.put (f := "start") (v := .ref st) rfl
      have hD6 : upd H5 r (.ins (c_Replica K) dx (putF "start" (.ref st) (rNames.zip ([.ref p] ++ [.ref D])))) D = some (.dT (pol E')) := (upd_ne nDr).trans hD5
      show (tSeq _ _) _ _ _
      generalize upd H5 r (.ins (c_Replica K) dx (putF "start" (.ref st) (rNames.zip ([.ref p] ++ [.ref D])))) = H6' at m6 hD6
      refine ⟨(by show 0 ≤ sizeLine; decide), fun ar har => ?_⟩
      obtain ⟨nar, har0⟩ := m6.new har
      have s7 : Same H6' _ := same_upd (o := .lst []) har
      have m7 := m6.more s7
      have hD7 := s7 _ _ hD6
      have a7 : upd H6' ar (.lst []) ar = some (.lst (([] : List Str).map V.str)) := upd_same
      generalize upd H6' ar (.lst []) = H7 at m7 hD7 a7
      refine ⟨_, rfl, r, c_Replica K, dx, _, rfl, m7.ob, T.o_Replica.cl, T.n_Replica_arrived, rlen _, ?_⟩
      have m8 := m7.put (f := "arrived") (v := .ref ar) rfl
      have hD8 : upd H7 r (.ins (c_Replica K) dx (putF "arrived" (.ref ar) (rNames.zip ([.ref p] ++ [.ref D] ++ [.ref st])))) D = some (.dT (pol E')) := (upd_ne nDr).trans hD7
      have a8 : upd H7 r (.ins (c_Replica K) dx (putF "arrived" (.ref ar) (rNames.zip ([.ref p] ++ [.ref D] ++ [.ref st])))) ar = some (.lst (([] : List Str).map V.str)) := (upd_ne nar).trans a7
      show (tSeq _ _) _ _ _
      generalize upd H7 r (.ins (c_Replica K) dx (putF "arrived" (.ref ar) (rNames.zip ([.ref p] ++ [.ref D] ++ [.ref st])))) = H8 at m8 hD8 a8
      refine ⟨(by show 0 ≤ sizeLine; decide), fun ap hap => ?_⟩
      obtain ⟨nap, hap0⟩ := m8.new hap
      have s9 : Same H8 _ := same_upd (o := .tup []) hap
      have m9 := m8.more s9
      have hD9 := s9 _ _ hD8
      have a9 := s9 _ _ a8
      have p9 : upd H8 ap (.tup []) ap = some (.tup (([] : List Str).map V.str)) := upd_same
      generalize upd H8 ap (.tup []) = H9 at m9 hD9 a9 p9
      refine ⟨_, rfl, r, c_Replica K, dx, _, rfl, m9.ob, T.o_Replica.cl, T.n_Replica_applied, rlen _, ?_⟩
      have m10 := m9.put (f := "applied") (v := .ref ap) rfl
      have k10 : ∀ b u, b ≠ r → H9 b = some u → upd H9 r (.ins (c_Replica K) dx (putF "applied" (.ref ap) (rNames.zip ([.ref p] ++ [.ref D] ++ [.ref st] ++ [.ref ar])))) b = some u := fun b u hb e => (upd_ne hb).trans e
      show (tSeq _ _) _ _ _
      generalize upd H9 r (.ins (c_Replica K) dx (putF "applied" (.ref ap) (rNames.zip ([.ref p] ++ [.ref D] ++ [.ref st] ++ [.ref ar])))) = H10 at m10 k10
      refine ⟨_, rfl, _, rfl, r, c_Replica K, dx, _, rfl, m10.ob, T.o_Replica.cl, T.n_Replica_reached, rlen _, ?_⟩
      have m11 := m10.put (f := "reached") (v := .ref st) rfl
      have k11 : ∀ b u, b ≠ r → H9 b = some u → upd H10 r (.ins (c_Replica K) dx (putF "reached" (.ref st) (rNames.zip ([.ref p] ++ [.ref D] ++ [.ref st] ++ [.ref ar] ++ [.ref ap])))) b = some u := fun b u hb e => (upd_ne hb).trans (k10 b u hb e)
      generalize upd H10 r (.ins (c_Replica K) dx (putF "reached" (.ref st) (rNames.zip ([.ref p] ++ [.ref D] ++ [.ref st] ++ [.ref ar] ++ [.ref ap])))) = H11 at m11 k11
      refine ⟨_, rfl, r, c_Replica K, dx, _, rfl, m11.ob, T.o_Replica.cl, T.n_Replica_applications, rlen _, ?_⟩
      have m12 := m11.put (f := "applications") (v := .int 0) rfl
      refine kk _ D ar ap m12.off nD har0 ⟨m12.ob, ?_, m12.off _ _ nsr hst, ?_, ?_, m12.off _ _ nsr hst⟩
      · exact (upd_ne nDr).trans (k11 _ _ nDr hD9)
      · exact (upd_ne nar).trans (k11 _ _ nar a9)
      · exact (upd_ne nap).trans (k11 _ _ nap p9)
end
end OP
namespace OP
open PySem PySem.Spec PyProof.Rows GenW L2
theorem line_mem (E : Ents) : ∀ (n : Nat) (ys : List Str) {y : Str}, y ∈ lineN E n ys → y ∈ ys
  | 0, _, _, h => (by cases h)
  | n + 1, ys, y, h => by
    have h : y ∈ (match freeN E ys with | [] => [] | z :: _ => z :: lineN E n (withoutN ys z)) := h
    cases e : freeN E ys with
    | nil => rw [e] at h; cases h
    | cons z zs =>
      rw [e] at h
      rcases List.mem_cons.mp h with q | q
      · rw [q]
        exact free_mem (E := E) (by rw [e]; exact List.mem_cons_self)
      · exact (without_sub (line_mem E n _ q)).1
theorem line_nd (E : Ents) : ∀ (n : Nat) (ys : List Str), (lineN E n ys).Nodup
  | 0, _ => List.nodup_nil
  | n + 1, ys => by
    show (match freeN E ys with | [] => [] | z :: _ => z :: lineN E n (withoutN ys z)).Nodup
    cases e : freeN E ys with
    | nil => exact List.nodup_nil
    | cons z zs => exact List.nodup_cons.mpr ⟨fun q => (without_sub (line_mem E n _ q)).2 rfl, line_nd E n _⟩
theorem line_len (E : Ents) : ∀ (n : Nat) (ys : List Str), (lineN E n ys).length ≤ n
  | 0, _ => Nat.le_refl _
  | n + 1, ys => by
    show (match freeN E ys with | [] => [] | z :: _ => z :: lineN E n (withoutN ys z)).length ≤ n + 1
    cases e : freeN E ys with
    | nil => exact Nat.zero_le _
    | cons z zs => exact Nat.succ_le_succ (line_len E n _)
/-- the heap without two of its objects -/
def off2 (H : Hp) (r a : Addr) : Hp := fun b => if b = r ∨ b = a then none else H b
theorem off2_some {H : Hp} {r a b : Addr} {u : HO} : off2 H r a b = some u ↔ b ≠ r ∧ b ≠ a ∧ H b = some u := by
  unfold off2
  by_cases h : b = r ∨ b = a
  · rw [if_pos h]
    exact ⟨fun z => (by cases z), fun ⟨h1, h2, _⟩ => (h.elim h1 h2).elim⟩
  · rw [if_neg h]
    exact ⟨fun z => ⟨fun q => h (.inl q), fun q => h (.inr q), z⟩, fun z => z.2.2⟩
/-- all but two objects stay -/
def Kr (r a : Addr) (H H' : Hp) : Prop := ∀ b u, b ≠ r → b ≠ a → H b = some u → H' b = some u
theorem Kr.refl {r a : Addr} {H : Hp} : Kr r a H H := fun _ _ _ _ e => e
theorem Kr.trans {r a : Addr} {H1 H2 H3 : Hp} (h : Kr r a H1 H2) (h' : Kr r a H2 H3) : Kr r a H1 H3 := fun b u h1 h2 e => h' b u h1 h2 (h b u h1 h2 e)
theorem Kr.of {r a : Addr} {H H' : Hp} (s : Same H H') : Kr r a H H' := fun b u _ _ e => s _ _ e
theorem Kr.off {r a : Addr} {H H' : Hp} (h : Kr r a H H') : Same (off2 H r a) (off2 H' r a) := fun b u e => by
  obtain ⟨h1, h2, e⟩ := off2_some.mp e
  exact off2_some.mpr ⟨h1, h2, h b u h1 h2 e⟩
theorem off2_same {r a : Addr} {H : Hp} : Same (off2 H r a) H := fun b u e => (off2_some.mp e).2.2
theorem no_wf {n : Nat} {l d : Addr} {x : Str} (h1 : (x == ("width" : Str)) = false) (h2 : (x == ("starts" : Str)) = false) (h3 : (x == ("made" : Str)) = false) : (wFlds n l d).lookup x = none := by
  unfold wFlds
  simp only [List.lookup, h1, h2, h3]
/-- what a replica's world is, apart from the replica -/
structure RepW (K : PySem.W.Frag) (H : Hp) (r : Addr) (q : Rep) (n : Nat) (S : Sts) (L : Ncs) : Prop where
  wd : WorldAt K (off2 H r q.ar) q.p n S L
  ok : WOk n S L
  po : PolOk q.E (names L)
  sx : StoreOk q.x0
  ln : q.x0.length = n
  yin : ∀ y ∈ q.ys, y ∈ names L
  ynd : q.ys.Nodup
  ol : q.os.length ≤ 4
/-- one name more -/
def Rep.next (q : Rep) (L : Ncs) (y : Str) (ap rc : Addr) : Rep := { q with ap := ap, rc := rc, ys := q.ys ++ [y], os := lineN q.E 4 (q.ys ++ [y]), xs := appAll L (lineN q.E 4 (q.ys ++ [y])) q.x0, k := q.k + ((lineN q.E 4 (q.ys ++ [y])).length - comN q.os (lineN q.E 4 (q.ys ++ [y]))) }
theorem nodup_len : ∀ {xs ys : List Str}, xs.Nodup → (∀ x ∈ xs, x ∈ ys) → xs.length ≤ ys.length
  | [], _, _, _ => Nat.zero_le _
  | x :: xs, ys, nd, h => by
    obtain ⟨n1, n2⟩ := List.nodup_cons.mp nd
    have hx := h x List.mem_cons_self
    have := nodup_len (ys := ys.erase x) n2 fun z hz => (List.mem_erase_of_ne (fun q => n1 (by rw [← q]; exact hz))).mpr (h z (List.mem_cons_of_mem _ hz))
    rw [List.length_erase_of_mem hx] at this
    have : 0 < ys.length := List.length_pos_of_mem hx
    rw [List.length_cons]
    omega
section
variable {P : Program} {w : PySem.World} {K : PySem.W.Frag} {mg : Str → Option Value} {base : Heap}
def spReceived (K : PySem.W.Frag) : Sp := fun vs H Q _ => ∃ (r : Addr) (q : Rep), vs = [.ref r] ∧ RepAt K H r q ∧ ∀ H' l, Same H H' → H l = none → H' l = some (.lst (q.ys.map V.str)) → Q (.ref l) H'
theorem sc_rrd : FnScope ["self"] ["self"] (defScope s_Replica_received) := ⟨rfl, rfl, rfl, by decide +kernel, rfl, by decide +kernel, by decide +kernel⟩
theorem ok_received (T : Txt K mg) : Ok P w K mg base (a_Replica_received K) ["self"] 1 (spReceived K) := by
  refine ok_of T.f_Replica_received sc_rrd (fun _ _ _ _ _ _ us hl => match us, hl with | [_], _ => rfl) (fun vs H Q E h => ?_) (fun cdv A outer s H vs Q E hr h => ?_)
  · obtain ⟨r, q, rfl, _⟩ := h
    rfl
  · obtain ⟨r, q, rfl, R, k⟩ := h
    refine ⟨_, pss_one (ps_ret (pe_callTy call_list_of (by rfl) T.z_list (by decide +kernel) (pa_cons (pe_fld (pv 0) rfl) pa_nil))), ?_⟩
    exact ⟨_, rfl, r, c_Replica K, q.dx, _, _, rfl, R.ob, T.o_Replica.cl, T.n_Replica_arrived, zip_look (i := 3) rNd rfl rfl, q.ar, _, rfl, .inl (SqL.of R.ar), fun l hl => k _ l (same_upd hl) hl upd_same⟩
def spROrder (K : PySem.W.Frag) : Sp := fun vs H Q _ => ∃ (r : Addr) (q : Rep), vs = [.ref r] ∧ RepAt K H r q ∧ Q (.ref q.ap) H
theorem sc_ror : FnScope ["self"] ["self"] (defScope s_Replica_order) := ⟨rfl, rfl, rfl, by decide +kernel, rfl, by decide +kernel, by decide +kernel⟩
theorem ok_rorder (T : Txt K mg) : Ok P w K mg base (a_Replica_order K) ["self"] 1 (spROrder K) := by
  refine ok_of T.f_Replica_order sc_ror (fun _ _ _ _ _ _ us hl => match us, hl with | [_], _ => rfl) (fun vs H Q E h => ?_) (fun cdv A outer s H vs Q E hr h => ?_)
  · obtain ⟨r, q, rfl, _⟩ := h
    rfl
  · obtain ⟨r, q, rfl, R, k⟩ := h
    exact ⟨_, pss_one (ps_ret (pe_fld (pv 0) rfl)), _, rfl, r, c_Replica K, q.dx, _, _, rfl, R.ob, T.o_Replica.cl, T.n_Replica_applied, zip_look (i := 4) rNd rfl rfl, k⟩
def spRStore (K : PySem.W.Frag) : Sp := fun vs H Q _ => ∃ (r : Addr) (q : Rep), vs = [.ref r] ∧ RepAt K H r q ∧ Q (.ref q.rc) H
theorem sc_rst : FnScope ["self"] ["self"] (defScope s_Replica_store) := ⟨rfl, rfl, rfl, by decide +kernel, rfl, by decide +kernel, by decide +kernel⟩
theorem ok_rstore (T : Txt K mg) : Ok P w K mg base (a_Replica_store K) ["self"] 1 (spRStore K) := by
  refine ok_of T.f_Replica_store sc_rst (fun _ _ _ _ _ _ us hl => match us, hl with | [_], _ => rfl) (fun vs H Q E h => ?_) (fun cdv A outer s H vs Q E hr h => ?_)
  · obtain ⟨r, q, rfl, _⟩ := h
    rfl
  · obtain ⟨r, q, rfl, R, k⟩ := h
    exact ⟨_, pss_one (ps_ret (pe_fld (pv 0) rfl)), _, rfl, r, c_Replica K, q.dx, _, _, rfl, R.ob, T.o_Replica.cl, T.n_Replica_reached, zip_look (i := 5) rNd rfl rfl, k⟩
def spRWork (K : PySem.W.Frag) : Sp := fun vs H Q _ => ∃ (r : Addr) (q : Rep), vs = [.ref r] ∧ RepAt K H r q ∧ Q (.int q.k) H
theorem sc_rwk : FnScope ["self"] ["self"] (defScope s_Replica_work) := ⟨rfl, rfl, rfl, by decide +kernel, rfl, by decide +kernel, by decide +kernel⟩
theorem ok_rwork (T : Txt K mg) : Ok P w K mg base (a_Replica_work K) ["self"] 1 (spRWork K) := by
  refine ok_of T.f_Replica_work sc_rwk (fun _ _ _ _ _ _ us hl => match us, hl with | [_], _ => rfl) (fun vs H Q E h => ?_) (fun cdv A outer s H vs Q E hr h => ?_)
  · obtain ⟨r, q, rfl, _⟩ := h
    rfl
  · obtain ⟨r, q, rfl, R, k⟩ := h
    exact ⟨_, pss_one (ps_ret (pe_fld (pv 0) rfl)), _, rfl, r, c_Replica K, q.dx, _, _, rfl, R.ob, T.o_Replica.cl, T.n_Replica_applications, zip_look (i := 6) rNd rfl rfl, k⟩
def spRecv (K : PySem.W.Frag) : Sp := fun vs H Q _ => ∃ (r : Addr) (q : Rep) (y : Str) (n : Nat) (S : Sts) (L : Ncs), vs = [.ref r, .str y] ∧ RepAt K H r q ∧ RepW K H r q n S L ∧ y ∈ names L ∧ y ∉ q.ys ∧
  ∀ H' ap rc, Kr r q.ar H H' → RepAt K H' r (q.next L y ap rc) → Q (.ref rc) H'
theorem sc_rcv : FnScope ["self", "name", "order"] ["self", "name"] (defScope s_Replica_receive) := ⟨rfl, rfl, rfl, by decide +kernel, rfl, by decide +kernel, by decide +kernel⟩
theorem ok_recv (T : Txt K mg) : Ok P w K mg base (a_Replica_receive K) ["self", "name"] 7 (spRecv K) := by
  have GK : Ok P w K mg base (a_is_known K) _ 1 (spKnown K) := ok_is_known T
  have GO : Ok P w K mg base (a_order_of K) _ 2 (spOrder K) := ok_orderof T
  have GC : Ok P w K mg base (a_common_length K) _ 1 (spCom K) := ok_com T
  have GE : Ok P w K mg base (a_World_end K) _ 6 (spEnd K) := ok_World_end T
  refine ok_of T.f_Replica_receive sc_rcv (fun _ _ _ _ _ _ us hl => match us, hl with | [_, _], _ => rfl) (fun vs H Q E h => ?_) (fun cdv A outer s H vs Q E hr h => ?_)
  · obtain ⟨r, q, y, n, S, L, rfl, _⟩ := h
    rfl
  · obtain ⟨r, q, y, n, S, L, rfl, R, W, hy, hn, kk⟩ := h
    have hr1 : Room 1 _ := hr.mono (by decide)
    have hr2 : Room 2 _ := hr.mono (by decide)
    refine ⟨_, (pss_cons (ps_if (PW.pt (pw_or (pt_not (pt_val (pe_c GK hr1 T.g_is_known (pa_cons (pe_fld (pv 0) rfl) (pa_cons (pv 1) pa_nil))))) (pw_or1 (pt_cmpR op_in_seq (pv 1) (pe_fld (pv 0) rfl) (by rfl))))) (pss_one ps_never) pss_nil)
      (pss_cons (ps_expr (pe_bm PySem.F.plainAttrs_list PySem.F.slot_list_append PySem.F.type_list_append mt_append (pe_fld (pv 0) rfl) (pa_cons (pv 1) pa_nil)))
      (pss_cons (ps_set (i := 2) sc_rcv.nd rfl (Or.inl rfl) (pe_c GO hr2 T.g_order_of (pa_cons (pe_fld (pv 0) rfl) (pa_cons (pe_fld (pv 0) rfl) pa_nil))))
      (pss_cons (ps_fldaug (pv 0) (pe_op op_sub (pe_callB call_len_seq (by rfl) T.z_len PySem.boot_len (pa_cons (pv 2) pa_nil)) (pe_c GC hr1 T.g_common_length (pa_cons (pe_fld (pv 0) rfl) (pa_cons (pv 2) pa_nil)))) in_add)
      (pss_cons (ps_fld (pv 0) (pv 2) rfl)
      (pss_cons (ps_fld (pv 0) (pe_mt (pe_fld (pv 0) rfl) T.o_World T.m_World_end GE hr (pa_cons (pe_fld (pv 0) rfl) (pa_cons (pv 2) pa_nil))) rfl)
      (pss_one (ps_ret (pe_fld (pv 0) rfl))))))))), ?_⟩
    have cl := T.o_Replica.cl
    have W0 := W.wd.ext off2_same
    refine ⟨_, rfl, r, c_Replica K, q.dx, _, _, rfl, R.ob, cl, T.n_Replica_world, zip_look (i := 0) rNd rfl rfl, _, rfl, q.p, y, n, S, L, rfl, W0, W.ok.chgs.nd, hy, true, rfl, iteF ?_⟩
    refine ⟨_, rfl, _, rfl, r, c_Replica K, q.dx, _, _, rfl, R.ob, cl, T.n_Replica_arrived, zip_look (i := 3) rNd rfl rfl, q.ar, _, rfl, .inl (SqL.of R.ar), rfl, strs_flat _, _, rfl, ?_⟩
    rw [inV_strs, decide_eq_false hn]
    refine iteF ?_
    have nl : (names L).length ≤ 4 := by unfold names; rw [List.length_map]; exact W.ok.chgs.hi
    have sub : ∀ z ∈ q.ys ++ [y], z ∈ names L := fun z hz => (List.mem_append.mp hz).elim (W.yin z) fun z' => by rw [List.mem_singleton.mp z']; exact hy
    have ynd : (q.ys ++ [y]).Nodup := by
      rw [List.nodup_append]
      exact ⟨W.ynd, List.nodup_cons.mpr ⟨fun z => (by cases z), List.nodup_nil⟩, fun a ha b hb z => hn (by rw [← List.mem_singleton.mp hb, ← z]; exact ha)⟩
    have y4 : (q.ys ++ [y]).length ≤ 4 := Nat.le_trans (nodup_len ynd sub) nl
    have y4' : q.ys.length + 1 ≤ 4 := by rw [List.length_append, List.length_singleton] at y4; exact y4
    refine ⟨_, rfl, r, c_Replica K, q.dx, _, _, rfl, R.ob, cl, T.n_Replica_arrived, zip_look (i := 3) rNd rfl rfl, .inl ⟨rfl, _, SqL.of R.ar⟩, _, rfl, q.ar, _, _, rfl, rfl, R.ar, small1000 (by rw [List.length_map]; omega), ?_⟩
    have nra : r ≠ q.ar := fun z => by have e := R.ob; rw [z, R.ar] at e; cases e
    have tna : ∀ {b : Addr} {ts : List V}, H b = some (.tup ts) → b ≠ q.ar := fun e z => by rw [z, R.ar] at e; cases e
    have dna : q.dp ≠ q.ar := fun z => by have e := R.po; rw [z, R.ar] at e; cases e
    have tnr : ∀ {b : Addr} {ts : List V}, H b = some (.tup ts) → b ≠ r := fun e z => by rw [z, R.ob] at e; cases e
    have dnr : q.dp ≠ r := fun z => by have e := R.po; rw [z, R.ob] at e; cases e
    have kr1 : Kr r q.ar H (upd H q.ar (.lst (q.ys.map V.str ++ [V.str y]))) := fun b u _ h2 e => (upd_ne h2).trans e
    have ob1 : upd H q.ar (.lst (q.ys.map V.str ++ [V.str y])) r = _ := (upd_ne nra).trans R.ob
    have ar1 : upd H q.ar (.lst (q.ys.map V.str ++ [V.str y])) q.ar = some (.lst ((q.ys ++ [y]).map V.str)) := by rw [upd_same, List.map_append] <;> rfl
    generalize upd H q.ar (.lst (q.ys.map V.str ++ [V.str y])) = H1 at kr1 ob1 ar1
    refine ⟨_, rfl, r, c_Replica K, q.dx, _, _, rfl, ob1, cl, T.n_Replica_policy, zip_look (i := 1) rNd rfl rfl, _, rfl, r, c_Replica K, q.dx, _, _, rfl, ob1, cl, T.n_Replica_arrived, zip_look (i := 3) rNd rfl rfl, q.dp, q.ar, q.E, q.ys ++ [y], rfl, .inl (kr1 _ _ dnr dna R.po), ar1, y4, fun zs hz ne => free_some q.E 4 W.po.acyc nl (fun z h => sub z (hz z h)) ne, fun H2 o s2 _ ho => ?_⟩
    have kr2 := kr1.trans (Kr.of s2)
    have ob2 := s2 _ _ ob1
    have ar2 := s2 _ _ ar1
    have ap2 := kr2 _ _ (tnr R.ap) (tna R.ap) R.ap
    generalize eo : lineN q.E 4 (q.ys ++ [y]) = os at ho
    have ol : os.length ≤ 4 := by rw [← eo]; exact line_len _ _ _
    have ond : os.Nodup := by rw [← eo]; exact line_nd _ _ _
    have oin : ∀ z ∈ os, z ∈ names L := fun z hz => sub z (line_mem q.E 4 _ (by rw [eo]; exact hz))
    have om : (os.map V.str).length = os.length := List.length_map ..
    refine ⟨_, rfl, r, c_Replica K, q.dx, _, _, rfl, ob2, cl, T.n_Replica_applications, zip_look (i := 6) rNd rfl rfl, _, rfl, o, _, rfl, .inr (SqT.of ho), _, rfl, r, c_Replica K, q.dx, _, _, rfl, ob2, cl, T.n_Replica_applied, zip_look (i := 4) rNd rfl rfl, _, rfl, q.ap, o, q.os, os, rfl, ap2, ho, W.ol, _, _, rfl, rfl, _, _, rfl, rfl, q.dx, _, ob2, rlen _, ?_⟩
    have cle := com_le2 q.os os
    have ez : (q.k : Int) + (((os.map V.str).length : Int) - (comN q.os os : Int)) = ((q.k + (os.length - comN q.os os) : Nat) : Int) := by rw [om]; omega
    rw [ez]
    generalize eN : q.k + (os.length - comN q.os os) = N
    have ob3 : upd H2 r (.ins (c_Replica K) q.dx (putF "applications" (.int (N : Int)) q.flds)) r = some (.ins (c_Replica K) q.dx (rNames.zip [.ref q.p, .ref q.dp, .ref q.st, .ref q.ar, .ref q.ap, .ref q.rc, .int (N : Int)])) := by
      rw [upd_same, show q.flds = rNames.zip q.vals from rfl, zip_put (i := 6) rNd rfl (by show 6 < 7; decide)] <;> rfl
    have k3 : ∀ b u, b ≠ r → H2 b = some u → upd H2 r (.ins (c_Replica K) q.dx (putF "applications" (.int (N : Int)) q.flds)) b = some u := fun b u hb e => (upd_ne hb).trans e
    show (tSeq _ _) _ _ _
    generalize upd H2 r (.ins (c_Replica K) q.dx (putF "applications" (.int (N : Int)) q.flds)) = H3 at ob3 k3
    refine ⟨_, rfl, _, rfl, r, c_Replica K, q.dx, _, rfl, ob3, cl, T.n_Replica_applied, rlen _, ?_⟩
    have nor : o ≠ r := fun z => by rw [z, ob2] at ho; cases ho
    have noa : o ≠ q.ar := fun z => by rw [z, ar2] at ho; cases ho
    have ob4 : upd H3 r (.ins (c_Replica K) q.dx (putF "applied" (.ref o) (rNames.zip [.ref q.p, .ref q.dp, .ref q.st, .ref q.ar, .ref q.ap, .ref q.rc, .int (N : Int)]))) r = some (.ins (c_Replica K) q.dx (rNames.zip [.ref q.p, .ref q.dp, .ref q.st, .ref q.ar, .ref o, .ref q.rc, .int (N : Int)])) := by
      rw [upd_same, zip_put (i := 4) rNd rfl (by show 4 < 7; decide)] <;> rfl
    have k4 : ∀ b u, b ≠ r → H2 b = some u → upd H3 r (.ins (c_Replica K) q.dx (putF "applied" (.ref o) (rNames.zip [.ref q.p, .ref q.dp, .ref q.st, .ref q.ar, .ref q.ap, .ref q.rc, .int (N : Int)]))) b = some u := fun b u hb e => (upd_ne hb).trans (k3 b u hb e)
    show (tSeq _ _) _ _ _
    generalize upd H3 r (.ins (c_Replica K) q.dx (putF "applied" (.ref o) (rNames.zip [.ref q.p, .ref q.dp, .ref q.st, .ref q.ar, .ref q.ap, .ref q.rc, .int (N : Int)]))) = H4 at ob4 k4
    have kr4 : Kr r q.ar H H4 := fun b u h1 h2 e => k4 b u h1 (kr2 b u h1 h2 e)
    have W4 : WorldAt K H4 q.p n S L := (W.wd.ext kr4.off).ext off2_same
    obtain ⟨⟨wx, wl, wm, hp4, _, _⟩, _, _⟩ := id W4
    have nend : ∀ {n : Nat} {l d : Addr}, (wFlds n l d).lookup ("end" : Str) = none := no_wf (by decide +kernel) (by decide +kernel) (by decide +kernel)
    have st4 := kr4 _ _ (tnr R.st) (tna R.st) R.st
    have ho4 := k4 _ _ nor ho
    refine ⟨_, rfl, r, c_Replica K, q.dx, _, _, rfl, ob4, cl, T.n_Replica_world, zip_look (i := 0) rNd rfl rfl, q.p, wx, _, rfl, hp4, nend, _, rfl, r, c_Replica K, q.dx, _, _, rfl, ob4, cl, T.n_Replica_start, zip_look (i := 2) rNd rfl rfl, _, rfl, q.p, q.st, o, q.x0, os, n, S, L, rfl, W4, W.ok, st4, W.sx, W.ln, ho4, ond, ol, oin, fun rc H5 s5 e5 => ?_⟩
    have ob5 := s5 _ _ ob4
    refine ⟨_, rfl, r, c_Replica K, q.dx, _, rfl, ob5, cl, T.n_Replica_reached, rlen _, ?_⟩
    have ob6 : upd H5 r (.ins (c_Replica K) q.dx (putF "reached" (.ref rc) (rNames.zip [.ref q.p, .ref q.dp, .ref q.st, .ref q.ar, .ref o, .ref q.rc, .int (N : Int)]))) r = some (.ins (c_Replica K) q.dx (rNames.zip [.ref q.p, .ref q.dp, .ref q.st, .ref q.ar, .ref o, .ref rc, .int (N : Int)])) := by
      rw [upd_same, zip_put (i := 5) rNd rfl (by show 5 < 7; decide)] <;> rfl
    have k6 : ∀ b u, b ≠ r → H4 b = some u → upd H5 r (.ins (c_Replica K) q.dx (putF "reached" (.ref rc) (rNames.zip [.ref q.p, .ref q.dp, .ref q.st, .ref q.ar, .ref o, .ref q.rc, .int (N : Int)]))) b = some u := fun b u hb e => (upd_ne hb).trans (s5 _ _ e)
    have nrc : rc ≠ r := fun z => by rw [z, ob5] at e5; cases e5
    have e6 : upd H5 r (.ins (c_Replica K) q.dx (putF "reached" (.ref rc) (rNames.zip [.ref q.p, .ref q.dp, .ref q.st, .ref q.ar, .ref o, .ref q.rc, .int (N : Int)]))) rc = _ := (upd_ne nrc).trans e5
    generalize upd H5 r (.ins (c_Replica K) q.dx (putF "reached" (.ref rc) (rNames.zip [.ref q.p, .ref q.dp, .ref q.st, .ref q.ar, .ref o, .ref q.rc, .int (N : Int)]))) = H6 at ob6 k6 e6
    have kr6 : Kr r q.ar H H6 := fun b u h1 h2 e => k6 b u h1 (kr4 b u h1 h2 e)
    refine ⟨_, rfl, r, c_Replica K, q.dx, _, _, rfl, ob6, cl, T.n_Replica_reached, zip_look (i := 5) rNd rfl rfl, kk _ o rc kr6 ?_⟩
    subst eo
    subst eN
    exact ⟨ob6, kr6 _ _ dnr dna R.po, kr6 _ _ (tnr R.st) (tna R.st) R.st, k6 _ _ nra.symm (k4 _ _ nra.symm ar2), k6 _ _ nor ho4, e6⟩
end
end OP
namespace OP
open PySem PySem.Spec PyProof.Rows GenW L2
/-! ### defs that raise -/
structure OkX (P : Program) (w : PySem.World) (K : PySem.W.Frag) (mg : Str → Option Value) (base : Heap) (f : Addr) (ps : List Str) (k : Nat) (sp : Sp) : Prop where
  ex : ∃ fd, FnOk P w K mg base (L2.CX P w) k f fd ps sp ∧ Binds K fd ps []
  kp : PySem.W.keepIn K (.ref f) = true
theorem okX_of {P : Program} {w : PySem.World} {K : PySem.W.Frag} {mg : Str → Option Value} {base : Heap} {x qual : Str} {st : Stmt} {f : Addr} {N ps : List Str} {k : Nat} {sp : Sp} (F : ∃ fd, Fun K x qual st f fd) (S : FnScope N ps (defScope st))
    (hb : ∀ (kV doc pm : Value) (an : Option Addr) (cdv ct : Value) (us : List Value), us.length = ps.length → bindArgs (PySem.W.fnOf x qual (defArgs st) (defBody st) (defScope st) .none kV doc pm an cdv ct) ⟨us, []⟩ = pure (ps.zip us))
    (len : ∀ vs H Q E, sp vs H Q E → vs.length = ps.length)
    (body : ∀ (cdv : Value) (A : Around) (outer : List Env) (s : Shared) (H : Hp) (vs : List V) (Q : VK) (E : XK), Room k (A.deeper (envOfC qual (defScope st) s.heap.objs.size f cdv)) → sp vs H Q E →
      ∃ t, PSs (cxOf (L2.CX P w) P w K mg base N qual (defScope st) f cdv A outer s H E) (defBody st) t ∧ t { nx := fun _ H' => Q .non H', rt := Q } (start N vs) H) : OkX P w K mg base f ps (k + 1) sp := by
  obtain ⟨fd, F⟩ := F
  exact ⟨⟨fd, F.okX S len body, F.binds hb⟩, F.kp⟩
/-- o.m(e, ..) within a try -/
def tMtX (C : Addr) (m : Str) (sp : Sp) (E : L2.St → XK) (ta : TE) (t : TA) : TE := fun σ H Q => ta σ H fun x H1 => ∃ (a dx : Addr) (fs : List (Str × V)), x = .ref a ∧ H1 a = some (.ins C dx fs) ∧ fs.lookup m = none ∧ t σ H1 fun vs H2 => sp (.ref a :: vs) H2 Q (E σ)
theorem pe_mtX {X : Cx} {k : Nat} {f C : Addr} {ps : List Str} {sp : Sp} {E : L2.St → XK} {m : Str} {pos apos : Pos} {e o : Expr} {es : List Expr} {ta : TE} {t : TA} {pl : Sem Bool} (he : PE X o ta) (c : Own X.K C) (hm : Meth X.K C m f) (O : OkX X.prog X.w X.K X.mg X.base f ps k sp)
    (hr : Room k X.A) (hx : ∀ σ, PassesAt (L2.CX X.prog X.w) X σ (E σ)) (ha : PA X (e :: es) t) (hst : starEach (e :: es) X.env = (false, eval e X.env) :: starEach es X.env := by rfl) (hpl : (backTo pos (starEach es X.env)).any (·.1) = false := by rfl)
    (ht : eval (.Call (.Attribute o m apos) (e :: es) [] pos) X.env = (do let ov ← eval o X.env; standAt apos.atName; let (f, first) ← holding [ov] (getMethod ov m pl); callWith pos f first (backTo pos (starEach (e :: es) X.env)) (backToKw pos (keywordEach [] X.env))) := by rfl) :
    PE X (.Call (.Attribute o m apos) (e :: es) [] pos) (tMtX C m sp E ta t) := by
  obtain ⟨⟨fd, G, b⟩, kp⟩ := O
  refine ⟨fun ps s σ H Q I h => PySem.W.methodCall_KW (pl := pl) (thn (he.run ps s σ H _ I h) fun u s1 ⟨x, H1, I1, rx, a, dx, fs, ex, ea, l, q⟩ => ?_) ht⟩
  subst ex
  obtain rfl : u = .ref a := rx
  refine getmeth_ok I1 ea c.cl hm l (PySem.W.callWith_K (first := [.ref a]) (h₀ := X.base) I.ok.mod.kin hm.kp (thn (ha.run pos ps s1 σ H1 _ I1 q) fun us s2 ⟨vs, H2, I2, r, q2⟩ => ⟨I2.kIn, run_fnS (us := .ref a :: us) (vs := .ref a :: vs) G hr b (hx σ) I2 (.cons rfl r) q2⟩) hst hpl)
section
variable {P : Program} {w : PySem.World} {K : PySem.W.Frag} {mg : Str → Option Value} {base : Heap}
/-- a name that has come already is refused -/
def spRecvX (K : PySem.W.Frag) : Sp := fun vs H _ E => ∃ (r : Addr) (q : Rep) (y : Str) (n : Nat) (S : Sts) (L : Ncs), vs = [.ref r, .str y] ∧ RepAt K H r q ∧ WorldAt K H q.p n S L ∧ (names L).Nodup ∧ y ∈ names L ∧ y ∈ q.ys ∧ E (.ref (He.ga K "BadName")) none H
theorem ok_recvX (T : Txt K mg) : OkX P w K mg base (a_Replica_receive K) ["self", "name"] 2 (spRecvX K) := by
  have GK : Ok P w K mg base (a_is_known K) _ 1 (spKnown K) := ok_is_known T
  obtain ⟨xP, kP, bP, tP⟩ := T.x_BadName
  refine okX_of T.f_Replica_receive sc_rcv (fun _ _ _ _ _ _ us hl => match us, hl with | [_, _], _ => rfl) (fun vs H Q E h => ?_) (fun cdv A outer s H vs Q E hr h => ?_)
  · obtain ⟨r, q, y, n, S, L, rfl, _⟩ := h
    rfl
  · obtain ⟨r, q, y, n, S, L, rfl, R, W, nd, hy, hin, kk⟩ := h
    have cl := T.o_Replica.cl
    refine ⟨_, (pss_cons (ps_if (PW.pt (pw_or (pt_not (pt_val (pe_c GK hr T.g_is_known (pa_cons (pe_fld (pv 0) rfl) (pa_cons (pv 1) pa_nil))))) (pw_or1 (pt_cmpR op_in_seq (pv 1) (pe_fld (pv 0) rfl) (by rfl))))) (pss_one (ps_raise rfl (takes_of rfl rfl rfl rfl) (pmk_own PySem.F.excBase_ValueError xP T.g_BadName kP (raises_own bP tP) rfl))) pss_nil)
      (PSs.nox (pss_cons ps_never (pss_cons ps_never (pss_cons ps_never (pss_cons ps_never (pss_cons ps_never (pss_one ps_never)))))))), ?_⟩
    refine ⟨_, rfl, r, c_Replica K, q.dx, _, _, rfl, R.ob, cl, T.n_Replica_world, zip_look (i := 0) rNd rfl rfl, _, rfl, q.p, y, n, S, L, rfl, W, nd, hy, true, rfl, iteF ?_⟩
    refine ⟨_, rfl, _, rfl, r, c_Replica K, q.dx, _, _, rfl, R.ob, cl, T.n_Replica_arrived, zip_look (i := 3) rNd rfl rfl, q.ar, _, rfl, .inl (SqL.of R.ar), rfl, strs_flat _, _, rfl, ?_⟩
    rw [inV_strs, decide_eq_true hin]
    exact iteT kk
def spRefused (K : PySem.W.Frag) : Sp := fun vs H Q _ => ∃ (r : Addr) (q : Rep) (y : Str) (n : Nat) (S : Sts) (L : Ncs), vs = [.ref r, .str y] ∧ RepAt K H r q ∧ WorldAt K H q.p n S L ∧ (names L).Nodup ∧ y ∈ names L ∧ y ∈ q.ys ∧ Q (.bl true) H
theorem sc_refu : FnScope ["_law_replica", "_law_name"] ["_law_replica", "_law_name"] (defScope s__law_refused) := ⟨rfl, rfl, rfl, by decide +kernel, rfl, by decide +kernel, by decide +kernel⟩
theorem no_rep {vs : List V} {f : Str} (h : f ∉ rNames) : (rNames.zip vs).lookup f = none := by
  have gen : ∀ (F : List Str) (vs : List V), f ∉ F → (F.zip vs).lookup f = none := by
    intro F
    induction F with
    | nil => intro vs _; rfl
    | cons g F ih =>
      intro vs h
      cases vs with
      | nil => rfl
      | cons v vs =>
        have e : (f == g) = false := beq_eq_false_iff_ne.mpr fun z => h (by rw [z]; exact List.mem_cons_self)
        show List.lookup f ((g, v) :: F.zip vs) = none
        rw [List.lookup, e]
        exact ih vs fun z => h (List.mem_cons_of_mem _ z)
  exact gen rNames vs h
theorem ok_refused (T : Txt K mg) : Ok P w K mg base (a__law_refused K) ["_law_replica", "_law_name"] 3 (spRefused K) := by
  have GR : OkX P w K mg base (a_Replica_receive K) _ 2 (spRecvX K) := ok_recvX T
  refine ok_of T.f__law_refused sc_refu (fun _ _ _ _ _ _ us hl => match us, hl with | [_, _], _ => rfl) (fun vs H Q E h => ?_) (fun cdv A outer s H vs Q E hr h => ?_)
  · obtain ⟨r, q, y, n, S, L, rfl, _⟩ := h
    rfl
  · obtain ⟨r, q, y, n, S, L, rfl, R, W, nd, hy, hin, kk⟩ := h
    refine ⟨_, (pss_cons (ps_try_only (tb := fun W => tDrop (tMtX (c_Replica K) "receive" (spRecvX K) (WE W) (tVar 0) (tCons (tVar 1) tNil))) (ts := fun _ _ _ => tRet (tC (.bl true))) (Wout := fun _ _ _ _ => False) rfl rfl ⟨rfl, by decide, Or.inl T.g_BadName⟩ takes0
      (fun W pn xe tk _ => pss_one (ps_expr (pe_mtX (pv 0) T.o_Replica T.m_Replica_receive GR hr (fun σ => passAt tk σ) (by exact (pa_cons (pv 1) pa_nil)))))
      (fun _ _ _ _ _ _ _ => pss_one (ps_ret pe_bl))) (pss_one (ps_ret pe_bl))), ?_⟩
    refine ⟨_, rfl, r, q.dx, _, rfl, R.ob, no_rep (by decide +kernel), _, rfl, r, q, y, n, S, L, rfl, R, W, nd, hy, hin, true, T.e_BadName, fun _ a ha => kk, fun z => (by cases z)⟩
end
end OP
namespace OP
open PySem PySem.Spec PyProof.Rows GenW L2
/-- C(e, ..), the class held in the i-th slot -/
def tMkL (i : Nat) (C : Addr) (sp : Sp) (t : TA) : TE := fun σ H Q => σ[i]? = some (some (.ref C)) ∧ t σ H fun vs H1 => ∀ x dx, H1 x = none → H1 dx = none → dx ≠ x → sp (.ref x :: (vs ++ [])) (upd (upd H1 dx (.own x)) x (.ins C dx [])) (fun v H2 => v = .non ∧ Q (.ref x) H2) E0
theorem pe_makeL {X : Cx} {i k : Nat} {f C : Addr} {ps : List Str} {sp : Sp} {x : Str} {p pos : Pos} {e : Expr} {es : List Expr} {t : TA} (M : Mk X.K C f) (O : Ok X.prog X.w X.K X.mg X.base f ps k sp) (hr : Room (k + 1) X.A) (hN : X.N[i]? = some x) (hv : Vis X.env.scope x) (ha : PA X (e :: es) t)
    (n1 : (x == ("__debug__" : Str)) = false := by decide) (n2 : (x == ("__classdict__" : Str)) = false := by decide) (st : starEach (e :: es) X.env = (false, eval e X.env) :: starEach es X.env := by rfl) (pl : (backTo pos (starEach es X.env)).any (·.1) = false := by rfl) :
    PE X (.Call (.Name x p) (e :: es) [] pos) (tMkL i C sp t) := by
  obtain ⟨⟨fd, G, b⟩, kp⟩ := O
  refine ⟨fun ps s σ H Q I ⟨hs, ht⟩ => wpAny_Call_Name_kw (thn ((pe_var (pos := p) hN hv n1 n2).run ps s σ H (fun v H1 => v = .ref C ∧ H1 = H) I ⟨.ref C, hs, rfl, rfl⟩) fun u s1 ⟨v, H1, I1, r1, e1, e2⟩ => ?_)⟩
  subst e1 e2
  cases r1
  exact PySem.W.callWith_K (h₀ := X.base) I.ok.mod.kin M.kp (thn (ha.run pos ps s1 σ _ _ I1 ht) fun us s2 ⟨vs, H2, I2, r, q⟩ => ⟨I2.kIn, run_make M G hr b .nil pass0 I2 r q⟩) st pl
/-! ### the work of what has come -/
def workR (E : Ents) : List Str → Nat
  | [] => 0
  | y :: r => workR E r + ((lineN E 4 (r.reverse ++ [y])).length - comN (lineN E 4 r.reverse) (lineN E 4 (r.reverse ++ [y])))
def workN (E : Ents) (ys : List Str) : Nat := workR E ys.reverse
theorem work_snoc (E : Ents) (ys : List Str) (y : Str) : workN E (ys ++ [y]) = workN E ys + ((lineN E 4 (ys ++ [y])).length - comN (lineN E 4 ys) (lineN E 4 (ys ++ [y]))) := by
  unfold workN
  rw [List.reverse_append]
  show workR E (y :: ys.reverse) = _
  unfold workR
  rw [List.reverse_reverse]
  cases h : ys.reverse with
  | nil => rfl
  | cons z zs => rfl
structure Rep.Good (q : Rep) (L : Ncs) : Prop where
  os : q.os = lineN q.E 4 q.ys
  xs : q.xs = appAll L q.os q.x0
  k : q.k = workN q.E q.ys
theorem good_new {dx p dp st ar ap : Addr} {E : Ents} {x0 : List Int} (L : Ncs) : (newRep dx p dp st ar ap E x0).Good L := ⟨(line_nil E 4).symm, rfl, rfl⟩
theorem good_next {q : Rep} {L : Ncs} {y : Str} {ap rc : Addr} (g : q.Good L) : (q.next L y ap rc).Good L := by
  refine ⟨rfl, rfl, ?_⟩
  show q.k + ((lineN q.E 4 (q.ys ++ [y])).length - comN q.os (lineN q.E 4 (q.ys ++ [y]))) = workN q.E (q.ys ++ [y])
  rw [work_snoc, g.k, g.os]
theorem RepW.next {K : PySem.W.Frag} {H H' : Hp} {r : Addr} {q : Rep} {n : Nat} {S : Sts} {L : Ncs} {y : Str} {ap rc : Addr} (W : RepW K H r q n S L) (kr : Kr r q.ar H H') (hy : y ∈ names L) (hn : y ∉ q.ys) : RepW K H' r (q.next L y ap rc) n S L where
  wd := W.wd.ext kr.off
  ok := W.ok
  po := W.po
  sx := W.sx
  ln := W.ln
  yin := fun z hz => (List.mem_append.mp hz).elim (W.yin z) fun z' => by rw [List.mem_singleton.mp z']; exact hy
  ynd := by
    show (q.ys ++ [y]).Nodup
    rw [List.nodup_append]
    exact ⟨W.ynd, List.nodup_cons.mpr ⟨fun z => (by cases z), List.nodup_nil⟩, fun a ha b hb z => hn (by rw [← List.mem_singleton.mp hb, ← z]; exact ha)⟩
  ol := line_len _ _ _
section
variable {P : Program} {w : PySem.World} {K : PySem.W.Frag} {mg : Str → Option Value} {base : Heap}
/-- a replica that has come to be over H: it and its list are new -/
structure Born (K : PySem.W.Frag) (H H' : Hp) (r : Addr) (q : Rep) (p : Addr) (E : Ents) (x0 : List Int) (ys : List Str) (n : Nat) (S : Sts) (L : Ncs) : Prop where
  same : Same H H'
  at_ : RepAt K H' r q
  wd : RepW K H' r q n S L
  good : q.Good L
  fr : H r = none
  fa : H q.ar = none
  ep : q.p = p
  eE : q.E = E
  ex : q.x0 = x0
  ey : q.ys = ys
theorem born_new {H H' : Hp} {r dx p dp st ar ap : Addr} {E : Ents} {x0 : List Int} {n : Nat} {S : Sts} {L : Ncs} (W : WorldAt K H p n S L) (ok : WOk n S L) (po : PolOk E (names L)) (sx : StoreOk x0) (ln : x0.length = n) (fr : H r = none) (fa : H ar = none) (o : ∀ b u, b ≠ r → H b = some u → H' b = some u)
    (R : RepAt K H' r (newRep dx p dp st ar ap E x0)) : Born K H H' r (newRep dx p dp st ar ap E x0) p E x0 [] n S L := by
  have nr : ∀ b u, H b = some u → b ≠ r := fun b u e z => by rw [z, fr] at e; cases e
  have na : ∀ b u, H b = some u → b ≠ ar := fun b u e z => by rw [z, fa] at e; cases e
  exact ⟨fun b u e => o b u (nr b u e) e, R, ⟨W.ext fun b u e => off2_some.mpr ⟨nr b u e, na b u e, o b u (nr b u e) e⟩, ok, po, sx, ln, fun y hy => (by cases hy), List.nodup_nil, Nat.zero_le _⟩, good_new L, fr, fa, rfl, rfl, rfl, rfl⟩
theorem born_next {H H1 H2 : Hp} {r p : Addr} {q : Rep} {E : Ents} {x0 : List Int} {ys : List Str} {n : Nat} {S : Sts} {L : Ncs} {y : Str} {ap rc : Addr} (B : Born K H H1 r q p E x0 ys n S L) (hy : y ∈ names L) (hn : y ∉ ys) (kr : Kr r q.ar H1 H2) (R : RepAt K H2 r (q.next L y ap rc)) :
    Born K H H2 r (q.next L y ap rc) p E x0 (ys ++ [y]) n S L := by
  refine ⟨fun b u e => kr b u (fun z => by rw [z, B.fr] at e; cases e) (fun z => by rw [z, B.fa] at e; cases e) (B.same _ _ e), R, B.wd.next kr hy (by rw [B.ey]; exact hn), good_next B.good, B.fr, B.fa, B.ep, B.eE, B.ex, ?_⟩
  show q.ys ++ [y] = ys ++ [y]
  rw [B.ey]
theorem Born.ext {H H1 H2 : Hp} {r p : Addr} {q : Rep} {E : Ents} {x0 : List Int} {ys : List Str} {n : Nat} {S : Sts} {L : Ncs} (B : Born K H H1 r q p E x0 ys n S L) (s : Same H1 H2) : Born K H H2 r q p E x0 ys n S L :=
  ⟨B.same.trans s, B.at_.ext s, { B.wd with wd := B.wd.wd.ext (Kr.of s).off }, B.good, B.fr, B.fa, B.ep, B.eE, B.ex, B.ey⟩
theorem take_fresh {ys : List Str} {i : Nat} {y : Str} (nd : ys.Nodup) (h : ys[i]? = some y) : y ∉ ys.take i := fun z => by
  obtain ⟨hi, rfl⟩ := List.getElem?_eq_some_iff.mp h
  obtain ⟨m, hm, em⟩ := List.mem_take_iff_getElem.mp z
  have := (List.getElem_inj nd).mp em
  omega
def spRAt (K : PySem.W.Frag) : Sp := fun vs H Q _ => ∃ (p d st a : Addr) (n : Nat) (S : Sts) (L : Ncs) (E : Ents) (x0 : List Int) (ys : List Str), vs = [.ref (c_Replica K), .ref p, .ref d, .ref st, .ref a] ∧ WorldAt K H p n S L ∧ WOk n S L ∧ H d = some (.dT (pol E)) ∧ PolOk E (names L) ∧ E.Nodup ∧
  StoreOk x0 ∧ x0.length = n ∧ H st = some (.tup (x0.map V.int)) ∧ x0 ∈ S.map (·.2) ∧ H a = some (.tup (ys.map V.str)) ∧ ys.Nodup ∧ (∀ y ∈ ys, y ∈ names L) ∧ ys.length ≤ 4 ∧ ∀ H' r q, Born K H H' r q p E x0 ys n S L → Q (.ref r) H'
theorem sc_rat : FnScope ["cls", "world", "policy", "start", "names", "replica", "name"] ["cls", "world", "policy", "start", "names"] (defScope s_Replica_at) := ⟨rfl, rfl, rfl, by decide +kernel, rfl, by decide +kernel, by decide +kernel⟩
theorem ok_rat (T : Txt K mg) : Ok P w K mg base (a_Replica_at K) ["cls", "world", "policy", "start", "names"] 8 (spRAt K) := by
  have GI : Ok P w K mg base (a_Replica_init K) _ 5 (spRInit K) := ok_Replica_init T
  have GO : Ok P w K mg base (a_is_order K) _ 2 (spIsOrder K) := ok_is_order T
  have GR : Ok P w K mg base (a_Replica_receive K) _ 7 (spRecv K) := ok_recv T
  refine ok_of T.f_Replica_at sc_rat (fun _ _ _ _ _ _ us hl => match us, hl with | [_, _, _, _, _], _ => rfl) (fun vs H Q E h => ?_) (fun cdv A outer s H vs Q E hr h => ?_)
  · obtain ⟨p, d, st, a, n, S, L, E', x0, ys, rfl, _⟩ := h
    rfl
  · obtain ⟨p, d, st, a, n, S, L, E', x0, ys, rfl, W, ok, hd, po, en, sx, ln, hst, hin, ha, ynd, yin, y4, kk⟩ := h
    have hr2 : Room 2 _ := hr.mono (by decide)
    have hr6 : Room 6 _ := hr.mono (by decide)
    refine ⟨_, (pss_cons (ps_set (i := 5) sc_rat.nd rfl (Or.inl rfl) (pe_makeL (i := 0) T.mk_Replica GI hr6 rfl (Or.inl rfl) (pa_cons (pv 1) (pa_cons (pv 2) (pa_cons (pv 3) pa_nil)))))
      (pss_cons (ps_if (pt_not (pt_val (pe_c GO hr2 T.g_is_order (pa_cons (pv 1) (pa_cons (pv 4) pa_nil))))) (pss_one ps_never) pss_nil)
      (pss_cons (ps_for PassesOwn.never rfl (pi_tup (pv 4)) (pg_name (i := 6) sc_rat.nd rfl (Or.inl rfl)) (pss_one (ps_expr (pe_mt (pv 5) T.o_Replica T.m_Replica_receive GR hr (pa_cons (pv 6) pa_nil)))))
      (pss_one (ps_ret (pv 5)))))), ?_⟩
    refine ⟨rfl, _, rfl, _, rfl, _, rfl, fun x dx hx hdx ne => ?_⟩
    have s0 : Same H (upd (upd H dx (.own x)) x (.ins (c_Replica K) dx [])) := fun b u e => by
      rw [upd_ne (ne_of_none e hx), upd_ne (ne_of_none e hdx)]
      exact e
    refine ⟨x, dx, p, d, st, n, S, L, E', x0, rfl, W.ext s0, ok, s0 _ _ hd, po, en, sx, ln, s0 _ _ hst, hin, upd_same, fun H1 dp ar ap o hdp har R => ⟨rfl, ?_⟩⟩
    have B1 := born_new W ok po sx ln hx (none_back s0 har) (fun b u hb e => o b u hb (s0 _ _ e)) R
    refine ⟨_, rfl, _, rfl, p, a, ys, n, S, L, rfl, W.ext B1.same, ok.chgs.nd, B1.same _ _ ha, ynd, y4, yin, fun H2 s2 => ⟨true, rfl, iteF ?_⟩⟩
    have B2 := B1.ext s2
    refine ⟨_, rfl, a, rfl, ⟨_, SqT.of (B2.same _ _ ha)⟩, ?_⟩
    refine for_it (walk_tup (K := K) (a := a) (xs := ys.map V.str)) (fun i σ H' => ∃ (q : Rep) (f : Option V), σ = [some (.ref (c_Replica K)), some (.ref p), some (.ref d), some (.ref st), some (.ref a), some (.ref x), f] ∧ Born K H H' x q p E' x0 (ys.take i) n S L) ⟨_, _, rfl, B2⟩ (fun i σ H' _ ⟨_, _, _, B⟩ => SqT.of (B.same _ _ ha)) (fun i v σ H3 H4 hi inv yy => ?_) (fun σ H3 inv => ?_)
    · obtain ⟨q, f, rfl, B⟩ := inv
      obtain ⟨rfl, hv⟩ := yy
      obtain ⟨y, hy, rfl⟩ := strs_at' hv
      have hyL := yin y (List.mem_of_getElem? hy)
      have hny := take_fresh ynd hy
      refine ⟨_, rfl, x, q.dx, _, rfl, B.at_.ob, no_rep (by decide +kernel), _, rfl, x, q, y, n, S, L, rfl, B.at_, B.wd, hyL, by rw [B.ey]; exact hny, fun H5 ap' rc kr R' => ⟨q.next L y ap' rc, _, rfl, ?_⟩⟩
      have := born_next B hyL hny kr R'
      rw [List.take_add_one, hy, Option.toList_some]
      exact this
    · obtain ⟨q, f, rfl, B⟩ := inv
      rw [List.length_map, List.take_length] at B
      exact ⟨_, rfl, kk _ x q B⟩
end
end OP
namespace OP
open PySem PySem.Spec PyProof.Rows GenW L2
section
variable {X : Cx} {p pos apos : Pos} {e o : Expr} {es : List Expr} {t : TA} {ta : TE} {g C : Addr} {ps : List Str} {k : Nat} {sp : Sp} {q : Addr} {m : Str}
/-- C.m(e, ..), a classmethod -/
theorem pe_cmt {pl : Sem Bool} (he : PE X o ta) (r : ClX.CRead X.K C (.type "type")) (c : ClX.CMet X.K C (.type "type") m q g) (O : Ok X.prog X.w X.K X.mg X.base g ps k sp) (hr : Room k X.A) (ha : PA X (e :: es) t)
    (hst : starEach (e :: es) X.env = (false, eval e X.env) :: starEach es X.env := by rfl) (hpl : (backTo pos (starEach es X.env)).any (·.1) = false := by rfl)
    (ht : eval (.Call (.Attribute o m apos) (e :: es) [] pos) X.env = (do let ov ← eval o X.env; standAt apos.atName; let (f, first) ← holding [ov] (getMethod ov m pl); callWith pos f first (backTo pos (starEach (e :: es) X.env)) (backToKw pos (keywordEach [] X.env))) := by rfl) :
    PE X (.Call (.Attribute o m apos) (e :: es) [] pos) (ClX.tCMeth C (fun vs => sp (vs ++ [])) E0 ta t) := by
  obtain ⟨⟨fd, G, b⟩, kp⟩ := O
  exact ClX.pe_cmeth he r c (G.raw b .nil) hr pass0 ha hst hpl ht
end
section
variable {P : Program} {w : PySem.World} {K : PySem.W.Frag} {mg : Str → Option Value} {base : Heap}
def spWorkOf (K : PySem.W.Frag) : Sp := fun vs H Q _ => ∃ (p d a : Addr) (n : Nat) (S : Sts) (L : Ncs) (E : Ents) (ys : List Str), vs = [.ref p, .ref d, .ref a] ∧ WorldAt K H p n S L ∧ WOk n S L ∧ H d = some (.dT (pol E)) ∧ PolOk E (names L) ∧ E.Nodup ∧
  H a = some (.tup (ys.map V.str)) ∧ ys.Nodup ∧ (∀ y ∈ ys, y ∈ names L) ∧ ys.length ≤ 4 ∧ ∀ H', Same H H' → Q (.int (workN E ys)) H'
theorem sc_wof : FnScope ["world", "policy", "names", "replica"] ["world", "policy", "names"] (defScope s_work_of) := ⟨rfl, rfl, rfl, by decide +kernel, rfl, by decide +kernel, by decide +kernel⟩
theorem ok_workof (T : Txt K mg) : Ok P w K mg base (a_work_of K) ["world", "policy", "names"] 9 (spWorkOf K) := by
  have GW : Ok P w K mg base (a_check_world K) _ 1 (spCWorld K) := ok_cworld T
  have GS : Ok P w K mg base (a_World_stores K) _ 1 (spStores K) := ok_World_stores T
  have GA : Ok P w K mg base (a_Replica_at K) _ 8 (spRAt K) := ok_rat T
  have GK : Ok P w K mg base (a_Replica_work K) _ 1 (spRWork K) := ok_rwork T
  refine ok_of T.f_work_of sc_wof (fun _ _ _ _ _ _ us hl => match us, hl with | [_, _, _], _ => rfl) (fun vs H Q E h => ?_) (fun cdv A outer s H vs Q E hr h => ?_)
  · obtain ⟨p, d, a, n, S, L, E', ys, rfl, _⟩ := h
    rfl
  · obtain ⟨p, d, a, n, S, L, E', ys, rfl, W, ok, hd, po, en, ha, ynd, yin, y4, kk⟩ := h
    have hr1 : Room 1 _ := hr.mono (by decide)
    have hr2 : Room 2 _ := hr.mono (by decide)
    refine ⟨_, (pss_cons (ps_expr (pe_c GW hr1 T.g_check_world (pa_cons (pv 0) pa_nil)))
      (pss_cons (ps_set (i := 3) sc_wof.nd rfl (Or.inl rfl) (pe_cmt (pe_glob (v := .ref (c_Replica K)) (by rfl) T.g_Replica rfl) T.cr_Replica T.cm_Replica_at GA hr (pa_cons (pv 0) (pa_cons (pv 1) (pa_cons (pe_ix ix_list (pe_pr (pv 0) T.o_World T.p_World_stores GS hr2) pe_int (fun _ _ => rfl)) (pa_cons (pv 2) pa_nil))))))
      (pss_one (ps_ret (pe_pr (pv 3) T.o_Replica T.p_Replica_work GK hr2))))), ?_⟩
    obtain ⟨⟨dx, l, m, hp, hl, hm⟩, hS, _⟩ := id W
    have l1 := ok.sts.lo
    have h0 : S[0]? = some S[0] := List.getElem?_eq_getElem l1
    have mem : S[0] ∈ S := List.getElem_mem l1
    obtain ⟨sok, sln⟩ := ok.sts.each _ mem
    refine ⟨_, rfl, p, n, S, L, rfl, W, ?_⟩
    refine ⟨rfl, _, rfl, _, rfl, _, rfl, p, dx, _, rfl, hp, p, n, S, L, rfl, W, fun r H1 s1 e1 => ?_⟩
    refine ⟨r, _, ((0 : Nat) : Int), .ref S[0].1, rfl, rfl, SqL.of e1, atI_nat (by unfold refs; rw [List.getElem?_map, h0] <;> rfl), _, rfl, p, d, S[0].1, a, n, S, L, E', S[0].2, ys, rfl, W.ext s1, ok, s1 _ _ hd, po, en, sok, sln, s1 _ _ (hS _ mem), List.mem_map.mpr ⟨_, mem, rfl⟩, s1 _ _ ha, ynd, yin, y4, fun H2 x q B => ?_⟩
    refine ⟨_, rfl, x, q.dx, _, rfl, B.at_.ob, x, q, rfl, B.at_, ?_⟩
    rw [B.good.k, B.eE, B.ey]
    exact kk _ (s1.trans B.same)
end
end OP
namespace OP
open PySem PySem.Spec PyProof.Rows GenW L2
/-- orders with their work: the pair, its tuple, what they hold -/
abbrev Aws := List (Addr × Addr × List Str × Nat)
def AwAt (H : Hp) (Z : Aws) : Prop := ∀ z ∈ Z, H z.1 = some (.tup [.ref z.2.1, .int z.2.2.2]) ∧ H z.2.1 = some (.tup (z.2.2.1.map V.str))
def wrefs (Z : Aws) : List V := Z.map fun z => V.ref z.1
def wcont (Z : Aws) : List (List Str × Nat) := Z.map fun z => z.2.2
theorem AwAt.ext {H H' : Hp} {Z : Aws} (s : Same H H') (h : AwAt H Z) : AwAt H' Z := fun z hz => ⟨s _ _ (h z hz).1, s _ _ (h z hz).2⟩
section
variable {P : Program} {w : PySem.World} {K : PySem.W.Frag} {mg : Str → Option Value} {base : Heap}
def spArr (K : PySem.W.Frag) : Sp := fun vs H Q _ => ∃ (p d : Addr) (n : Nat) (S : Sts) (L : Ncs) (E : Ents), vs = [.ref p, .ref d] ∧ WorldAt K H p n S L ∧ WOk n S L ∧ H d = some (.dT (pol E)) ∧ PolOk E (names L) ∧ E.Nodup ∧
  ∀ (H' : Hp) (r : Addr) (Z : Aws), Same H H' → H r = none → H' r = some (.lst (wrefs Z)) → AwAt H' Z → wcont Z = (allowN [] 4 (names L)).map (fun o => (o, workN E o)) → Q (.ref r) H'
theorem sc_arr : FnScope ["world", "policy", "names"] ["world", "policy"] (defScope s_arrivals_with_work) := ⟨rfl, rfl, rfl, by decide +kernel, rfl, by decide +kernel, by decide +kernel⟩
theorem ok_arr (T : Txt K mg) : Ok P w K mg base (a_arrivals_with_work K) ["world", "policy"] 10 (spArr K) := by
  have GW : Ok P w K mg base (a_work_of K) _ 9 (spWorkOf K) := ok_workof T
  have GN : Ok P w K mg base (a_World_names K) _ 1 (spNames K) := ok_World_names T
  have GA : Ok P w K mg base (a_allowed_orders K) _ 6 (spAllow K 4) := ok_allow T
  refine ok_of T.f_arrivals_with_work sc_arr (fun _ _ _ _ _ _ us hl => match us, hl with | [_, _], _ => rfl) (fun vs H Q E h => ?_) (fun cdv A outer s H vs Q E hr h => ?_)
  · obtain ⟨p, d, n, S, L, E', rfl, _⟩ := h
    rfl
  · obtain ⟨p, d, n, S, L, E', rfl, W, ok, hd, po, en, kk⟩ := h
    have hr2 : Room 2 _ := hr.mono (by decide)
    have hr6 : Room 6 _ := hr.mono (by decide)
    have nl : (names L).length ≤ 4 := by unfold names; rw [List.length_map]; exact ok.chgs.hi
    refine ⟨_, (pss_one (ps_ret (pe_lc (own := [("names", 2)]) (g := (gName 2)) (tt := tYes) rfl sc_arr.nd (pi_list (pe_c GA hr6 T.g_allowed_orders (pa_cons pe_dnewT (pa_cons (pe_tupleOf (by rfl) T.z_tuple (pe_pr (pv 0) T.o_World T.p_World_names GN hr2)) pa_nil)))) (blkOk_by (own := [("names", 2)]) (N := ["world", "policy", "names"]) (sc := defScope s_arrivals_with_work) (by decide +kernel)) (fun _ _ _ _ _ => (pg_name (i := 2) sc_arr.nd rfl (Or.inl rfl))) (fun _ _ _ _ _ => pts_nil) (fun _ _ _ _ _ => (pe_tup (pa_cons (pv 2) (pa_cons (pe_c GW hr T.g_work_of (pa_cons (pv 0) (pa_cons (pv 1) (pa_cons (pv 2) pa_nil)))) pa_nil))))))), ?_⟩
    refine fun d0 hd0 => ?_
    have s1 : Same H _ := same_upd (o := .dT []) hd0
    have h01 : upd H d0 (.dT []) d0 = some (.dT (pol [])) := upd_same
    generalize upd H d0 (.dT []) = H1 at s1 h01
    have W1 := W.ext s1
    obtain ⟨⟨dx, l, m, hp, hl, hm⟩, _, _⟩ := id W1
    refine ⟨_, rfl, p, dx, _, rfl, hp, p, n, S, L, rfl, W1, fun r H2 s2 e2 => .inl ⟨r, _, rfl, SqL.of e2, fun t ht => ?_⟩⟩
    have s3 : Same H2 _ := same_upd (o := .tup ((names L).map V.str)) ht
    have t3 : upd H2 t (.tup ((names L).map V.str)) t = some (.tup ((names L).map V.str)) := upd_same
    generalize upd H2 t (.tup ((names L).map V.str)) = H3 at s3 t3
    have s13 := (s1.trans s2).trans s3
    refine ⟨d0, t, [], names L, rfl, .inl (s3 _ _ (s2 _ _ h01)), SqT.of t3, nl, fun H4 r4 Z s4 e4 a4 c4 => ⟨r4, rfl, ⟨_, SqL.of e4⟩, fun D hD => ?_⟩⟩
    have s14 := s13.trans s4
    have zl : (nrefs Z).length = Z.length := List.length_map ..
    have zc : Z.length ≤ 256 := by
      have := allow_le [] 4 (names L) nl
      rw [← c4, List.length_map] at this
      exact this
    have ord : ∀ z ∈ Z, z.2.Nodup ∧ (∀ y ∈ z.2, y ∈ names L) ∧ z.2.length ≤ 4 := fun z hz => by
      have hm : z.2 ∈ allowN [] 4 (names L) := by rw [← c4]; exact List.mem_map.mpr ⟨z, hz, rfl⟩
      obtain ⟨q1, q2⟩ := allow_ord [] 4 _ _ hm
      exact ⟨q1, q2, allow_len [] 4 _ nl _ hm⟩
    refine lc_it (walk_list (K := K) (a := r4) (xs := nrefs Z)) (fun i H' => ∃ acc : Aws, Same H4 H' ∧ H' D = some (.lst (wrefs acc)) ∧ AwAt H' acc ∧ wcont acc = (Z.take i).map (fun z => (z.2, workN E' z.2))) ⟨[], same_upd hD, upd_same, fun z hz => (by cases hz), rfl⟩ (fun i H' _ inv => ?_) (fun i x H5 H5' hi inv yy => ?_) (fun H5 inv => ?_)
    · obtain ⟨_, z, _⟩ := inv
      exact SqL.of (z _ _ e4)
    · obtain ⟨acc, s5, d5, a5, c5⟩ := inv
      obtain ⟨rfl, hx⟩ := yy
      obtain ⟨hiZ, rfl⟩ := nts_at hx
      have mem : Z[i] ∈ Z := List.getElem_mem hiZ
      obtain ⟨o1, o2, o3⟩ := ord _ mem
      have s15 := s14.trans s5
      have hz := (a4.ext s5) _ mem
      refine ⟨rfl, tyes (iteT ⟨_, rfl, _, rfl, _, rfl, _, rfl, p, d, Z[i].1, n, S, L, E', Z[i].2, rfl, W.ext s15, ok, s15 _ _ hd, po, en, hz, o1, o2, o3, fun H6 s6 => ⟨(by show 2 ≤ sizeLine; decide), fun q hq => ?_⟩⟩)⟩
      have s7 : Same H6 _ := same_upd (o := .tup [.ref Z[i].1, .int (workN E' Z[i].2)]) hq
      have q7 : upd H6 q (.tup [.ref Z[i].1, .int (workN E' Z[i].2)]) q = some (.tup [.ref Z[i].1, .int (workN E' Z[i].2)]) := upd_same
      generalize upd H6 q (.tup [.ref Z[i].1, .int (workN E' Z[i].2)]) = H7 at s7 q7
      have s57 := s6.trans s7
      have d7 := s57 _ _ d5
      have tn : ∀ b ys, H7 b = some (.tup ys) → b ≠ D := fun b ys z q => by rw [q, d7] at z; cases z
      have la : acc.length ≤ i := by
        have := congrArg List.length c5
        unfold wcont at this
        rw [List.length_map, List.length_map, List.length_take] at this
        omega
      refine ⟨wrefs acc, d7, small1000 (by unfold wrefs; rw [List.length_map]; omega), acc ++ [(q, Z[i].1, Z[i].2, workN E' Z[i].2)], fun b u z => ?_, ?_, fun z hz2 => ?_, ?_⟩
      · rw [upd_ne (ne_of_none z hD)]
        exact s57 _ _ (s5 _ _ z)
      · rw [upd_same]
        unfold wrefs
        rw [List.map_append] <;> rfl
      · rcases List.mem_append.mp hz2 with h | h
        · obtain ⟨b1, b2⟩ := (a5.ext s57) z h
          exact ⟨(upd_ne (tn _ _ b1)).trans b1, (upd_ne (tn _ _ b2)).trans b2⟩
        · obtain rfl := List.mem_singleton.mp h
          have hz7 := s57 _ _ hz
          exact ⟨(upd_ne (tn _ _ q7)).trans q7, (upd_ne (tn _ _ hz7)).trans hz7⟩
      · unfold wcont at c5 ⊢
        rw [List.map_append, c5, List.take_add_one, List.getElem?_eq_getElem hiZ, Option.toList_some, List.map_append] <;> rfl
    · obtain ⟨acc, s5, d5, a5, c5⟩ := inv
      rw [zl, List.take_length] at c5
      refine kk _ D acc (s14.trans s5) (none_back s14 hD) d5 a5 ?_
      rw [c5, ← c4, List.map_map] <;> rfl
end
end OP
/-! != of two dicts whose keys are tuples and whose values are all True -/
namespace OP
open PySem PySem.Spec PyProof.Rows L2
section
variable {prog : Program} {w : PySem.World} {A : Around} {E : Value → Shared → Prop} {s : Shared}
theorem same_true {nm : String} {a b : Addr} {xs ys : List (List Key × Addr × Value)} {Q : Bool → Shared → Prop} (hu : A.units < cLine) (ya : (a == sysModules) = false) (yb : (b == sysModules) = false) (da : s.heap.DictOfH (tupleKind (mixKind prog w)) a xs) (db : s.heap.DictOfH (tupleKind (mixKind prog w)) b ys)
    (lxy : xs.length = ys.length) (tx : ∀ x ∈ xs, x.2.2 = .bool true) (ty : ∀ y ∈ ys, y.2.2 = .bool true) (same : ∀ x ∈ xs, ∃ y ∈ ys, y.1 = x.1) (h : Q true s) : wpAny (model prog w) A (Builtin.Dict.samePairs nm a b) Q E s := by
  obtain ⟨oa, es, ep, ga, _, fa, la, isa, _⟩ := da
  obtain ⟨ob, fs, fp, gb, _, fb, lb, isb, ndb⟩ := db
  have le : es.size = xs.length := by rw [← Array.length_toList, la, List.length_map]
  have lf : fs.size = ys.length := by rw [← Array.length_toList, lb, List.length_map]
  have no_a : ¬ (a == sysModules) = true := by rw [ya]; decide
  have no_b : ¬ (b == sysModules) = true := by rw [yb]; decide
  unfold Builtin.Dict.samePairs Builtin.Dict.showsAll
  rw [if_neg no_a, if_neg no_b]
  refine wpAny_bind (wpAny_pure (wpAny_bind (wpAny_pure (wpAny_bind (wpAny_dictEntries ga fa ?_)))))
  dsimp only
  refine wpAny_bind (wpAny_dictEntries gb fb ?_)
  rw [if_neg (by rw [le, lf, lxy]; simp)]
  refine wpAny_bind (wpAny_dictEpoch ga fa (wpAny_bind ?_))
  rw [Std.Legacy.Range.forIn_eq_forIn_range']
  simp only [Std.Legacy.Range.size, Nat.sub_zero, Nat.add_sub_cancel, Nat.div_one]
  refine wpAny_forIn_list _ (fun rest q s1 => q = (none, ()) ∧ s1 = s ∧ ∃ i, rest = List.range' i (es.size - i) ∧ i ≤ es.size) _ ?_ ?_ _ _ ⟨rfl, rfl, 0, by simp, Nat.zero_le _⟩
  · rintro x rest q s1 ⟨rfl, rfl, i, er, le'⟩
    have lt : i < es.size := by
      refine Nat.lt_of_not_le fun z => ?_
      rw [Nat.sub_eq_zero_of_le z] at er; simp at er
    have er2 : x = i ∧ rest = List.range' (i + 1) (es.size - (i + 1)) := by
      rw [show es.size - i = (es.size - (i + 1)) + 1 by omega, List.range'_succ] at er
      injection er with z1 z2; exact ⟨z1, z2⟩
    obtain ⟨rfl, er3⟩ := er2
    have hx : x < xs.length := by omega
    have mem : xs[x] ∈ xs := List.getElem_mem hx
    have ee : es[x] = entryOfKey (tupleKind (mixKind prog w)) xs[x] := by
      have z := entry_at la x
      rw [Array.getElem?_eq_getElem lt, List.getElem?_eq_getElem hx] at z
      exact Option.some.inj z
    refine wpAny_bind (wpAny_dictEntries ga fa ?_)
    rw [Array.getElem?_eq_getElem lt]
    obtain ⟨y, hy, ey⟩ := same _ mem
    show wpAny _ _ (holding [es[x].key, es[x].val] _ >>= _) _ _ _
    rw [ee]
    refine wpAny_bind (wpAny_holding (wpAny_bind (wpAny_dictFind_heap (knd := tupleKind (mixKind prog w)) (k := xs[x].1) hu (isa _ mem) gb fb lb isb ndb (fun no => ?_) fun j p hj => ?_)))
    · obtain ⟨j, hj⟩ := List.getElem?_of_mem hy
      exact absurd (by rw [hj, ← ey] : ys[j]? = some (xs[x].1, y.2)) (no j y.2)
    · refine wpAny_bind (wpAny_dictEntries gb fb ?_)
      rw [entry_at lb j, hj]
      show wpAny _ _ (holding [p.2] (eqBool xs[x].2.2 p.2)) _ _ _
      rw [tx _ mem, show p.2 = .bool true from ty _ (List.mem_of_getElem? hj)]
      refine wpAny_holding ?_
      unfold eqBool
      refine wpAny_holding ?_
      rw [if_pos (by rfl)]
      refine wpAny_bind (wpAny_rule (wpAny_pure ?_))
      rw [if_neg (by decide)]
      refine wpAny_bind (wpAny_dictEpoch ga fa ?_)
      rw [if_neg (by simp)]
      exact wpAny_pure ⟨rfl, rfl, x + 1, er3, lt⟩
  · rintro q s1 ⟨rfl, rfl, i, er, le'⟩
    exact wpAny_pure h
end
theorem pol_raw {H : Hp} {E : Ents} {xs : List (List Key × Addr × Value)} (pr : KT H (pol E) xs) : xs.length = E.length ∧ (∀ x ∈ xs, x.2.2 = .bool true ∧ ∃ e ∈ E, x.1 = [Sum.inr e.1, Sum.inr e.2]) ∧ ∀ e ∈ E, ∃ x ∈ xs, x.1 = [Sum.inr e.1, Sum.inr e.2] := by
  have l0 : (pol E).length = E.length := List.length_map ..
  have l1 : (pol E).length = xs.length := Paired.length pr
  have get : ∀ i (hi : i < E.length), ∃ b, xs[i]? = some b ∧ b.1 = [Sum.inr E[i].1, Sum.inr E[i].2] ∧ b.2.2 = .bool true := fun i hi => by
    have e : (pol E)[i]? = some ([Sum.inr E[i].1, Sum.inr E[i].2], V.bl true) := by
      unfold pol
      rw [List.getElem?_map, List.getElem?_eq_getElem hi] <;> rfl
    obtain ⟨b, hb, e1, e2, e3⟩ := L2.paired_get pr e
    exact ⟨b, hb, e1.symm, e3⟩
  refine ⟨by omega, fun x hx => ?_, fun e he => ?_⟩
  · obtain ⟨i, hi⟩ := List.getElem?_of_mem hx
    have lt := (List.getElem?_eq_some_iff.mp hi).1
    have ltE : i < E.length := by omega
    obtain ⟨b, hb, e1, e2⟩ := get i ltE
    rw [hi] at hb
    obtain rfl := Option.some.inj hb
    exact ⟨e2, E[i], List.getElem_mem ltE, e1⟩
  · obtain ⟨i, hi, rfl⟩ := List.mem_iff_getElem.mp he
    obtain ⟨b, hb, e1, _⟩ := get i hi
    exact ⟨b, List.mem_of_getElem? hb, e1⟩
/-- policies with the same entries are not unequal -/
def rNeP : R2 := fun x y H Q => ∃ (a b : Addr) (E E' : Ents), x = .ref a ∧ y = .ref b ∧ H a = some (.dT (pol E)) ∧ H b = some (.dT (pol E')) ∧ E.length = E'.length ∧ (∀ e ∈ E, e ∈ E') ∧ Q (.bl false) H
theorem op_neP {X : Cx} (hu : X.A.units + 64 < cLine) : OpR X (compareOp .NotEq) rNeP := by
  intro pins s σ H x y v u Q I rx ry h
  obtain ⟨a, b, E, E', rfl, rfl, ha, hb, ln, sub, q⟩ := h
  cases rx
  cases ry
  obtain ⟨_, za, xs, pa, da⟩ := dt_of I.hok ha
  obtain ⟨_, zb, ys, pb, db⟩ := dt_of I.hok hb
  obtain ⟨l1, t1, _⟩ := pol_raw pa
  obtain ⟨l2, t2, k2⟩ := pol_raw pb
  have tya := da.typeIs
  have tyb := db.typeIs
  refine wpAny_richCompare_same_room (op := .NotEq) tya tyb PySem.F.slot_dict_ne (wpAny_call_entry PySem.F.slot_dict_ne tya PySem.F.entry_dict_ne ?_ (PySem.F.args_dict_ne_2 _ _)) (by omega)
  show wpAny _ _ (Builtin.Dict.dictSlotArgs "__ne__" ⟨[.ref a, .ref b], []⟩ >>= _) _ _ s
  refine wpAny_bind ?_
  unfold Builtin.Dict.dictSlotArgs
  refine wpAny_bind (wpAny_notOrdered_dict tya ?_)
  show wpAny _ _ (pure (Value.ref a, Value.ref b)) _ _ s
  refine wpAny_pure ?_
  refine wpAny_bind (wpAny_isInstance (T := "dict") tyb PySem.F.sub_dict_dict ?_)
  simp only [Bool.not_true, Bool.false_eq_true, if_false]
  refine wpAny_bind (wpAny_pure (wpAny_bind (wpAny_pure ?_)))
  refine wpAny_bind (same_true (by rw [Around.in1_units]; omega) za zb da db (by omega) (fun x hx => (t1 x hx).1) (fun y hy => (t2 y hy).1) (fun x hx => ?_) ?_)
  · obtain ⟨_, e, he, ex⟩ := t1 x hx
    obtain ⟨y, hy, ey⟩ := k2 e (sub e he)
    exact ⟨y, hy, ey.trans ex.symm⟩
  · refine wpAny_pure ⟨_, rfl, ?_, ?_⟩
    · exact fun x => nomatch x
    · exact ⟨.bl false, H, I, rfl, q⟩
end OP
/-! == and != by an own __eq__ whose answer may be True or False -/
namespace OP
open PySem PySem.Calls PySem.Spec PyProof.Rows L2
section
variable {X : Cx} {f C C' a b : Addr} {ps : List Str} {n : Nat} {sp : Sp} {pins : List (Addr × Obj)} {s : Shared} {σ : L2.St} {H : Hp} {Q : VK}
theorem run_two (O : Ok X.prog X.w X.K X.mg X.base f ps n sp) {A : Around} (rm : Room n A) (fr : A.frames = X.A.frames) (I : Inv X pins σ H s) (q : sp [.ref a, .ref b] H Q E0) :
    wpAny (model X.prog X.w) A (call (.ref f) [.ref a, .ref b]) (fun v s' => ∃ z H', Inv X pins σ H' s' ∧ RelV z v ∧ Q z H') X.xe s := by
  obtain ⟨⟨fd, G, bd⟩, kp⟩ := O
  have en : Env0 X.prog X.w X.K X.mg X.base A X.stack s H := by
    have z := I.env0
    exact ⟨by rw [fr]; exact z.frames, z.mod, z.bs, z.bsz, z.funs, z.frf, z.hok, z.bare⟩
  have two := G.len _ _ _ _ q
  have rel : Vals [V.ref a, V.ref b] [Value.ref a, Value.ref b] := .cons rfl (.cons rfl .nil)
  refine wpAny_call (codeAny_mono (G.run A X.stack s H ⟨[.ref a, .ref b], []⟩ [.ref a, .ref b] [.ref a, .ref b] Q E0 rm en (by
    have z := bd s [.ref a, .ref b] I.kIn (by simpa using two)
    simpa using z) rel q) fun r s' hq => ?_)
  cases r with
  | error e => exact pass0 pins σ H s e s' I hq
  | ok fl =>
    cases fl with
    | ret u =>
      obtain ⟨z, H', I', rz, qz⟩ := I.after hq
      exact ⟨z, H', I', rz, qz⟩
    | next => exact False.elim hq
    | brk => exact False.elim hq
    | cont => exact False.elim hq
/-- two instances; the left one's own def answers with a bool -/
def rOwnEq (K : PySem.W.Frag) (C : Addr) (sp : Sp) (neg : Bool) : R2 := fun x y H Q => ∃ a b dx fs C' dy gs, x = .ref a ∧ y = .ref b ∧ H a = some (.ins C dx fs) ∧ H b = some (.ins C' dy gs) ∧ PySem.W.notFirst K C (.ref C') = true ∧
  sp [.ref a, .ref b] H (fun v H' => ∃ z : Bool, v = .bl z ∧ Q (.bl (neg ^^ z)) H') E0
theorem op_ownEq (O : Ok X.prog X.w X.K X.mg X.base f ps n sp) (m : Meth X.K C "__eq__" f) (hr : Room n X.A) : OpR X (compareOp .Eq) (rOwnEq X.K C sp false) := by
  intro pins s σ H x y v u Q I rx ry h
  obtain ⟨a, b, dx, fs, C', dy, gs, rfl, rfl, ha, hb, nf, q⟩ := h
  cases rx
  cases ry
  obtain ⟨_, J, _⟩ := ins_get I.hok ha
  obtain ⟨_, J', _⟩ := ins_get I.hok hb
  obtain ⟨od, J, _⟩ := J.look
  obtain ⟨od', J', _⟩ := J'.look
  obtain ⟨mm, hF⟩ := I.fr
  show wpAny (model X.prog X.w) X.A (richCompare .Eq (.ref a) (.ref b)) (EP X pins σ Q) X.xe s
  refine PySem.W.cmp_K (op := .Eq) (tb := .ref C') hr.units0 hF I.ok.mod.kin J J'.type nf m.at_ m.fn ?_
  refine wpAny_mono (run_two O hr rfl I q) (fun r s' z => ?_) fun _ _ e => e
  obtain ⟨z, H', I', rz, t, rfl, qt⟩ := z
  cases rz
  rw [Bool.false_xor] at qt
  exact ⟨.bl t, H', I', rfl, qt⟩
theorem ne_bind (self : Value) : bindSpecial (.builtin "object.__ne__") self = pure (.builtin "object.__ne__", [self]) :=
  (Slot.of (T := "object") (name := "__ne__") (owner := "object") (n := "__ne__") (by rw [typeLookup_type, builtinLookup_eq_fast]; kernel_rfl) (by decide +kernel) (by decide +kernel) (by decide +kernel) (.inl (by decide +kernel)) (by rw [isSubtype_type]; kernel_rfl)).bind self
theorem op_ownNe (O : Ok X.prog X.w X.K X.mg X.base f ps n sp) (m : Meth X.K C "__eq__" f) (own : Own X.K C) (hne : PySem.W.findIn X.K (.ref C) "__ne__" = some (some (.builtin "object.__ne__"))) (hr : Room (n + 1) X.A) : OpR X (compareOp .NotEq) (rOwnEq X.K C sp true) := by
  intro pins s σ H x y v u Q I rx ry h
  obtain ⟨a, b, dx, fs, C', dy, gs, rfl, rfl, ha, hb, nf, q⟩ := h
  cases rx
  cases ry
  obtain ⟨_, J, _⟩ := ins_get I.hok ha
  obtain ⟨_, J', _⟩ := ins_get I.hok hb
  obtain ⟨od, J, _⟩ := J.look
  obtain ⟨od', J', _⟩ := J'.look
  obtain ⟨mm, hF⟩ := I.fr
  have KI := I.ok.mod.kin.keeps hF.keep
  have hr1 : Room n X.A.in1 := hr.in1
  have inner : wpAny (model X.prog X.w) X.A (tryCompare (.ref a) "__ne__" (.ref b)) (fun r s' => ∃ w, r = some w ∧ EP X pins σ Q w s') X.xe s := by
    unfold tryCompare
    refine wpAny_bind ?_
    simp only [callSpecialIfBound?, bindSpecialIfBound?]
    refine wpAny_holding (wpAny_bind (wpAny_bind (wpAny_bind (J.type.here ((PySem.W.looks_findIn KI hne).here ?_)))))
    refine wpAny_bind (wpAny_askSetting (wpAny_ite ?_))
    have go : wpAny (model X.prog X.w) X.A (call (.builtin "object.__ne__") ([.ref a] ++ [.ref b])) (fun w s' => (∃ t : Bool, w = .bool t) ∧ EP X pins σ Q w s') X.xe s := by
      refine wpAny_call (codeAny_call_builtin (by decide +kernel) F.cmpEntry_ne (PySem.W.check_slot F.cmpKind_ne F.cmpSplit_ne ((J.type).andThen (PySem.W.looks_mroIn KI own.hm)) (F.cmpArgs_ne _ _) ?_))
      have hu : X.A.in1.units < cLine := hr1.units0
      have back : ∀ (w : Value) (s' : Shared), (∃ z H', Inv X pins σ H' s' ∧ RelV z w ∧ ∃ t : Bool, z = .bl t ∧ Q (.bl (true ^^ t)) H') → ∃ t : Bool, w = .bool t ∧ EP X pins σ Q (.bool (!t)) s' := fun w s' z => by
        obtain ⟨z, H', I', rz, t, rfl, qt⟩ := z
        cases rz
        rw [Bool.true_xor] at qt
        exact ⟨t, rfl, .bl (!t), H', I', rfl, qt⟩
      have one : wpAny (model X.prog X.w) X.A.in1 (callSpecialIfBound? (.ref a) (Str.ofString "__eq__") [.ref b]) (fun r s' => ∃ t : Bool, r = some (.bool t) ∧ EP X pins σ Q (.bool (!t)) s') X.xe s :=
        PySem.W.ifBound_K KI J m.at_ m.fn (wpAny_mono (run_two O hr1 rfl I q) (fun w s' z => by
          obtain ⟨t, rfl, e⟩ := back w s' z
          exact ⟨t, rfl, e⟩) fun _ _ e => e)
      unfold Builtin.«object.__ne__»
      have sa : slotArgs "__ne__" 1 ⟨[.ref a] ++ [.ref b], []⟩ = pure (Value.ref a, [Value.ref b]) := rfl
      rw [sa]
      refine wpAny_bind (wpAny_pure (wpAny_bind (wpAny_cRoomFor hu ?_)))
      refine wpAny_bind (wpAny_mono one (fun r s' z => ?_) fun _ _ e => e)
      obtain ⟨t, rfl, e⟩ := z
      exact wpAny_bind (wpAny_truthy_bool (wpAny_pure ⟨⟨_, rfl⟩, e⟩))
    have fin : wpAny (model X.prog X.w) X.A (call (.builtin "object.__ne__") ([.ref a] ++ [.ref b]) >>= fun w => pure (some w)) (fun r s' => ∃ t : Bool, r = some (.bool t) ∧ EP X pins σ Q (.bool t) s') X.xe s := wpAny_bind (wpAny_mono go (fun w s' z => by
      obtain ⟨⟨t, rfl⟩, e⟩ := z
      exact wpAny_pure ⟨t, rfl, e⟩) fun _ _ e => e)
    have out : wpAny (model X.prog X.w) X.A (call (.builtin "object.__ne__") ([.ref a] ++ [.ref b]) >>= fun w => pure (some w)) (fun r s' => wpAny (model X.prog X.w) X.A (match r with
        | some Value.notImplemented => pure none
        | none => pure none
        | some w => pure (some w)) (fun r s' => ∃ w, r = some w ∧ EP X pins σ Q w s') X.xe s') X.xe s := wpAny_mono fin (fun r s' z => by
      obtain ⟨t, rfl, e⟩ := z
      exact wpAny_pure ⟨_, rfl, e⟩) fun _ _ e => e
    split
    · exact wpAny_bind (by rw [ne_bind]; exact wpAny_pure (wpAny_pure out))
    · exact wpAny_tryCatch (wpAny_bind (by rw [ne_bind]; exact wpAny_pure (wpAny_pure out)))
  show wpAny (model X.prog X.w) X.A (richCompare .NotEq (.ref a) (.ref b)) (EP X pins σ Q) X.xe s
  unfold richCompare
  simp only [oneThing_ref]
  refine wpAny_holding (wpAny_bind (wpAny_cRoomFor (Nat.lt_of_succ_lt (show X.A.units + 1 < cLine from hr1.units0)) ?_))
  refine wpAny_bind (J.type.here (wpAny_bind (J'.type.here ?_)))
  have last : wpAny (model X.prog X.w) X.A (tryCompare (.ref a) (cmpInfo .NotEq).2.1 (.ref b)) (fun r s' => ∃ w, r = some w ∧ EP X pins σ Q w s') X.xe s := inner
  split
  · rename_i ne
    have e : PySem.W.subIn X.K (.ref C') (.ref C) = some false := by
      rcases Bool.or_eq_true_iff.mp nf with e | e
      · rw [beq_iff_eq.mp e] at ne
        simp at ne
      · exact beq_iff_eq.mp e
    refine wpAny_bind ((PySem.W.looks_subIn KI e).here ?_)
    simp only [Bool.false_eq_true, if_false]
    refine wpAny_bind (wpAny_mono last (fun r s' z => ?_) fun _ _ e => e)
    obtain ⟨w, rfl, e⟩ := z
    exact wpAny_pure e
  · refine wpAny_bind (wpAny_pure ?_)
    simp only [Bool.false_eq_true, if_false]
    refine wpAny_bind (wpAny_mono last (fun r s' z => ?_) fun _ _ e => e)
    obtain ⟨w, rfl, e⟩ := z
    exact wpAny_pure e
end
end OP
namespace OP
open PySem PySem.Spec PyProof.Rows L2
section
variable {P : Program} {w : World} {K : PySem.W.Frag} {mg : Str → Option Value} {base : Heap}
theorem kit_same {K : PySem.W.Frag} {C : Addr} : PySem.W.kitOne K (.ref C) (.ref C) = some true := by
  unfold PySem.W.kitOne
  rw [if_pos (by simp)]
theorem Txt.kkC (T : Txt K mg) : ∀ q q' : CK, q ≠ q' → PySem.W.kitOne K (.ref (q.cls K)) (.ref (q'.cls K)) = some false
  | .of .put, .of .put, h => absurd rfl h
  | .of .put, .of .move, _ => T.kk_Put_Move
  | .of .put, .of .add, _ => T.kk_Put_Add
  | .of .put, .of .addslot, _ => T.kk_Put_AddSlot
  | .of .put, .of .rais, _ => T.kk_Put_Raise
  | .of .put, .of .lower, _ => T.kk_Put_Lower
  | .of .put, .iff, _ => T.kk_Put_If
  | .of .move, .of .put, _ => T.kk_Move_Put
  | .of .move, .of .move, h => absurd rfl h
  | .of .move, .of .add, _ => T.kk_Move_Add
  | .of .move, .of .addslot, _ => T.kk_Move_AddSlot
  | .of .move, .of .rais, _ => T.kk_Move_Raise
  | .of .move, .of .lower, _ => T.kk_Move_Lower
  | .of .move, .iff, _ => T.kk_Move_If
  | .of .add, .of .put, _ => T.kk_Add_Put
  | .of .add, .of .move, _ => T.kk_Add_Move
  | .of .add, .of .add, h => absurd rfl h
  | .of .add, .of .addslot, _ => T.kk_Add_AddSlot
  | .of .add, .of .rais, _ => T.kk_Add_Raise
  | .of .add, .of .lower, _ => T.kk_Add_Lower
  | .of .add, .iff, _ => T.kk_Add_If
  | .of .addslot, .of .put, _ => T.kk_AddSlot_Put
  | .of .addslot, .of .move, _ => T.kk_AddSlot_Move
  | .of .addslot, .of .add, _ => T.kk_AddSlot_Add
  | .of .addslot, .of .addslot, h => absurd rfl h
  | .of .addslot, .of .rais, _ => T.kk_AddSlot_Raise
  | .of .addslot, .of .lower, _ => T.kk_AddSlot_Lower
  | .of .addslot, .iff, _ => T.kk_AddSlot_If
  | .of .rais, .of .put, _ => T.kk_Raise_Put
  | .of .rais, .of .move, _ => T.kk_Raise_Move
  | .of .rais, .of .add, _ => T.kk_Raise_Add
  | .of .rais, .of .addslot, _ => T.kk_Raise_AddSlot
  | .of .rais, .of .rais, h => absurd rfl h
  | .of .rais, .of .lower, _ => T.kk_Raise_Lower
  | .of .rais, .iff, _ => T.kk_Raise_If
  | .of .lower, .of .put, _ => T.kk_Lower_Put
  | .of .lower, .of .move, _ => T.kk_Lower_Move
  | .of .lower, .of .add, _ => T.kk_Lower_Add
  | .of .lower, .of .addslot, _ => T.kk_Lower_AddSlot
  | .of .lower, .of .rais, _ => T.kk_Lower_Raise
  | .of .lower, .of .lower, h => absurd rfl h
  | .of .lower, .iff, _ => T.kk_Lower_If
  | .iff, .of .put, _ => T.kk_If_Put
  | .iff, .of .move, _ => T.kk_If_Move
  | .iff, .of .add, _ => T.kk_If_Add
  | .iff, .of .addslot, _ => T.kk_If_AddSlot
  | .iff, .of .rais, _ => T.kk_If_Raise
  | .iff, .of .lower, _ => T.kk_If_Lower
  | .iff, .iff, h => absurd rfl h
theorem Txt.sbC (T : Txt K mg) : ∀ q q' : CK, q ≠ q' → PySem.W.subIn K (.ref (q.cls K)) (.ref (q'.cls K)) = some false
  | .of .put, .of .put, h => absurd rfl h
  | .of .put, .of .move, _ => T.sb_Put_Move
  | .of .put, .of .add, _ => T.sb_Put_Add
  | .of .put, .of .addslot, _ => T.sb_Put_AddSlot
  | .of .put, .of .rais, _ => T.sb_Put_Raise
  | .of .put, .of .lower, _ => T.sb_Put_Lower
  | .of .put, .iff, _ => T.sb_Put_If
  | .of .move, .of .put, _ => T.sb_Move_Put
  | .of .move, .of .move, h => absurd rfl h
  | .of .move, .of .add, _ => T.sb_Move_Add
  | .of .move, .of .addslot, _ => T.sb_Move_AddSlot
  | .of .move, .of .rais, _ => T.sb_Move_Raise
  | .of .move, .of .lower, _ => T.sb_Move_Lower
  | .of .move, .iff, _ => T.sb_Move_If
  | .of .add, .of .put, _ => T.sb_Add_Put
  | .of .add, .of .move, _ => T.sb_Add_Move
  | .of .add, .of .add, h => absurd rfl h
  | .of .add, .of .addslot, _ => T.sb_Add_AddSlot
  | .of .add, .of .rais, _ => T.sb_Add_Raise
  | .of .add, .of .lower, _ => T.sb_Add_Lower
  | .of .add, .iff, _ => T.sb_Add_If
  | .of .addslot, .of .put, _ => T.sb_AddSlot_Put
  | .of .addslot, .of .move, _ => T.sb_AddSlot_Move
  | .of .addslot, .of .add, _ => T.sb_AddSlot_Add
  | .of .addslot, .of .addslot, h => absurd rfl h
  | .of .addslot, .of .rais, _ => T.sb_AddSlot_Raise
  | .of .addslot, .of .lower, _ => T.sb_AddSlot_Lower
  | .of .addslot, .iff, _ => T.sb_AddSlot_If
  | .of .rais, .of .put, _ => T.sb_Raise_Put
  | .of .rais, .of .move, _ => T.sb_Raise_Move
  | .of .rais, .of .add, _ => T.sb_Raise_Add
  | .of .rais, .of .addslot, _ => T.sb_Raise_AddSlot
  | .of .rais, .of .rais, h => absurd rfl h
  | .of .rais, .of .lower, _ => T.sb_Raise_Lower
  | .of .rais, .iff, _ => T.sb_Raise_If
  | .of .lower, .of .put, _ => T.sb_Lower_Put
  | .of .lower, .of .move, _ => T.sb_Lower_Move
  | .of .lower, .of .add, _ => T.sb_Lower_Add
  | .of .lower, .of .addslot, _ => T.sb_Lower_AddSlot
  | .of .lower, .of .rais, _ => T.sb_Lower_Raise
  | .of .lower, .of .lower, h => absurd rfl h
  | .of .lower, .iff, _ => T.sb_Lower_If
  | .iff, .of .put, _ => T.sb_If_Put
  | .iff, .of .move, _ => T.sb_If_Move
  | .iff, .of .add, _ => T.sb_If_Add
  | .iff, .of .addslot, _ => T.sb_If_AddSlot
  | .iff, .of .rais, _ => T.sb_If_Raise
  | .iff, .of .lower, _ => T.sb_If_Lower
  | .iff, .iff, h => absurd rfl h
theorem Txt.neC (T : Txt K mg) : ∀ q : CK, PySem.W.findIn K (.ref (q.cls K)) "__ne__" = some (some (.builtin "object.__ne__"))
  | .of .put => T.ne_Put
  | .of .move => T.ne_Move
  | .of .add => T.ne_Add
  | .of .addslot => T.ne_AddSlot
  | .of .rais => T.ne_Raise
  | .of .lower => T.ne_Lower
  | .iff => T.ne_If
theorem Txt.nfC (T : Txt K mg) (q q' : CK) : PySem.W.notFirst K (q.cls K) (.ref (q'.cls K)) = true := by
  unfold PySem.W.notFirst
  by_cases h : q' = q
  · rw [h]
    simp
  · rw [T.sbC q' q h]
    simp
/-- equal changes or not -/
def spEqC (K : PySem.W.Frag) (q : CK) : Sp := fun vs H Q _ => ∃ (a b : Addr) (c c' : Chg), vs = [.ref a, .ref b] ∧ c.ck = q ∧ ChgAt K H a c ∧ ChgAt K H b c' ∧ ∀ H', Same H H' → Q (.bl (decide (c = c'))) H'
theorem of_ck {c : Chg} {k : Kind} (h : c.ck = .of k) : ∃ s v, c = .one ⟨k, s, v⟩ := by
  cases c with
  | one o =>
    obtain ⟨kd, s, v⟩ := o
    obtain rfl : kd = k := CK.of.inj h
    exact ⟨s, v, rfl⟩
  | iff s v o => cases h
theorem iff_ck {c : Chg} (h : c.ck = .iff) : ∃ s v o, c = .iff s v o := by
  cases c with
  | one o => cases h
  | iff s v o => exact ⟨s, v, o, rfl⟩
theorem okG_Put_eq (T : Txt K mg) : Ok P w K mg base (a_Put_eq K) ["self", "other"] 1 (spEqC K (.of .put)) := by
  refine ok_of T.f_Put_eq sc_Put_eq (fun _ _ _ _ _ _ us hl => match us, hl with | [_, _], _ => rfl) (fun vs H Q E h => ?_) (fun cdv A outer s0 H vs Q E hr h => ?_)
  · obtain ⟨a, b, c, c', rfl, _⟩ := h
    rfl
  · obtain ⟨a, b, c, c', rfl, hk, hc, hc', kk⟩ := h
    obtain ⟨s, v, rfl⟩ := of_ck hk
    obtain ⟨dx, ha⟩ := hc
    have kk := kk H (Same.refl _)
    refine ⟨_, pss_one (ps_ret (pe_and (pe_callB call_isi (by rfl) T.z_isinstance (by decide +kernel) (pa_cons (pv 1) (pa_cons (pe_glob (v := .ref (c_Put K)) (by rfl) T.g_Put rfl) pa_nil)))
      (pe_and (pe_cmpR op_eq (pe_fld (pv 0) rfl) (pe_fld (pv 1) rfl) (nomark _)) (pe_one (pe_cmpR op_eq (pe_fld (pv 0) rfl) (pe_fld (pv 1) rfl) (nomark _)))))), ?_⟩
    by_cases e : c'.ck = .of .put
    · obtain ⟨s', v', rfl⟩ := of_ck e
      obtain ⟨dy, hb⟩ := hc'
      refine ⟨_, rfl, _, _, _, _, true, rfl, .own (c_Put K), T.o_Put.ty hb, kit_same, true, rfl, iteT ?_⟩
      refine ⟨_, rfl, a, c_Put K, dx, _, _, rfl, ha, T.o_Put.cl, T.n_Put_slot, look1, _, rfl, b, c_Put K, dy, _, _, rfl, hb, T.o_Put.cl, T.n_Put_slot, look1, rfl, _, rfl, ?_⟩
      by_cases es : s = s'
      · rw [decide_eq_true (by rw [es])]
        refine iteT ⟨_, rfl, a, c_Put K, dx, _, _, rfl, ha, T.o_Put.cl, T.n_Put_value, look2 slot_value.symm, _, rfl, b, c_Put K, dy, _, _, rfl, hb, T.o_Put.cl, T.n_Put_value, look2 slot_value.symm, rfl, ?_⟩
        have e2 : decide (V.int (v : Int) = V.int (v' : Int)) = decide (Chg.one ⟨.put, s, v⟩ = Chg.one ⟨.put, s', v'⟩) := decide_eq_decide.mpr ⟨fun z => (by have := V.int.inj z; rw [es, show v = v' by omega]), fun z => (by injection z with z; injection z with _ _ z; rw [z])⟩
        show Q (.bl (decide (V.int (v : Int) = V.int (v' : Int)))) H
        rw [e2]
        exact kk
      · have e3 : decide (V.int (s : Int) = V.int (s' : Int)) = false := decide_eq_false (fun z => es (by have := V.int.inj z; omega))
        dsimp only
        rw [e3]
        rw [decide_eq_false (fun z => es (by injection z with z; injection z))] at kk
        exact iteF kk
    · obtain ⟨dy, gs, hb, _⟩ := hc'.obj
      refine ⟨_, rfl, _, _, _, _, false, rfl, .own (c_Put K), (T.ownC c'.ck).ty hb, T.kkC c'.ck (.of .put) e, false, rfl, ?_⟩
      rw [decide_eq_false (fun z => e (by rw [← z]; rfl))] at kk
      exact iteF kk
theorem okG_Move_eq (T : Txt K mg) : Ok P w K mg base (a_Move_eq K) ["self", "other"] 1 (spEqC K (.of .move)) := by
  refine ok_of T.f_Move_eq sc_Move_eq (fun _ _ _ _ _ _ us hl => match us, hl with | [_, _], _ => rfl) (fun vs H Q E h => ?_) (fun cdv A outer s0 H vs Q E hr h => ?_)
  · obtain ⟨a, b, c, c', rfl, _⟩ := h
    rfl
  · obtain ⟨a, b, c, c', rfl, hk, hc, hc', kk⟩ := h
    obtain ⟨s, v, rfl⟩ := of_ck hk
    obtain ⟨dx, ha⟩ := hc
    have kk := kk H (Same.refl _)
    refine ⟨_, pss_one (ps_ret (pe_and (pe_callB call_isi (by rfl) T.z_isinstance (by decide +kernel) (pa_cons (pv 1) (pa_cons (pe_glob (v := .ref (c_Move K)) (by rfl) T.g_Move rfl) pa_nil)))
      (pe_and (pe_cmpR op_eq (pe_fld (pv 0) rfl) (pe_fld (pv 1) rfl) (nomark _)) (pe_one (pe_cmpR op_eq (pe_fld (pv 0) rfl) (pe_fld (pv 1) rfl) (nomark _)))))), ?_⟩
    by_cases e : c'.ck = .of .move
    · obtain ⟨s', v', rfl⟩ := of_ck e
      obtain ⟨dy, hb⟩ := hc'
      refine ⟨_, rfl, _, _, _, _, true, rfl, .own (c_Move K), T.o_Move.ty hb, kit_same, true, rfl, iteT ?_⟩
      refine ⟨_, rfl, a, c_Move K, dx, _, _, rfl, ha, T.o_Move.cl, T.n_Move_slot, look1, _, rfl, b, c_Move K, dy, _, _, rfl, hb, T.o_Move.cl, T.n_Move_slot, look1, rfl, _, rfl, ?_⟩
      by_cases es : s = s'
      · rw [decide_eq_true (by rw [es])]
        refine iteT ⟨_, rfl, a, c_Move K, dx, _, _, rfl, ha, T.o_Move.cl, T.n_Move_source, look2 slot_source.symm, _, rfl, b, c_Move K, dy, _, _, rfl, hb, T.o_Move.cl, T.n_Move_source, look2 slot_source.symm, rfl, ?_⟩
        have e2 : decide (V.int (v : Int) = V.int (v' : Int)) = decide (Chg.one ⟨.move, s, v⟩ = Chg.one ⟨.move, s', v'⟩) := decide_eq_decide.mpr ⟨fun z => (by have := V.int.inj z; rw [es, show v = v' by omega]), fun z => (by injection z with z; injection z with _ _ z; rw [z])⟩
        show Q (.bl (decide (V.int (v : Int) = V.int (v' : Int)))) H
        rw [e2]
        exact kk
      · have e3 : decide (V.int (s : Int) = V.int (s' : Int)) = false := decide_eq_false (fun z => es (by have := V.int.inj z; omega))
        dsimp only
        rw [e3]
        rw [decide_eq_false (fun z => es (by injection z with z; injection z))] at kk
        exact iteF kk
    · obtain ⟨dy, gs, hb, _⟩ := hc'.obj
      refine ⟨_, rfl, _, _, _, _, false, rfl, .own (c_Move K), (T.ownC c'.ck).ty hb, T.kkC c'.ck (.of .move) e, false, rfl, ?_⟩
      rw [decide_eq_false (fun z => e (by rw [← z]; rfl))] at kk
      exact iteF kk
theorem okG_Add_eq (T : Txt K mg) : Ok P w K mg base (a_Add_eq K) ["self", "other"] 1 (spEqC K (.of .add)) := by
  refine ok_of T.f_Add_eq sc_Add_eq (fun _ _ _ _ _ _ us hl => match us, hl with | [_, _], _ => rfl) (fun vs H Q E h => ?_) (fun cdv A outer s0 H vs Q E hr h => ?_)
  · obtain ⟨a, b, c, c', rfl, _⟩ := h
    rfl
  · obtain ⟨a, b, c, c', rfl, hk, hc, hc', kk⟩ := h
    obtain ⟨s, v, rfl⟩ := of_ck hk
    obtain ⟨dx, ha⟩ := hc
    have kk := kk H (Same.refl _)
    refine ⟨_, pss_one (ps_ret (pe_and (pe_callB call_isi (by rfl) T.z_isinstance (by decide +kernel) (pa_cons (pv 1) (pa_cons (pe_glob (v := .ref (c_Add K)) (by rfl) T.g_Add rfl) pa_nil)))
      (pe_and (pe_cmpR op_eq (pe_fld (pv 0) rfl) (pe_fld (pv 1) rfl) (nomark _)) (pe_one (pe_cmpR op_eq (pe_fld (pv 0) rfl) (pe_fld (pv 1) rfl) (nomark _)))))), ?_⟩
    by_cases e : c'.ck = .of .add
    · obtain ⟨s', v', rfl⟩ := of_ck e
      obtain ⟨dy, hb⟩ := hc'
      refine ⟨_, rfl, _, _, _, _, true, rfl, .own (c_Add K), T.o_Add.ty hb, kit_same, true, rfl, iteT ?_⟩
      refine ⟨_, rfl, a, c_Add K, dx, _, _, rfl, ha, T.o_Add.cl, T.n_Add_slot, look1, _, rfl, b, c_Add K, dy, _, _, rfl, hb, T.o_Add.cl, T.n_Add_slot, look1, rfl, _, rfl, ?_⟩
      by_cases es : s = s'
      · rw [decide_eq_true (by rw [es])]
        refine iteT ⟨_, rfl, a, c_Add K, dx, _, _, rfl, ha, T.o_Add.cl, T.n_Add_value, look2 slot_value.symm, _, rfl, b, c_Add K, dy, _, _, rfl, hb, T.o_Add.cl, T.n_Add_value, look2 slot_value.symm, rfl, ?_⟩
        have e2 : decide (V.int (v : Int) = V.int (v' : Int)) = decide (Chg.one ⟨.add, s, v⟩ = Chg.one ⟨.add, s', v'⟩) := decide_eq_decide.mpr ⟨fun z => (by have := V.int.inj z; rw [es, show v = v' by omega]), fun z => (by injection z with z; injection z with _ _ z; rw [z])⟩
        show Q (.bl (decide (V.int (v : Int) = V.int (v' : Int)))) H
        rw [e2]
        exact kk
      · have e3 : decide (V.int (s : Int) = V.int (s' : Int)) = false := decide_eq_false (fun z => es (by have := V.int.inj z; omega))
        dsimp only
        rw [e3]
        rw [decide_eq_false (fun z => es (by injection z with z; injection z))] at kk
        exact iteF kk
    · obtain ⟨dy, gs, hb, _⟩ := hc'.obj
      refine ⟨_, rfl, _, _, _, _, false, rfl, .own (c_Add K), (T.ownC c'.ck).ty hb, T.kkC c'.ck (.of .add) e, false, rfl, ?_⟩
      rw [decide_eq_false (fun z => e (by rw [← z]; rfl))] at kk
      exact iteF kk
theorem okG_AddSlot_eq (T : Txt K mg) : Ok P w K mg base (a_AddSlot_eq K) ["self", "other"] 1 (spEqC K (.of .addslot)) := by
  refine ok_of T.f_AddSlot_eq sc_AddSlot_eq (fun _ _ _ _ _ _ us hl => match us, hl with | [_, _], _ => rfl) (fun vs H Q E h => ?_) (fun cdv A outer s0 H vs Q E hr h => ?_)
  · obtain ⟨a, b, c, c', rfl, _⟩ := h
    rfl
  · obtain ⟨a, b, c, c', rfl, hk, hc, hc', kk⟩ := h
    obtain ⟨s, v, rfl⟩ := of_ck hk
    obtain ⟨dx, ha⟩ := hc
    have kk := kk H (Same.refl _)
    refine ⟨_, pss_one (ps_ret (pe_and (pe_callB call_isi (by rfl) T.z_isinstance (by decide +kernel) (pa_cons (pv 1) (pa_cons (pe_glob (v := .ref (c_AddSlot K)) (by rfl) T.g_AddSlot rfl) pa_nil)))
      (pe_and (pe_cmpR op_eq (pe_fld (pv 0) rfl) (pe_fld (pv 1) rfl) (nomark _)) (pe_one (pe_cmpR op_eq (pe_fld (pv 0) rfl) (pe_fld (pv 1) rfl) (nomark _)))))), ?_⟩
    by_cases e : c'.ck = .of .addslot
    · obtain ⟨s', v', rfl⟩ := of_ck e
      obtain ⟨dy, hb⟩ := hc'
      refine ⟨_, rfl, _, _, _, _, true, rfl, .own (c_AddSlot K), T.o_AddSlot.ty hb, kit_same, true, rfl, iteT ?_⟩
      refine ⟨_, rfl, a, c_AddSlot K, dx, _, _, rfl, ha, T.o_AddSlot.cl, T.n_AddSlot_slot, look1, _, rfl, b, c_AddSlot K, dy, _, _, rfl, hb, T.o_AddSlot.cl, T.n_AddSlot_slot, look1, rfl, _, rfl, ?_⟩
      by_cases es : s = s'
      · rw [decide_eq_true (by rw [es])]
        refine iteT ⟨_, rfl, a, c_AddSlot K, dx, _, _, rfl, ha, T.o_AddSlot.cl, T.n_AddSlot_source, look2 slot_source.symm, _, rfl, b, c_AddSlot K, dy, _, _, rfl, hb, T.o_AddSlot.cl, T.n_AddSlot_source, look2 slot_source.symm, rfl, ?_⟩
        have e2 : decide (V.int (v : Int) = V.int (v' : Int)) = decide (Chg.one ⟨.addslot, s, v⟩ = Chg.one ⟨.addslot, s', v'⟩) := decide_eq_decide.mpr ⟨fun z => (by have := V.int.inj z; rw [es, show v = v' by omega]), fun z => (by injection z with z; injection z with _ _ z; rw [z])⟩
        show Q (.bl (decide (V.int (v : Int) = V.int (v' : Int)))) H
        rw [e2]
        exact kk
      · have e3 : decide (V.int (s : Int) = V.int (s' : Int)) = false := decide_eq_false (fun z => es (by have := V.int.inj z; omega))
        dsimp only
        rw [e3]
        rw [decide_eq_false (fun z => es (by injection z with z; injection z))] at kk
        exact iteF kk
    · obtain ⟨dy, gs, hb, _⟩ := hc'.obj
      refine ⟨_, rfl, _, _, _, _, false, rfl, .own (c_AddSlot K), (T.ownC c'.ck).ty hb, T.kkC c'.ck (.of .addslot) e, false, rfl, ?_⟩
      rw [decide_eq_false (fun z => e (by rw [← z]; rfl))] at kk
      exact iteF kk
theorem okG_Raise_eq (T : Txt K mg) : Ok P w K mg base (a_Raise_eq K) ["self", "other"] 1 (spEqC K (.of .rais)) := by
  refine ok_of T.f_Raise_eq sc_Raise_eq (fun _ _ _ _ _ _ us hl => match us, hl with | [_, _], _ => rfl) (fun vs H Q E h => ?_) (fun cdv A outer s0 H vs Q E hr h => ?_)
  · obtain ⟨a, b, c, c', rfl, _⟩ := h
    rfl
  · obtain ⟨a, b, c, c', rfl, hk, hc, hc', kk⟩ := h
    obtain ⟨s, v, rfl⟩ := of_ck hk
    obtain ⟨dx, ha⟩ := hc
    have kk := kk H (Same.refl _)
    refine ⟨_, pss_one (ps_ret (pe_and (pe_callB call_isi (by rfl) T.z_isinstance (by decide +kernel) (pa_cons (pv 1) (pa_cons (pe_glob (v := .ref (c_Raise K)) (by rfl) T.g_Raise rfl) pa_nil)))
      (pe_and (pe_cmpR op_eq (pe_fld (pv 0) rfl) (pe_fld (pv 1) rfl) (nomark _)) (pe_one (pe_cmpR op_eq (pe_fld (pv 0) rfl) (pe_fld (pv 1) rfl) (nomark _)))))), ?_⟩
    by_cases e : c'.ck = .of .rais
    · obtain ⟨s', v', rfl⟩ := of_ck e
      obtain ⟨dy, hb⟩ := hc'
      refine ⟨_, rfl, _, _, _, _, true, rfl, .own (c_Raise K), T.o_Raise.ty hb, kit_same, true, rfl, iteT ?_⟩
      refine ⟨_, rfl, a, c_Raise K, dx, _, _, rfl, ha, T.o_Raise.cl, T.n_Raise_slot, look1, _, rfl, b, c_Raise K, dy, _, _, rfl, hb, T.o_Raise.cl, T.n_Raise_slot, look1, rfl, _, rfl, ?_⟩
      by_cases es : s = s'
      · rw [decide_eq_true (by rw [es])]
        refine iteT ⟨_, rfl, a, c_Raise K, dx, _, _, rfl, ha, T.o_Raise.cl, T.n_Raise_value, look2 slot_value.symm, _, rfl, b, c_Raise K, dy, _, _, rfl, hb, T.o_Raise.cl, T.n_Raise_value, look2 slot_value.symm, rfl, ?_⟩
        have e2 : decide (V.int (v : Int) = V.int (v' : Int)) = decide (Chg.one ⟨.rais, s, v⟩ = Chg.one ⟨.rais, s', v'⟩) := decide_eq_decide.mpr ⟨fun z => (by have := V.int.inj z; rw [es, show v = v' by omega]), fun z => (by injection z with z; injection z with _ _ z; rw [z])⟩
        show Q (.bl (decide (V.int (v : Int) = V.int (v' : Int)))) H
        rw [e2]
        exact kk
      · have e3 : decide (V.int (s : Int) = V.int (s' : Int)) = false := decide_eq_false (fun z => es (by have := V.int.inj z; omega))
        dsimp only
        rw [e3]
        rw [decide_eq_false (fun z => es (by injection z with z; injection z))] at kk
        exact iteF kk
    · obtain ⟨dy, gs, hb, _⟩ := hc'.obj
      refine ⟨_, rfl, _, _, _, _, false, rfl, .own (c_Raise K), (T.ownC c'.ck).ty hb, T.kkC c'.ck (.of .rais) e, false, rfl, ?_⟩
      rw [decide_eq_false (fun z => e (by rw [← z]; rfl))] at kk
      exact iteF kk
theorem okG_Lower_eq (T : Txt K mg) : Ok P w K mg base (a_Lower_eq K) ["self", "other"] 1 (spEqC K (.of .lower)) := by
  refine ok_of T.f_Lower_eq sc_Lower_eq (fun _ _ _ _ _ _ us hl => match us, hl with | [_, _], _ => rfl) (fun vs H Q E h => ?_) (fun cdv A outer s0 H vs Q E hr h => ?_)
  · obtain ⟨a, b, c, c', rfl, _⟩ := h
    rfl
  · obtain ⟨a, b, c, c', rfl, hk, hc, hc', kk⟩ := h
    obtain ⟨s, v, rfl⟩ := of_ck hk
    obtain ⟨dx, ha⟩ := hc
    have kk := kk H (Same.refl _)
    refine ⟨_, pss_one (ps_ret (pe_and (pe_callB call_isi (by rfl) T.z_isinstance (by decide +kernel) (pa_cons (pv 1) (pa_cons (pe_glob (v := .ref (c_Lower K)) (by rfl) T.g_Lower rfl) pa_nil)))
      (pe_and (pe_cmpR op_eq (pe_fld (pv 0) rfl) (pe_fld (pv 1) rfl) (nomark _)) (pe_one (pe_cmpR op_eq (pe_fld (pv 0) rfl) (pe_fld (pv 1) rfl) (nomark _)))))), ?_⟩
    by_cases e : c'.ck = .of .lower
    · obtain ⟨s', v', rfl⟩ := of_ck e
      obtain ⟨dy, hb⟩ := hc'
      refine ⟨_, rfl, _, _, _, _, true, rfl, .own (c_Lower K), T.o_Lower.ty hb, kit_same, true, rfl, iteT ?_⟩
      refine ⟨_, rfl, a, c_Lower K, dx, _, _, rfl, ha, T.o_Lower.cl, T.n_Lower_slot, look1, _, rfl, b, c_Lower K, dy, _, _, rfl, hb, T.o_Lower.cl, T.n_Lower_slot, look1, rfl, _, rfl, ?_⟩
      by_cases es : s = s'
      · rw [decide_eq_true (by rw [es])]
        refine iteT ⟨_, rfl, a, c_Lower K, dx, _, _, rfl, ha, T.o_Lower.cl, T.n_Lower_value, look2 slot_value.symm, _, rfl, b, c_Lower K, dy, _, _, rfl, hb, T.o_Lower.cl, T.n_Lower_value, look2 slot_value.symm, rfl, ?_⟩
        have e2 : decide (V.int (v : Int) = V.int (v' : Int)) = decide (Chg.one ⟨.lower, s, v⟩ = Chg.one ⟨.lower, s', v'⟩) := decide_eq_decide.mpr ⟨fun z => (by have := V.int.inj z; rw [es, show v = v' by omega]), fun z => (by injection z with z; injection z with _ _ z; rw [z])⟩
        show Q (.bl (decide (V.int (v : Int) = V.int (v' : Int)))) H
        rw [e2]
        exact kk
      · have e3 : decide (V.int (s : Int) = V.int (s' : Int)) = false := decide_eq_false (fun z => es (by have := V.int.inj z; omega))
        dsimp only
        rw [e3]
        rw [decide_eq_false (fun z => es (by injection z with z; injection z))] at kk
        exact iteF kk
    · obtain ⟨dy, gs, hb, _⟩ := hc'.obj
      refine ⟨_, rfl, _, _, _, _, false, rfl, .own (c_Lower K), (T.ownC c'.ck).ty hb, T.kkC c'.ck (.of .lower) e, false, rfl, ?_⟩
      rw [decide_eq_false (fun z => e (by rw [← z]; rfl))] at kk
      exact iteF kk
theorem okG_one (T : Txt K mg) (k : Kind) : Ok P w K mg base (OP.eqA K k) ["self", "other"] 1 (spEqC K (.of k)) := by
  cases k with
  | put => exact okG_Put_eq T
  | move => exact okG_Move_eq T
  | add => exact okG_Add_eq T
  | addslot => exact okG_AddSlot_eq T
  | rais => exact okG_Raise_eq T
  | lower => exact okG_Lower_eq T
theorem okG_If_eq (T : Txt K mg) : Ok P w K mg base (a_If_eq K) ["self", "other"] 2 (spEqC K .iff) := by
  have GE : ∀ k, Ok P w K mg base (OP.eqA K k) ["self", "other"] 1 (spEqC K (.of k)) := okG_one T
  refine ok_of T.f_If_eq sc_If_eq (fun _ _ _ _ _ _ us hl => match us, hl with | [_, _], _ => rfl) (fun vs H Q E h => ?_) (fun cdv A outer s0 H vs Q E hr h => ?_)
  · obtain ⟨a, b, c, c', rfl, _⟩ := h
    rfl
  · obtain ⟨a, b, c, c', rfl, hk, hc, hc', kk⟩ := h
    obtain ⟨s, v, o, rfl⟩ := iff_ck hk
    obtain ⟨dx, ia, ha, hia⟩ := hc
    refine ⟨_, pss_one (ps_ret (pe_and (pe_callB call_isi (by rfl) T.z_isinstance (by decide +kernel) (pa_cons (pv 1) (pa_cons (pe_glob (v := .ref (c_If K)) (by rfl) T.g_If rfl) pa_nil)))
      (pe_and (pe_cmpR op_eq (pe_fld (pv 0) rfl) (pe_fld (pv 1) rfl) (nomark _)) (pe_and (pe_cmpR op_eq (pe_fld (pv 0) rfl) (pe_fld (pv 1) rfl) (nomark _))
      (pe_one (pe_cmpR (op_any fun k : Kind => op_ownEq (GE k) (T.methE k) hr) (pe_fld (pv 0) rfl) (pe_fld (pv 1) rfl) (nomark _))))))), ?_⟩
    by_cases e : c'.ck = .iff
    · obtain ⟨s', v', o', rfl⟩ := iff_ck e
      obtain ⟨dy, ib, hb, hib⟩ := hc'
      refine ⟨_, rfl, _, _, _, _, true, rfl, .own (c_If K), T.o_If.ty hb, kit_same, true, rfl, iteT ?_⟩
      refine ⟨_, rfl, a, c_If K, dx, _, _, rfl, ha, T.o_If.cl, T.n_If_slot, lookA, _, rfl, b, c_If K, dy, _, _, rfl, hb, T.o_If.cl, T.n_If_slot, lookA, rfl, _, rfl, ?_⟩
      have no : ∀ z : ¬ (Chg.iff s v o = Chg.iff s' v' o'), Q (.bl false) H := fun z => by
        have k2 := kk H (Same.refl _)
        rw [decide_eq_false z] at k2
        exact k2
      by_cases es : s = s'
      · rw [decide_eq_true (by rw [es])]
        refine iteT ⟨_, rfl, a, c_If K, dx, _, _, rfl, ha, T.o_If.cl, T.n_If_value, lookB slot_value.symm, _, rfl, b, c_If K, dy, _, _, rfl, hb, T.o_If.cl, T.n_If_value, lookB slot_value.symm, rfl, _, rfl, ?_⟩
        by_cases ev : v = v'
        · rw [decide_eq_true (by rw [ev])]
          refine iteT ⟨_, rfl, a, c_If K, dx, _, _, rfl, ha, T.o_If.cl, T.n_If_inner, lookC in_slot in_value, _, rfl, b, c_If K, dy, _, _, rfl, hb, T.o_If.cl, T.n_If_inner, lookC in_slot in_value, o.k, ?_⟩
          obtain ⟨du, hu⟩ := id hia
          obtain ⟨dv, hv⟩ := id hib
          refine ⟨ia, ib, du, _, o'.k.cls K, dv, _, rfl, rfl, hu, hv, T.nfC (.of o.k) (.of o'.k), ia, ib, .one o, .one o', rfl, rfl, hia, hib, fun H' sm => ⟨_, rfl, ?_⟩⟩
          have e2 : decide (Chg.one o = Chg.one o') = decide (Chg.iff s v o = Chg.iff s' v' o') := decide_eq_decide.mpr ⟨fun z => (by injection z with z; rw [es, ev, z]), fun z => (by injection z with _ _ z; rw [z])⟩
          rw [Bool.false_xor, e2]
          exact kk H' sm
        · rw [decide_eq_false (fun z => ev (by have := V.int.inj z; omega))]
          exact iteF (no fun z => ev (by injection z))
      · rw [decide_eq_false (fun z => es (by have := V.int.inj z; omega))]
        exact iteF (no fun z => es (by injection z))
    · obtain ⟨dy, gs, hb, _⟩ := hc'.obj
      refine ⟨_, rfl, _, _, _, _, false, rfl, .own (c_If K), (T.ownC c'.ck).ty hb, T.kkC c'.ck .iff e, false, rfl, ?_⟩
      have k2 := kk H (Same.refl _)
      rw [decide_eq_false (fun z => e (by rw [← z]; rfl))] at k2
      exact iteF k2
theorem okG_eq (T : Txt K mg) (q : CK) : Ok P w K mg base (q.eqA K) ["self", "other"] 2 (spEqC K q) := by
  cases q with
  | of k => exact (okG_one T k).mono (show 1 ≤ 2 by decide)
  | iff => exact okG_If_eq T
end
end OP
namespace OP
open PySem PySem.Spec PyProof.Rows GenW L2
theorem room64 {k : Nat} {A : Around} (r : Room k A) : A.units + 64 < cLine := by have := r.un; omega
/-- replicas of the same world, with the same entries and the same start -/
structure Alike (q q2 : Rep) : Prop where
  p : q2.p = q.p
  len : q2.E.length = q.E.length
  sub : ∀ e ∈ q2.E, e ∈ q.E
  x0 : q2.x0 = q.x0
section
variable {P : Program} {w : PySem.World} {K : PySem.W.Frag} {mg : Str → Option Value} {base : Heap}
def spAlike (K : PySem.W.Frag) : Sp := fun vs H Q _ => ∃ (r r2 : Addr) (q q2 : Rep) (n : Nat) (S : Sts) (L : Ncs), vs = [.ref r, .ref r2] ∧ RepAt K H r q ∧ RepAt K H r2 q2 ∧ Alike q q2 ∧ WorldAt K H q.p n S L ∧ WOk n S L ∧ ∀ H', Same H H' → Q .non H'
theorem sc_alk : FnScope ["replica", "other"] ["replica", "other"] (defScope s_check_alike) := ⟨rfl, rfl, rfl, by decide +kernel, rfl, by decide +kernel, by decide +kernel⟩
theorem ok_alike (T : Txt K mg) : Ok P w K mg base (a_check_alike K) ["replica", "other"] 6 (spAlike K) := by
  have GQ : Ok P w K mg base (a_World_eq K) _ 4 (spEq (REqW K)) := ok_World_eq T
  refine ok_of T.f_check_alike sc_alk (fun _ _ _ _ _ _ us hl => match us, hl with | [_, _], _ => rfl) (fun vs H Q E h => ?_) (fun cdv A outer s H vs Q E hr h => ?_)
  · obtain ⟨r, r2, q, q2, n, S, L, rfl, _⟩ := h
    rfl
  · obtain ⟨r, r2, q, q2, n, S, L, rfl, R, R2, al, W, ok, kk⟩ := h
    have cl := T.o_Replica.cl
    refine ⟨_, (pss_cons (ps_if (pt_not (pt_val (pe_callB call_isi (by rfl) T.z_isinstance (by decide +kernel) (pa_cons (pv 1) (pa_cons (pe_glob (v := .ref (c_Replica K)) (by rfl) T.g_Replica rfl) pa_nil))))) (pss_one ps_never) pss_nil)
      (pss_one (ps_if (PW.pt (pw_or (pt_cmpR (op_ownNe GQ T.m_World_eq T.o_World T.ne_World hr) (pe_fld (pv 1) rfl) (pe_fld (pv 0) rfl) (nomark _)) (pw_or (pt_cmpR (op_neP (room64 hr)) (pe_fld (pv 1) rfl) (pe_fld (pv 0) rfl) (nomark _)) (pw_or1 (pt_cmpR (op_neD (room64 hr)) (pe_fld (pv 1) rfl) (pe_fld (pv 0) rfl) (nomark _)))))) (pss_one ps_never) pss_nil))), ?_⟩
    refine ⟨_, rfl, _, _, _, _, true, rfl, .own (c_Replica K), T.o_Replica.ty R2.ob, kit_same, true, rfl, iteF ?_⟩
    have W2 : WorldAt K H q2.p n S L := by rw [al.p]; exact W
    obtain ⟨⟨dx, l, d, hp, _, _⟩, _, _⟩ := id W
    obtain ⟨⟨dx2, l2, d2, hp2, _, _⟩, _, _⟩ := id W2
    have nf : PySem.W.notFirst K (c_World K) (.ref (c_World K)) = true := by unfold PySem.W.notFirst; simp
    refine ⟨_, rfl, r2, c_Replica K, q2.dx, _, _, rfl, R2.ob, cl, T.n_Replica_world, zip_look (i := 0) rNd rfl rfl, _, rfl, r, c_Replica K, q.dx, _, _, rfl, R.ob, cl, T.n_Replica_world, zip_look (i := 0) rNd rfl rfl, q2.p, q.p, dx2, _, c_World K, dx, _, rfl, rfl, hp2, hp, nf, q2.p, q.p, rfl, ⟨n, S, L, S, L, W2, W, ⟨rfl, rfl⟩, ok.chgs⟩, fun H1 s1 => ⟨true, rfl, _, rfl, iteF ?_⟩⟩
    refine ⟨_, rfl, r2, c_Replica K, q2.dx, _, _, rfl, s1 _ _ R2.ob, cl, T.n_Replica_policy, zip_look (i := 1) rNd rfl rfl, _, rfl, r, c_Replica K, q.dx, _, _, rfl, s1 _ _ R.ob, cl, T.n_Replica_policy, zip_look (i := 1) rNd rfl rfl, q2.dp, q.dp, q2.E, q.E, rfl, rfl, s1 _ _ R2.po, s1 _ _ R.po, al.len, al.sub, _, rfl, iteF ?_⟩
    refine ⟨_, rfl, r2, c_Replica K, q2.dx, _, _, rfl, s1 _ _ R2.ob, cl, T.n_Replica_start, zip_look (i := 2) rNd rfl rfl, _, rfl, r, c_Replica K, q.dx, _, _, rfl, s1 _ _ R.ob, cl, T.n_Replica_start, zip_look (i := 2) rNd rfl rfl, dT q2.x0, dT q.x0, dp_T (s1 _ _ R2.st), dp_T (s1 _ _ R.st), shp_T _, shp_T _, ?_⟩
    rw [eqv_T, al.x0, decide_eq_true rfl]
    exact ⟨_, rfl, iteF (kk _ s1)⟩
end
end OP
/-! yield from a list -/
namespace OP
open PySem PySem.Spec PyProof.Rows L2
section
variable {P : Program} {w : PySem.World} {A : Around} {E : Value → Shared → Prop} {s : Shared} {it l : Addr} {i : Nat} {vs : Array Value} {Q : Option Value → Shared → Prop}
theorem nextL_item {x : Value} (hi : s.heap.IsListIter it l i) (hl : s.heap.IsList l vs) (hx : vs[i]? = some x) (k : ∀ h', h'.IsListIter it l (i + 1) → Heap.SameBut it s.heap h' → Q (some x) { s with heap := h' }) : wpAny (model P w) A (callSpecial? (.ref it) "__next__") Q E s := by
  obtain ⟨oi, gi, ci, di⟩ := id hi
  obtain ⟨ol, gl, _, nl, dl⟩ := hl
  refine wpAny_callSpecial?_slot (name := Str.ofString "__next__") hi.typeIs slot_listiter_next (wpAny_call_entry slot_listiter_next hi.typeIs entry_listiter_next ?_ (args_listiter_next _))
  show wpAny _ _ (field (Value.ref it) 0 >>= _) _ _ s
  refine wpAny_bind (wpAny_field gi di (x := .ref l) rfl ?_)
  show wpAny _ _ (if (Value.ref l == .none) = true then _ else _) _ _ s
  rw [if_neg (by exact Bool.false_ne_true)]
  show wpAny _ _ (field (Value.ref it) 1 >>= _) _ _ s
  refine wpAny_bind (wpAny_field gi di (x := .int i 0) rfl ?_)
  show wpAny _ _ (seqItems? (Value.ref l) >>= _) _ _ s
  refine wpAny_bind (wpAny_seqItems gl dl ?_)
  simp only [Int.toNat_natCast, hx]
  refine wpAny_bind (wpAny_setField gi di (by simp) (wpAny_pure ⟨x, rfl, k _ ⟨_, Heap.get?_update_self _ gi (Obj.isFreed_of_fields (Obj.data_mapFields di _)), (Obj.cls_mapFields ..).trans ci, ?_⟩ (Heap.SameBut.update ..)⟩))
  rw [Obj.data_mapFields di]
  simp [rawInt]
theorem nextL_end (hh : A.handled = none) (hi : s.heap.IsListIter it l i) (hl : s.heap.IsList l vs) (hx : vs[i]? = none) (k : ∀ e h', StopX e h' → Heap.ExtBut it s.heap h' → E e { s with heap := h' }) : wpAny (model P w) A (callSpecial? (.ref it) "__next__") Q E s := by
  obtain ⟨oi, gi, ci, di⟩ := id hi
  obtain ⟨ol, gl, _, nl, dl⟩ := hl
  refine wpAny_callSpecial?_slot (name := Str.ofString "__next__") hi.typeIs slot_listiter_next (wpAny_call_entry slot_listiter_next hi.typeIs entry_listiter_next ?_ (args_listiter_next _))
  show wpAny _ _ (field (Value.ref it) 0 >>= _) _ _ s
  refine wpAny_bind (wpAny_field gi di (x := .ref l) rfl ?_)
  show wpAny _ _ (if (Value.ref l == .none) = true then _ else _) _ _ s
  rw [if_neg (by exact Bool.false_ne_true)]
  show wpAny _ _ (field (Value.ref it) 1 >>= _) _ _ s
  refine wpAny_bind (wpAny_field gi di (x := .int i 0) rfl ?_)
  show wpAny _ _ (seqItems? (Value.ref l) >>= _) _ _ s
  refine wpAny_bind (wpAny_seqItems gl dl ?_)
  simp only [Int.toNat_natCast, hx]
  refine wpAny_bind (wpAny_rule (wpAny_bind (wpAny_setField gi di (by simp) ?_)))
  show wpAny _ _ (newExc (Value.type "StopIteration") [] >>= _) _ _ _
  refine wpAny_bind ?_
  simp only [newExc, newTuple]
  refine wpAny_bind (wpAny_newObj_type ?_ (by size_fits))
  refine wpAny_bind (m := firstArgMember _ _) (wpAny_of_eq (a := Value.none) (by rfl) ?_)
  refine wpAny_newObj_type ?_ (by size_fits)
  simp only [raiseNew]
  refine wpAny_bind (wpAny_handled ?_)
  rw [show A.in1.handled = none from hh]
  refine wpAny_bind (wpAny_pure (wpAny_throw (k _ _ ⟨_, _, _, rfl, Heap.get?_push_size _ rfl, rfl, rfl, ?_⟩ (((Heap.SameBut.update ..).extBut.push _).push _))))
  rfl
end
section
variable {X : Cx} {e : Expr} {te : TE}
def tYfL (te : TE) : TYf := fun σ H Q => te σ H fun x H1 => ∃ (a : Addr) (xs : List V), x = .ref a ∧ H1 a = some (.lst xs) ∧ Q xs H1
theorem close_list : typeLookup (.type "list_iterator") "close" = pure none := by rw [typeLookup_type, builtinLookup_eq_fast]; kernel_rfl
theorem yf_list (he : PE X e te) : YfE X e (tYfL te) := by
  refine ⟨fun ps s σ H Q I h => thn (he.run ps s σ H _ I h) fun v s1 ⟨x, H1, I1, r1, a, xs, ex, ha, hq⟩ => ?_⟩
  subst ex
  obtain rfl : v = .ref a := r1
  obtain ⟨z, its, n, r, hl, ge⟩ := I1.lstM ha
  have isl : s1.heap.IsList a its.toArray := ⟨_, ge, rfl, n, rfl⟩
  refine ⟨"list", ⟨_, ge, rfl⟩, by decide, wpAny_pyIter_list isl ?_⟩
  have lt : a < s1.heap.objs.size := Heap.lt_size ge
  have new : ∀ b o, s1.heap.get? b = some o → b ≠ s1.heap.objs.size := fun b o q => Nat.ne_of_lt (Heap.lt_size q)
  refine ⟨s1.heap.objs.size, H1, xs, fun j h => h.IsListIter s1.heap.objs.size a j ∧ h.IsList a its.toArray, rfl, I1.kept (t' := s1.toks) (fun b o q => Heap.get?_push_of_some _ q), .inr I1.sz, Nat.ne_of_gt I1.lt, fun y c hy => ?_, I1.hok.fresh (Nat.le_refl _), fun p hp => new p.1 _ (I1.pin p hp).1,
    ⟨⟨_, Heap.get?_push_size _ rfl, rfl, rfl⟩, isl.push _⟩, ⟨⟨"list_iterator", fun j h q => ?_, close_list, by decide⟩, fun j h h' q hk => ?_, fun A' j x s2 Q' E' hA hx q k => ?_, fun A' s2 Q' E' hA q k => ?_⟩, hq⟩
  · obtain ⟨v, o, ho, _⟩ := I1.cell y c hy
    exact new c o ho
  · obtain ⟨⟨o, ho, c, _⟩, _⟩ := q
    exact ⟨o, ho, c⟩
  · obtain ⟨⟨o, ho, r1⟩, o2, ho2, r2⟩ := q
    exact ⟨⟨o, hk _ o (.inl rfl) ho, r1⟩, o2, hk _ o2 (.inr (by rw [ha]; intro z; cases z)) ho2, r2⟩
  · obtain ⟨q1, q2⟩ := q
    obtain ⟨u, hu, ru⟩ := r.get hx
    exact nextL_item q1 q2 (x := u) (by simpa using hu) fun h' q1' sb => k u h' s2.toks ru ⟨q1', q2.extBut sb.extBut (Nat.ne_of_lt lt)⟩ fun b o hb eb => sb.extBut b o hb eb
  · obtain ⟨q1, q2⟩ := q
    have no : its.toArray[xs.length]? = none := by
      have : its[xs.length]? = none := List.getElem?_eq_none_iff.mpr (by omega)
      simpa using this
    exact nextL_end hA q1 q2 no fun e h' st ex => k e h' s2.toks st fun b o hb eb => ex b o hb eb
end
end OP
namespace OP
open PySem PySem.Spec PyProof.Rows GenW L2
theorem pe_fldK {X : Cx} (K : PySem.W.Frag) {e : Expr} {f : Str} {pos : Pos} {ta : TE} (he : PE X e ta) (hb : attributeBase e f X.env (eval e X.env) = eval e X.env := by rfl) (hK : X.K = K := by rfl) : PE X (.Attribute e f pos) (tFld K ta f) := by
  subst hK
  exact pe_fld he hb
/-- what one has and the other lacks -/
def lackN (os ys : List Str) : List Str := os.filter fun y => !decide (y ∈ ys)
section
variable {P : Program} {w : PySem.World} {K : PySem.W.Frag} {mg : Str → Option Value} {base : Heap}
def spLack (K : PySem.W.Frag) : SpG := fun vs H Q _ => ∃ (r r2 : Addr) (q q2 : Rep) (n : Nat) (S : Sts) (L : Ncs), vs = [.ref r, .ref r2] ∧ RepAt K H r q ∧ RepAt K H r2 q2 ∧ Alike q q2 ∧ WorldAt K H q.p n S L ∧ WOk n S L ∧ q2.os.length ≤ 4 ∧
  ∀ H', Same H H' → Q ((lackN q2.os q.ys).map V.str) H'
theorem sc_lk : GScope ["self", "other", "name"] ["self", "other"] (defScope s_Replica_lacking) := ⟨rfl, rfl, rfl, by decide +kernel, rfl, by decide +kernel, by decide +kernel⟩
theorem gok_lack (T : Txt K mg) : ∃ fd, GFn P w K mg base 7 (a_Replica_lacking K) fd ["self", "other"] (spLack K) ∧ Binds K fd ["self", "other"] [] ∧ PySem.W.keepIn K (.ref (a_Replica_lacking K)) = true := by
  have GA : Ok P w K mg base (a_check_alike K) _ 6 (spAlike K) := ok_alike T
  have GO : Ok P w K mg base (a_Replica_order K) _ 1 (spROrder K) := ok_rorder T
  obtain ⟨fd, F⟩ := T.f_Replica_lacking
  obtain ⟨oc, od, kV, doc, pm, an, cdv, ct, osl, rfl, lk, hcd⟩ := F.ex
  refine ⟨_, gfn_of lk hcd sc_lk (fun vs H Q E h => ?_) (fun A outer s H vs Q E pn hr h => ?_), F.binds (fun _ _ _ _ _ _ us hl => match us, hl with | [_, _], _ => rfl), F.kp⟩
  · obtain ⟨r, r2, q, q2, n, S, L, rfl, _⟩ := h
    rfl
  · obtain ⟨r, r2, q, q2, n, S, L, rfl, R, R2, al, W, ok, o4, k⟩ := h
    have hr2 : Room 2 _ := hr.mono (by decide)
    refine ⟨_, gss_cons (gs_ps (ps_expr (pe_c GA hr T.g_check_alike (pa_cons (pv 0) (pa_cons (pv 1) pa_nil)))))
      (gss_cons (gs_yieldFrom (yf_list (pe_lc (own := [("name", 2)]) (g := gName 2) rfl sc_lk.nd (pi_tup (pe_pr (pv 1) T.o_Replica T.p_Replica_order GO hr2)) (blkOk_by (own := [("name", 2)]) (N := ["self", "other", "name"]) (sc := defScope s_Replica_lacking) (by decide +kernel)) (fun _ _ _ _ _ => pg_name (i := 2) sc_lk.nd rfl (Or.inl rfl)) (fun _ _ _ _ _ => pts_one (pt_cmpR (op_notInK K) (pv 2) (pe_fldK K (pv 0)) (by rfl))) (fun _ _ _ _ _ => pv 2))) hr.hd) gss_nil), ?_⟩
    have cl := T.o_Replica.cl
    refine ⟨_, rfl, _, rfl, r, r2, q, q2, n, S, L, rfl, R, R2, al, W, ok, fun H1 s1 => ?_⟩
    have R1 := R.ext s1
    have R21 := R2.ext s1
    refine ⟨_, rfl, r2, q2.dx, _, rfl, R21.ob, r2, q2, rfl, R21, q2.ap, rfl, ⟨_, SqT.of R21.ap⟩, fun D hD => ?_⟩
    refine lc_it (walk_tup (K := K) (a := q2.ap) (xs := q2.os.map V.str)) (fun i H' => Same H1 H' ∧ H' D = some (.lst (((q2.os.take i).filter fun y => !decide (y ∈ q.ys)).map V.str))) ⟨same_upd hD, by rw [upd_same, List.take_zero] <;> rfl⟩ (fun i H' _ z => SqT.of (z.1 _ _ R21.ap)) (fun i x H4 H5 hi z yy => ?_) (fun H4 z => ?_)
    · obtain ⟨s4, d4⟩ := z
      obtain ⟨rfl, hx⟩ := yy
      obtain ⟨y, hy, rfl⟩ := strs_at' hx
      refine ⟨rfl, _, rfl, _, rfl, r, c_Replica K, q.dx, _, _, rfl, s4 _ _ R1.ob, cl, T.n_Replica_arrived, zip_look (i := 3) rNd rfl rfl, q.ar, _, rfl, .inl (SqL.of (s4 _ _ R1.ar)), rfl, strs_flat _, _, rfl, ?_⟩
      rw [inV_strs]
      have et : (q2.os.take (i + 1)).filter (fun y => !decide (y ∈ q.ys)) = (q2.os.take i).filter (fun y => !decide (y ∈ q.ys)) ++ if y ∈ q.ys then [] else [y] := by
        rw [List.take_add_one, hy, Option.toList_some, List.filter_append]
        congr 1
        by_cases hb : y ∈ q.ys
        · rw [if_pos hb, List.filter_cons, decide_eq_true hb] <;> rfl
        · rw [if_neg hb, List.filter_cons, decide_eq_false hb] <;> rfl
      by_cases hb : y ∈ q.ys
      · rw [decide_eq_true hb]
        refine iteF ⟨s4, ?_⟩
        rw [et, if_pos hb, List.append_nil]
        exact d4
      · rw [decide_eq_false hb]
        refine iteT ⟨_, rfl, _, d4, small1000 ?_, fun b u e => ?_, ?_⟩
        · rw [List.length_map]
          have f1 := List.length_filter_le (fun y => !decide (y ∈ q.ys)) (q2.os.take i)
          rw [List.length_take] at f1
          omega
        · rw [upd_ne (ne_of_none e hD)]
          exact s4 _ _ e
        · rw [upd_same, et, if_neg hb, List.map_append] <;> rfl
    · obtain ⟨s4, d4⟩ := z
      rw [List.length_map, List.take_length] at d4
      refine ⟨D, _, rfl, d4, ?_, k _ (s1.trans s4)⟩
      rw [List.length_nil, List.length_map, Nat.zero_add]
      exact Nat.le_trans (List.length_filter_le _ _) (Nat.le_trans o4 (by decide))
end
end OP
namespace OP
open PySem PySem.Spec PyProof.Rows GenW L2
def EN : XK := fun _ _ _ => False
theorem pass_no {X : Cx} : Passes (CX X.prog X.w) X EN := fun pins σ H s e s' I h => by
  obtain ⟨_, _, _, _, _, _, _, _, _, _, _, _, z⟩ := h
  exact z.elim
/-- a replica that has got zs since -/
structure Later (K : PySem.W.Frag) (H' : Hp) (r : Addr) (q q' : Rep) (zs : List Str) (n : Nat) (S : Sts) (L : Ncs) : Prop where
  at_ : RepAt K H' r q'
  wd : RepW K H' r q' n S L
  good : q'.Good L
  p : q'.p = q.p
  ar : q'.ar = q.ar
  E : q'.E = q.E
  x0 : q'.x0 = q.x0
  ys : q'.ys = q.ys ++ zs
theorem Later.next {K : PySem.W.Frag} {H1 H2 : Hp} {r : Addr} {q q' : Rep} {zs : List Str} {n : Nat} {S : Sts} {L : Ncs} {y : Str} {ap rc : Addr} (B : Later K H1 r q q' zs n S L) (hy : y ∈ names L) (hn : y ∉ q'.ys) (kr : Kr r q'.ar H1 H2) (R : RepAt K H2 r (q'.next L y ap rc)) : Later K H2 r q (q'.next L y ap rc) (zs ++ [y]) n S L := by
  refine ⟨R, B.wd.next kr hy hn, good_next B.good, B.p, B.ar, B.E, B.x0, ?_⟩
  show q'.ys ++ [y] = q.ys ++ (zs ++ [y])
  rw [B.ys, List.append_assoc]
theorem lack_nd {os ys : List Str} (nd : os.Nodup) : (lackN os ys).Nodup := List.Nodup.sublist List.filter_sublist nd
theorem lack_mem {os ys : List Str} {y : Str} (h : y ∈ lackN os ys) : y ∈ os ∧ y ∉ ys := by
  obtain ⟨h1, h2⟩ := List.mem_filter.mp h
  exact ⟨h1, by simpa using h2⟩
section
variable {P : Program} {w : PySem.World} {K : PySem.W.Frag} {mg : Str → Option Value} {base : Heap}
def spSync (K : PySem.W.Frag) : Sp := fun vs H Q _ => ∃ (r r2 : Addr) (q q2 : Rep) (n : Nat) (S : Sts) (L : Ncs), vs = [.ref r, .ref r2] ∧ RepAt K H r q ∧ RepW K H r q n S L ∧ q.Good L ∧ RepAt K H r2 q2 ∧ Alike q q2 ∧ q2.os.length ≤ 4 ∧ q2.os.Nodup ∧ (∀ y ∈ q2.os, y ∈ names L) ∧
  ∀ H' l q', Kr r q.ar H H' → Later K H' r q q' (lackN q2.os q.ys) n S L → H l = none → H' l = some (.lst ((lackN q2.os q.ys).map V.str)) → Q (.ref l) H'
theorem sc_syn : FnScope ["self", "other", "names", "name"] ["self", "other"] (defScope s_Replica_sync) := ⟨rfl, rfl, rfl, by decide +kernel, rfl, by decide +kernel, by decide +kernel⟩
theorem ok_sync (T : Txt K mg) : Ok P w K mg base (a_Replica_sync K) ["self", "other"] 11 (spSync K) := by
  have GR : Ok P w K mg base (a_Replica_receive K) _ 7 (spRecv K) := ok_recv T
  obtain ⟨gfd, GG, gb, _⟩ := gok_lack (P := P) (w := w) (base := base) T
  refine ok_of T.f_Replica_sync sc_syn (fun _ _ _ _ _ _ us hl => match us, hl with | [_, _], _ => rfl) (fun vs H Q E h => ?_) (fun cdv A outer s H vs Q E hr h => ?_)
  · obtain ⟨r, r2, q, q2, n, S, L, rfl, _⟩ := h
    rfl
  · obtain ⟨r, r2, q, q2, n, S, L, rfl, R, W, g, R2, al, o4, ond, oin, kk⟩ := h
    have hr7 : Room 7 _ := hr.mono (by decide)
    refine ⟨_, (pss_cons (ps_set (i := 2) sc_syn.nd rfl (Or.inl rfl) (pe_listG (pgen_meth (E := EN) (pv 0) T.o_Replica.cl T.m_Replica_lacking GG hr7 gb .nil (pa_cons (pv 1) pa_nil)) pass_no (fun _ _ _ z => z.elim) hr (by rfl) T.z_list (by decide +kernel)))
      (pss_cons (ps_for PassesOwn.never rfl (pi_list (pv 2)) (pg_name (i := 3) sc_syn.nd rfl (Or.inl rfl)) (pss_one (ps_expr (pe_mt (pv 0) T.o_Replica T.m_Replica_receive GR hr7 (pa_cons (pv 3) pa_nil)))))
      (pss_one (ps_ret (pv 2))))), ?_⟩
    refine ⟨_, rfl, r, q.dx, _, rfl, R.ob, no_rep (by decide +kernel), _, rfl, r, r2, q, q2, n, S, L, rfl, R, R2, al, W.wd.ext off2_same, W.ok, o4, fun H1 s1 => fun l hl => ?_⟩
    have s2 : Same H1 _ := same_upd (o := .lst ((lackN q2.os q.ys).map V.str)) hl
    have e2 : upd H1 l (.lst ((lackN q2.os q.ys).map V.str)) l = some (.lst ((lackN q2.os q.ys).map V.str)) := upd_same
    generalize upd H1 l (.lst ((lackN q2.os q.ys).map V.str)) = H2 at s2 e2
    have s12 := s1.trans s2
    have hln : H l = none := none_back s1 hl
    have nlr : l ≠ r := fun z => by rw [z, R.ob] at hln; cases hln
    have nla : l ≠ q.ar := fun z => by rw [z, R.ar] at hln; cases hln
    have B2 : Later K H2 r q q [] n S L := ⟨R.ext s12, { W with wd := W.wd.ext (Kr.of s12).off }, g, rfl, rfl, rfl, rfl, (List.append_nil _).symm⟩
    refine ⟨_, rfl, l, rfl, ⟨_, SqL.of e2⟩, ?_⟩
    refine for_it (walk_list (K := K) (a := l) (xs := (lackN q2.os q.ys).map V.str)) (fun i σ H' => ∃ (q' : Rep) (f : Option V), σ = [some (.ref r), some (.ref r2), some (.ref l), f] ∧ Kr r q.ar H H' ∧ H' l = some (.lst ((lackN q2.os q.ys).map V.str)) ∧ Later K H' r q q' ((lackN q2.os q.ys).take i) n S L) ⟨_, _, rfl, Kr.of s12, e2, B2⟩ (fun i σ H' _ ⟨_, _, _, _, z, _⟩ => SqL.of z) (fun i v σ H3 H4 hi inv yy => ?_) (fun σ H3 inv => ?_)
    · obtain ⟨q', f, rfl, kr, el, B⟩ := inv
      obtain ⟨rfl, hv⟩ := yy
      obtain ⟨y, hy, rfl⟩ := strs_at' hv
      obtain ⟨m1, m2⟩ := lack_mem (List.mem_of_getElem? hy)
      have hny : y ∉ q'.ys := by
        rw [B.ys, List.mem_append]
        rintro (z | z)
        · exact m2 z
        · exact take_fresh (lack_nd ond) hy z
      refine ⟨_, rfl, r, q'.dx, _, rfl, B.at_.ob, no_rep (by decide +kernel), _, rfl, r, q', y, n, S, L, rfl, B.at_, B.wd, oin y m1, hny, fun H5 ap rc kr5 R5 => ⟨q'.next L y ap rc, _, rfl, kr.trans (by rw [← B.ar]; exact kr5), kr5 _ _ nlr (by rw [B.ar]; exact nla) el, ?_⟩⟩
      rw [List.take_add_one, hy, Option.toList_some]
      exact B.next (oin y m1) hny kr5 R5
    · obtain ⟨q', f, rfl, kr, el, B⟩ := inv
      rw [List.length_map, List.take_length] at B
      exact ⟨_, rfl, kk _ l q' kr B hln el⟩
end
end OP
namespace OP
open PySem PySem.Spec PyProof.Rows GenW L2
section
variable {P : Program} {w : PySem.World} {K : PySem.W.Frag} {mg : Str → Option Value} {base : Heap}
def spWorks (K : PySem.W.Frag) : SpG := fun vs H Q _ => ∃ (p d : Addr) (n : Nat) (S : Sts) (L : Ncs) (E : Ents), vs = [.ref p, .ref d] ∧ WorldAt K H p n S L ∧ WOk n S L ∧ H d = some (.dT (pol E)) ∧ PolOk E (names L) ∧ E.Nodup ∧
  ∀ (H' : Hp) (Z : Aws), Same H H' → AwAt H' Z → wcont Z = (allowN [] 4 (names L)).map (fun o => (o, workN E o)) → Q (wrefs Z) H'
theorem sc_wks : GScope ["world", "policy"] ["world", "policy"] (defScope s_works) := ⟨rfl, rfl, rfl, by decide +kernel, rfl, by decide +kernel, by decide +kernel⟩
theorem gok_works (T : Txt K mg) : ∃ fd, GFn P w K mg base 11 (a_works K) fd ["world", "policy"] (spWorks K) ∧ Binds K fd ["world", "policy"] [] ∧ PySem.W.keepIn K (.ref (a_works K)) = true := by
  have GW : Ok P w K mg base (a_check_world K) _ 1 (spCWorld K) := ok_cworld T
  have GP : Ok P w K mg base (a_check_policy K) _ 3 (spCPol K) := ok_cpol T
  have GA : Ok P w K mg base (a_arrivals_with_work K) _ 10 (spArr K) := ok_arr T
  obtain ⟨fd, F⟩ := T.f_works
  obtain ⟨oc, od, kV, doc, pm, an, cdv, ct, osl, rfl, lk, hcd⟩ := F.ex
  refine ⟨_, gfn_of lk hcd sc_wks (fun vs H Q E h => ?_) (fun A outer s H vs Q E pn hr h => ?_), F.binds (fun _ _ _ _ _ _ us hl => match us, hl with | [_, _], _ => rfl), F.kp⟩
  · obtain ⟨p, d, n, S, L, E', rfl, _⟩ := h
    rfl
  · obtain ⟨p, d, n, S, L, E', rfl, W, ok, hd, po, en, k⟩ := h
    have hr1 : Room 1 _ := hr.mono (by decide)
    have hr3 : Room 3 _ := hr.mono (by decide)
    refine ⟨_, gss_cons (gs_ps (ps_expr (pe_c GW hr1 T.g_check_world (pa_cons (pv 0) pa_nil))))
      (gss_cons (gs_ps (ps_expr (pe_c GP hr3 T.g_check_policy (pa_cons (pv 0) (pa_cons (pv 1) pa_nil)))))
      (gss_cons (gs_yieldFrom (yf_list (pe_c GA hr T.g_arrivals_with_work (pa_cons (pv 0) (pa_cons (pv 1) pa_nil)))) hr.hd) gss_nil)), ?_⟩
    refine ⟨_, rfl, p, n, S, L, rfl, W, ?_⟩
    refine ⟨_, rfl, _, rfl, p, d, n, S, L, E', rfl, W, ok.chgs.nd, ok.chgs.hi, hd, po, fun H1 s1 => ?_⟩
    refine ⟨_, rfl, _, rfl, p, d, n, S, L, E', rfl, W.ext s1, ok, s1 _ _ hd, po, en, fun H2 r Z s2 _ e2 a2 c2 => ⟨r, _, rfl, e2, ?_, k _ Z (s1.trans s2) a2 c2⟩⟩
    have nl : (names L).length ≤ 4 := by unfold names; rw [List.length_map]; exact ok.chgs.hi
    have zl := congrArg List.length c2
    unfold wcont at zl
    rw [List.length_map, List.length_map] at zl
    have := allow_le [] 4 (names L) nl
    rw [List.length_nil, Nat.zero_add]
    unfold wrefs
    rw [List.length_map, zl]
    exact Nat.le_trans this (by decide)
end
end OP
/-! dict([(pair, True), ..]) -/
namespace OP
open PySem PySem.Spec PyProof.Rows L2
/-- pairs with True: the tuple, the pair's place, its names -/
abbrev Pps := List (Addr × Addr × Str × Str)
def PpAt (H : Hp) (Z : Pps) : Prop := ∀ z ∈ Z, H z.1 = some (.tup [.ref z.2.1, .bl true]) ∧ H z.2.1 = some (.tup [.str z.2.2.1, .str z.2.2.2])
def pps (Z : Pps) : List V := Z.map fun z => V.ref z.1
def pkey (e : Str × Str) : List Key := [Sum.inr e.1, Sum.inr e.2]
def rawP (Z : Pps) : List (List Key × Addr × Value) := Z.map fun z => (pkey z.2.2, z.2.1, Value.bool true)
theorem PpAt.ext {H H' : Hp} {Z : Pps} (s : Same H H') (h : PpAt H Z) : PpAt H' Z := fun z hz => ⟨s _ _ (h z hz).1, s _ _ (h z hz).2⟩
theorem stored_new {k : List Key} {a : Addr} {v : Value} {xs : List (List Key × Addr × Value)} (h : k ∉ xs.map (·.1)) : storedH xs k a v = xs ++ [(k, a, v)] := by
  have e : atKey xs k = none := by
    refine atKey_none_of_get fun j p z => h (List.mem_map.mpr ⟨_, List.mem_of_getElem? z, rfl⟩)
  unfold storedH
  simp [e]
theorem stored_all : ∀ (ps xs : List (List Key × Addr × Value)), ((xs ++ ps).map (·.1)).Nodup → storedAllH xs ps = xs ++ ps
  | [], xs, _ => (List.append_nil _).symm
  | p :: ps, xs, nd => by
    have e : xs ++ p :: ps = (xs ++ [p]) ++ ps := by rw [List.append_assoc] <;> rfl
    have n : p.1 ∉ xs.map (·.1) := fun z => by
      rw [List.map_append, List.map_cons] at nd
      exact (List.nodup_append.mp nd).2.2 _ z _ List.mem_cons_self rfl
    show storedAllH (storedH xs p.1 p.2.1 p.2.2) ps = _
    rw [stored_new n, e]
    exact stored_all ps _ (by rw [← e]; exact nd)
theorem rawP_keys (Z : Pps) : (rawP Z).map (·.1) = (Z.map (·.2.2)).map pkey := by
  unfold rawP
  rw [List.map_map, List.map_map] <;> rfl
theorem pkey_inj {e f : Str × Str} (h : pkey e = pkey f) : e = f := by
  unfold pkey at h
  injection h with h1 h2
  injection h2 with h2 _
  exact Prod.ext (Sum.inr.inj h1) (Sum.inr.inj h2)
theorem kt_pps {H : Hp} : ∀ {Z : Pps}, (∀ z ∈ Z, H z.2.1 = some (.tup [.str z.2.2.1, .str z.2.2.2])) → KT H (pol (Z.map (·.2.2))) (rawP Z)
  | [], _ => .nil
  | z :: Z, h => .cons ⟨rfl, h z List.mem_cons_self, rfl⟩ (kt_pps fun y hy => h y (List.mem_cons_of_mem _ hy))
section
variable {X : Cx}
theorem call_pdict (hc : X.calm = true) (hu : X.A.units + 64 < cLine) : CallR X (.type "dict") (fun vs H Q => ∃ (l : Addr) (Z : Pps), vs = [.ref l] ∧ H l = some (.lst (pps Z)) ∧ PpAt H Z ∧ (Z.map (·.2.2)).Nodup ∧ Z.length ≤ 200 ∧ ∀ d, H d = none → Q (.ref d) (upd H d (.dT (pol (Z.map (·.2.2)))))) := by
  intro pins s σ H vs us Q I r h
  obtain ⟨l, Z, rfl, hl, hp, nd, few, q⟩ := h
  obtain ⟨u, rfl, rx⟩ := vals1 r
  cases rx
  obtain ⟨zz, its, n, rv, hL⟩ := (show ObjOk X.prog X.w H s.heap l (.lst (pps Z)) from I.hok l _ hl)
  have eits : its = (Z.map (·.1)).map Value.ref := by
    unfold pps at rv
    clear hp q hl hL zz nd few
    induction Z generalizing its with
    | nil => cases rv; rfl
    | cons z Z ih =>
      cases rv with
      | cons a b =>
        cases a
        rw [List.map_cons, List.map_cons, ih _ b]
  subst eits
  have pitems : PairItems s.heap ((Z.map (·.1)).map Value.ref).toArray (fun j => (Z.map (·.1)).getD j 0) (Z.map fun z => (Value.ref z.2.1, Value.bool true)) := by
    refine ⟨by simp, fun j k v hj => ?_⟩
    rw [List.getElem?_map] at hj
    obtain ⟨z, hz, e⟩ := Option.map_eq_some_iff.mp hj
    injection e with e1 e2
    have ht : (Z.map (·.1))[j]? = some z.1 := by rw [List.getElem?_map, hz] <;> rfl
    refine ⟨?_, ?_⟩
    · show ((Z.map (·.1)).map Value.ref).toArray[j]? = some (.ref ((Z.map (·.1)).getD j 0))
      rw [List.getElem?_toArray, List.getElem?_map, ht, List.getD_eq_getElem?_getD, ht] <;> rfl
    · show PairAt s.heap ((Z.map (·.1)).getD j 0) k v
      rw [List.getD_eq_getElem?_getD, ht]
      obtain ⟨_, i1, r1, o1, g1, c1, n1, d1⟩ := (show ObjOk X.prog X.w H s.heap z.1 (.tup [.ref z.2.1, .bl true]) from I.hok _ _ (hp z (List.mem_of_getElem? hz)).1)
      obtain ⟨u1, u2, rfl, hu1, hu2⟩ := vals2 r1
      cases hu1
      cases hu2
      subst e1 e2
      exact .inl ⟨o1, g1, c1, n1, d1⟩
  have key : ∀ z ∈ Z, (tupleKind (mixKind X.prog X.w)).is s.heap (pkey z.2.2) z.2.1 := fun z hz => key_of I.hok (hp z hz).2
  have kn : ((rawP Z).map (·.1)).Nodup := by
    rw [rawP_keys]
    exact List.Pairwise.map pkey (fun a b ne h => ne (pkey_inj h)) nd
  refine call_dict_pairsH (knd := tupleKind (mixKind X.prog X.w)) (ps := rawP Z) (PairArg.list l ((Z.map (·.1)).map Value.ref).toArray (fun j => (Z.map (·.1)).getD j 0) (Z.map fun z => (Value.ref z.2.1, Value.bool true))) (I.ok.hd hc) (by show X.A.in1.in1.units < cLine; rw [Around.in1_units, Around.in1_units]; omega)
    ⟨⟨_, n, hL, rfl, rfl, rfl⟩, pitems⟩ ⟨by unfold rawP; rw [List.length_map, List.length_map], fun i key v rel => ?_⟩ (fun h' hk' x hx => ?_) (by rw [List.length_map]; exact Nat.le_trans few (by decide)) fun h' tk dd kp => ?_
  · have rel : (Z.map fun z => (Value.ref z.2.1, Value.bool true))[i]? = some (key, v) := rel
    rw [List.getElem?_map] at rel
    obtain ⟨z, hz, e⟩ := Option.map_eq_some_iff.mp rel
    injection e with e1 e2
    refine ⟨pkey z.2.2, z.2.1, ?_, e1.symm⟩
    unfold rawP
    rw [List.getElem?_map, hz, ← e2] <;> rfl
  · obtain ⟨z, hz, rfl⟩ := List.mem_map.mp hx
    obtain ⟨o, its, m, g1, g2, g3, g4⟩ := key z hz
    exact ⟨o, its, m, hk' _ o (Nat.ne_of_lt (Heap.lt_size g1)) (fun z => nomatch z) g1, g2, g3, g4⟩
  · rw [stored_all (rawP Z) [] (by simpa using kn), List.nil_append] at dd
    obtain ⟨ob, es, ep, hq, h2, h3, h4, _, h5⟩ := dd
    refine ⟨.ref s.heap.objs.size, _, I.laid (t' := tk) (o := .dT (pol (Z.map (·.2.2)))) (fun b o e => kp b o (fun z => nomatch z) e) (Nat.le_refl _) ?_, rfl, q _ (I.hok.fresh (Nat.le_refl _))⟩
    refine ⟨?_, beq_eq_false_iff_ne.mpr (Ne.symm (Nat.ne_of_lt I.big)), rawP Z, kt_pps fun z hz => ?_, ob, es, ep, hq, h2, h3, h4, h5⟩
    · unfold pol
      rw [List.length_map, List.length_map]
      exact Nat.le_trans few (by decide)
    · have e := (hp z hz).2
      rw [upd_ne (ne_of_none e (I.hok.fresh (Nat.le_refl _)))]
      exact e
end
end OP
namespace OP
open PySem PySem.Spec PyProof.Rows GenW L2
/-- entries as a list of pairs -/
abbrev Els := List (Addr × Str × Str)
def ElsAt (H : Hp) (A : Els) : Prop := ∀ z ∈ A, H z.1 = some (.tup [.str z.2.1, .str z.2.2])
def erefs (A : Els) : List V := A.map fun z => V.ref z.1
def ents (A : Els) : Ents := A.map (·.2)
theorem ElsAt.ext {H H' : Hp} {A : Els} (s : Same H H') (h : ElsAt H A) : ElsAt H' A := fun z hz => s _ _ (h z hz)
section
variable {P : Program} {w : PySem.World} {K : PySem.W.Frag} {mg : Str → Option Value} {base : Heap}
def spLPol (K : PySem.W.Frag) : Sp := fun vs H Q _ => ∃ (l : Addr) (A : Els), vs = [.ref l] ∧ H l = some (.lst (erefs A)) ∧ ElsAt H A ∧ (ents A).Nodup ∧ A.length ≤ 12 ∧ ∀ H' d, Same H H' → H d = none → H' d = some (.dT (pol (ents A))) → Q (.ref d) H'
theorem sc_lpol : FnScope ["_law_entries", "_law_pair"] ["_law_entries"] (defScope s__law_policy) := ⟨rfl, rfl, rfl, by decide +kernel, rfl, by decide +kernel, by decide +kernel⟩
theorem ok_lpol (T : Txt K mg) : Ok P w K mg base (a__law_policy K) ["_law_entries"] 1 (spLPol K) := by
  refine ok_of T.f__law_policy sc_lpol (fun _ _ _ _ _ _ us hl => match us, hl with | [_], _ => rfl) (fun vs H Q E h => ?_) (fun cdv A' outer s H vs Q E hr h => ?_)
  · obtain ⟨l, A, rfl, _⟩ := h
    rfl
  · obtain ⟨l, A, rfl, hl, hA, nd, few, kk⟩ := h
    refine ⟨_, (pss_one (ps_ret (pe_callTy (call_pdict rfl (room64 hr)) (by rfl) T.z_dict (by decide +kernel) (pa_cons (pe_lc (own := [("_law_pair", 1)]) (g := (gName 1)) (tt := tYes) rfl sc_lpol.nd (pi_list (pv 0)) (blkOk_by (own := [("_law_pair", 1)]) (N := ["_law_entries", "_law_pair"]) (sc := defScope s__law_policy) (by decide +kernel)) (fun _ _ _ _ _ => (pg_name (i := 1) sc_lpol.nd rfl (Or.inl rfl))) (fun _ _ _ _ _ => pts_nil) (fun _ _ _ _ _ => (pe_tup (pa_cons (pv 1) (pa_cons pe_bl pa_nil))))) pa_nil)))), ?_⟩
    refine ⟨_, rfl, l, rfl, ⟨_, SqL.of hl⟩, fun D hD => ?_⟩
    have al : (erefs A).length = A.length := List.length_map ..
    refine lc_it (walk_list (K := K) (a := l) (xs := erefs A)) (fun i H' => ∃ Z : Pps, Same H H' ∧ H' D = some (.lst (pps Z)) ∧ PpAt H' Z ∧ Z.map (·.2) = A.take i) ⟨[], same_upd hD, upd_same, fun z hz => (by cases hz), rfl⟩ (fun i H' _ inv => ?_) (fun i x H5 H5' hi inv yy => ?_) (fun H5 inv => ?_)
    · obtain ⟨_, z, _⟩ := inv
      exact SqL.of (z _ _ hl)
    · obtain ⟨Z, s5, d5, a5, c5⟩ := inv
      obtain ⟨rfl, hx⟩ := yy
      have hiA : i < A.length := by rw [← al]; exact hi
      unfold erefs at hx
      rw [List.getElem?_map, List.getElem?_eq_getElem hiA] at hx
      obtain rfl := (Option.some.inj hx).symm
      have hz := (hA.ext s5) _ (List.getElem_mem hiA)
      refine ⟨rfl, tyes (iteT ⟨_, rfl, (by show 2 ≤ sizeLine; decide), fun q hq => ?_⟩)⟩
      have s7 : Same H5' _ := same_upd (o := .tup [.ref A[i].1, .bl true]) hq
      have q7 : upd H5' q (.tup [.ref A[i].1, .bl true]) q = some (.tup [.ref A[i].1, .bl true]) := upd_same
      generalize upd H5' q (.tup [.ref A[i].1, .bl true]) = H7 at s7 q7
      have d7 := s7 _ _ d5
      have tn : ∀ b ys, H7 b = some (.tup ys) → b ≠ D := fun b ys z q => by rw [q, d7] at z; cases z
      have la : Z.length ≤ i := by
        have := congrArg List.length c5
        rw [List.length_map, List.length_take] at this
        omega
      refine ⟨pps Z, d7, small1000 (by unfold pps; rw [List.length_map]; omega), Z ++ [(q, A[i])], fun b u z => ?_, ?_, fun z hz2 => ?_, ?_⟩
      · rw [upd_ne (ne_of_none z hD)]
        exact s7 _ _ (s5 _ _ z)
      · rw [upd_same]
        unfold pps
        rw [List.map_append] <;> rfl
      · rcases List.mem_append.mp hz2 with h | h
        · obtain ⟨b1, b2⟩ := (a5.ext s7) z h
          exact ⟨(upd_ne (tn _ _ b1)).trans b1, (upd_ne (tn _ _ b2)).trans b2⟩
        · obtain rfl := List.mem_singleton.mp h
          have hz7 := s7 _ _ hz
          exact ⟨(upd_ne (tn _ _ q7)).trans q7, (upd_ne (tn _ _ hz7)).trans hz7⟩
      · rw [List.map_append, c5, List.take_add_one, List.getElem?_eq_getElem hiA, Option.toList_some] <;> rfl
    · obtain ⟨Z, s5, d5, a5, c5⟩ := inv
      rw [al, List.take_length] at c5
      have e : Z.map (·.2.2) = ents A := by unfold ents; rw [← c5, List.map_map] <;> rfl
      have zl : Z.length = A.length := by rw [← c5, List.length_map]
      refine ⟨D, Z, rfl, d5, a5, by rw [e]; exact nd, by omega, fun d hd => kk _ d (s5.trans (same_upd hd)) (none_back s5 hd) ?_⟩
      rw [upd_same, e]
end
end OP
namespace OP
open PySem PySem.Spec PyProof.Rows GenW L2
theorem eqvAll_strs' : ∀ xs ys : List Str, PyData.eqvAll (xs.map PyData.str) (ys.map PyData.str) = decide (xs = ys)
  | [], [] => by simp [PyData.eqvAll]
  | [], _ :: _ => by simp [PyData.eqvAll]
  | _ :: _, [] => by simp [PyData.eqvAll]
  | a :: r, b :: t => by
    simp only [List.map_cons, PyData.eqvAll, PyData.eqv, eqvAll_strs' r t]
    by_cases h : a = b <;> by_cases h' : r = t <;> simp [h, h']
theorem eqv_N' (xs ys : List Str) : PyData.eqv (dN xs) (dN ys) = decide (xs = ys) := by
  unfold dN
  simp only [PyData.eqv]
  exact eqvAll_strs' xs ys
theorem eqv_strL (xs ys : List Str) : PyData.eqv (.list (xs.map PyData.str)) (.list (ys.map PyData.str)) = decide (xs = ys) := by
  simp only [PyData.eqv]
  exact eqvAll_strs' xs ys
theorem shp_N {ys : List Str} (h : ∀ y ∈ ys, PyData.strOk y = true) : SeqAt.shaped (dN ys) = true := shp (lay_N h) (by rw [dep_N]; decide)
theorem op_inDK (K : PySem.W.Frag) {X : Cx} (hu : X.A.units + 65 < cLine) (hK : X.K = K := by rfl) : OpR X (compareOp .In) (rInD K) := by
  subst hK
  exact op_inD hu
def dE (A : Els) : List PyData := (ents A).map fun e => dN [e.1, e.2]
theorem dp_Els {K : PySem.W.Frag} {H : Hp} : ∀ {A : Els}, ElsAt H A → DpAll K H (erefs A) (dE A)
  | [], _ => .nil
  | z :: A, h => .cons (dp_N (xs := [z.2.1, z.2.2]) (h z List.mem_cons_self)) (dp_Els fun y hy => h y (List.mem_cons_of_mem _ hy))
theorem any_dE (A : Els) (a b : Str) : ((dE A).any fun z => PyData.eqv z (dN [a, b])) = bef (ents A) a b := by
  unfold dE bef
  induction ents A with
  | nil => rfl
  | cons e E ih =>
    rw [List.map_cons, List.any_cons, ih, eqv_N']
    by_cases h : e = (a, b)
    · subst h
      simp
    · have h1 : ¬ ([e.1, e.2] : List Str) = [a, b] := fun z => h (by
        injection z with z1 z2
        injection z2 with z2 _
        exact Prod.ext z1 z2)
      have h2 : ¬ (a, b) = e := fun z => h z.symm
      simp [h1, h2]
theorem first_free {p : Str → Bool} : ∀ {zs : List Str} {i : Nat} {y : Str}, zs[i]? = some y → p y = true → (zs.take i).filter p = [] → ∃ t, zs.filter p = y :: t
  | [], _, _, h, _, _ => (by cases h)
  | z :: zs, 0, y, h, hp, _ => by
    obtain rfl := Option.some.inj h
    exact ⟨_, by rw [List.filter_cons, if_pos hp]⟩
  | z :: zs, i + 1, y, h, hp, hn => by
    rw [List.take_succ_cons, List.filter_cons] at hn
    by_cases c : p z = true
    · rw [if_pos c] at hn
      cases hn
    · rw [if_neg c] at hn
      rw [List.filter_cons, if_neg c]
      exact first_free (i := i) h hp hn
section
variable {P : Program} {w : PySem.World} {K : PySem.W.Frag} {mg : Str → Option Value} {base : Heap}
structure ElsOk (A : Els) : Prop where
  few : A.length ≤ 12
  so : ∀ e ∈ ents A, PyData.strOk e.1 = true ∧ PyData.strOk e.2 = true
def spLine (K : PySem.W.Frag) : Sp := fun vs H Q _ => ∃ (l a : Addr) (A : Els) (ys : List Str), vs = [.ref l, .ref a] ∧ H l = some (.lst (erefs A)) ∧ ElsAt H A ∧ ElsOk A ∧ SqN K H a ys ∧ ys.length ≤ 4 ∧ (∀ y ∈ ys, PyData.strOk y = true) ∧ (∀ zs : List Str, (∀ z ∈ zs, z ∈ ys) → zs ≠ [] → freeN (ents A) zs ≠ []) ∧
  ∀ H' r, Same H H' → H r = none → H' r = some (.lst ((lineN (ents A) 4 ys).map V.str)) → Q (.ref r) H'
theorem sc_lline : FnScope ["_law_entries", "_law_names", "_law_left", "_law_found", "_law_one", "_law_other", "_law_name"] ["_law_entries", "_law_names"] (defScope s__law_line) := ⟨rfl, rfl, rfl, by decide +kernel, rfl, by decide +kernel, by decide +kernel⟩
theorem ok_lline (T : Txt K mg) : Ok P w K mg base (a__law_line K) ["_law_entries", "_law_names"] 1 (spLine K) := by
  refine ok_of T.f__law_line sc_lline (fun _ _ _ _ _ _ us hl => match us, hl with | [_, _], _ => rfl) (fun vs H Q E h => ?_) (fun cdv A' outer s H vs Q E hr h => ?_)
  · obtain ⟨l, a, A, ys, rfl, _⟩ := h
    rfl
  · obtain ⟨l, a, A, ys, rfl, hl, hA, ok, ha, y4, so, fr, kk⟩ := h
    refine ⟨_, (pss_cons (ps_par rfl sc_lline.nd (i := 2) (j := 3) rfl rfl (by decide) rfl rfl (pa_cons (pe_callTy call_list_of (by rfl) T.z_list (by decide +kernel) (pa_cons (pv 1) pa_nil)) (pa_cons (pe_lst pa_nil) pa_nil)) (by rfl))
      (pss_cons (ps_while PassesOwn.never (pt_cmpR (op_neD (room64 hr)) (pv 2) (pe_lst pa_nil) (nomark _)) (pss_cons (ps_for PassesOwn.never rfl (pi_list (pv 2)) (pg_name (i := 4) sc_lline.nd rfl (Or.inr rfl)) (pss_one (ps_if (pt_not (pt_val (pe_callB (cr_any rfl) (by rfl) T.z_any (by decide +kernel) (pa_cons (pe_lc (own := [("_law_other", 5)]) (g := (gName 5)) (tt := tYes) rfl sc_lline.nd (pi_list (pv 2)) (blkOk_by (own := [("_law_other", 5)]) (N := ["_law_entries", "_law_names", "_law_left", "_law_found", "_law_one", "_law_other", "_law_name"]) (sc := defScope s__law_line) (by decide +kernel)) (fun _ _ _ _ _ => (pg_name (i := 5) sc_lline.nd rfl (Or.inl rfl))) (fun _ _ _ _ _ => pts_nil) (fun _ _ _ _ _ => (pe_cmpR (op_inDK K (room65 hr)) (pe_tup (pa_cons (pv 5) (pa_cons (pv 4) pa_nil))) (pv 0) (by rfl)))) pa_nil)))) (pss_one ps_break) pss_nil)))
      (pss_cons (ps_expr (pe_bm PySem.F.plainAttrs_list PySem.F.slot_list_append PySem.F.type_list_append mt_append (pv 3) (pa_cons (pv 4) pa_nil)))
      (pss_one (ps_setLc (i := 2) (own := [("_law_name", 6)]) (g := (gName 6)) rfl sc_lline.nd rfl rfl (sw_true rfl rfl rfl (by decide +kernel)) (pi_list (pv 2)) (blkOk_by (own := [("_law_name", 6)]) (N := ["_law_entries", "_law_names", "_law_left", "_law_found", "_law_one", "_law_other", "_law_name"]) (sc := defScope s__law_line) (by decide +kernel)) (fun _ _ _ _ _ => (pg_name (i := 6) sc_lline.nd rfl (Or.inl rfl))) (fun _ _ _ _ _ => (pts_one (pt_cmpR op_ne (pv 6) (pv 4) (nomark _)))) (fun _ _ _ _ _ => (pv 6)))))))
      (pss_one (ps_ret (pv 3))))), ?_⟩
    refine ⟨_, rfl, a, _, rfl, ha, fun b0 hb0 => ⟨(by show 0 ≤ sizeLine; decide), fun c hc => ⟨_, _, rfl, ?_⟩⟩⟩
    have s1 : Same H _ := same_upd (o := .lst (ys.map V.str)) hb0
    have s2 : Same _ _ := same_upd (o := .lst []) hc
    have hcn : H c = none := none_back s1 hc
    have b2 := s2 b0 _ upd_same
    have c2 : upd (upd H b0 (.lst (ys.map V.str))) c (.lst []) c = some (.lst (([] : List Str).map V.str)) := upd_same
    have bc : b0 ≠ c := fun z => by rw [← z, upd_same] at hc; cases hc
    have s12 := s1.trans s2
    generalize upd (upd H b0 (.lst (ys.map V.str))) c (.lst []) = H2 at s2 b2 c2 s12
    dsimp only
    show tWhile _ _ _ _ _
    refine while_by (fun σ H' => ∃ (b : Addr) (zs os : List Str) (n : Nat) (f g h : Option V), σ = [some (.ref l), some (.ref a), some (.ref b), some (.ref c), f, g, h] ∧ Same H H' ∧ b ≠ c ∧ H' b = some (.lst (zs.map V.str)) ∧ H' c = some (.lst (os.map V.str)) ∧ zs.length ≤ n ∧ os.length + n ≤ 4 ∧ (∀ z ∈ zs, z ∈ ys) ∧ os ++ lineN (ents A) n zs = lineN (ents A) 4 ys) (lenAt 2) ⟨b0, ys, [], 4, _, _, _, rfl, s12, bc, b2, c2, y4, (by decide), fun z hz => hz, rfl⟩ (fun σ H3 inv => ?_)
      (fun σ H Q Q' h ⟨x, hx, hz, f⟩ => ⟨x, hx, hz, fun e he => let ⟨d, d', a1, a2, a3, a4, k, ek, q⟩ := f e he; ⟨d, d', a1, a2, a3, a4, k, ek, h _ _ q⟩⟩)
    obtain ⟨b, zs, os, n, f, g, h, rfl, s3, nbc, hb, hcc, hn, h4n, sub, eo⟩ := inv
    have zso : ∀ y ∈ zs, PyData.strOk y = true := fun y hy => so y (sub y hy)
    refine ⟨_, rfl, (by show 0 ≤ sizeLine; decide), fun e he => ?_⟩
    have s4 : Same H3 _ := same_upd (o := .lst []) he
    have e4 : upd H3 e (.lst []) e = some (.lst []) := upd_same
    generalize upd H3 e (.lst []) = H4 at s4 e4
    refine ⟨.list (zs.map PyData.str), .list [], .lst (SqL.of (s4 _ _ hb)) (dp_strs zs), .lst (SqL.of e4) .nil, shp_strs zso, shp_strs (ys := []) (fun _ h => (by cases h)), _, rfl, ?_⟩
    rw [show PyData.list [] = PyData.list (([] : List Str).map PyData.str) from rfl, eqv_strL]
    have s34 := s3.trans s4
    have hb4 := s4 _ _ hb
    have hc4 := s4 _ _ hcc
    by_cases ne : zs = []
    · subst ne
      rw [decide_eq_true rfl]
      refine iteF ⟨_, rfl, kk _ c s34 hcn ?_⟩
      rw [line_nil, List.append_nil] at eo
      rw [← eo]
      exact hc4
    · rw [decide_eq_false ne]
      refine iteT ⟨_, rfl, b, rfl, ⟨_, SqL.of hb4⟩, ?_⟩
      have nf := fr zs sub ne
      have hm : (zs.map V.str).length = zs.length := List.length_map ..
      refine for_it (walk_list (K := K) (a := b) (xs := zs.map V.str)) (fun i σ H' => ∃ (f g h : Option V), σ = [some (.ref l), some (.ref a), some (.ref b), some (.ref c), f, g, h] ∧ Same H4 H' ∧ (zs.take i).filter (fun y => !(zs.any fun o => bef (ents A) o y)) = []) ⟨_, _, _, rfl, Same.refl _, rfl⟩ (fun i σ H' _ ⟨_, _, _, _, z, _⟩ => SqL.of (z _ _ hb4)) (fun i v σ H5 H6 hi inv yy => ?_) (fun σ H5 inv => ?_)
      · obtain ⟨f5, g5, h5, rfl, s5, no⟩ := inv
        obtain ⟨rfl, hv⟩ := yy
        obtain ⟨y, hy, rfl⟩ := strs_at' hv
        have yin : y ∈ zs := List.mem_of_getElem? hy
        have s45 := s34.trans s5
        have A6 := hA.ext s45
        have l6 := s45 _ _ hl
        have b6 := s5 _ _ hb4
        refine ⟨_, rfl, b, rfl, ⟨_, SqL.of b6⟩, fun D2 hD2 => ?_⟩
        refine lcL_map (K := K) (a := b) (xs := zs.map V.str) (zs.map fun o => V.bl (bef (ents A) o y)) hD2 (SqL.of b6) (by rw [hm]; omega) (by rw [hm, List.length_map]) (fun j x2 v H7 Qe hx2 hv2 s7 kq => ?_) fun H7 s7 e7 => ?_
        · obtain ⟨o, ho, rfl⟩ := strs_at' hx2
          rw [List.getElem?_map, ho] at hv2
          obtain rfl := Option.some.inj hv2
          refine ⟨_, rfl, _, rfl, (by show 2 ≤ sizeLine; decide), fun q hq => ?_⟩
          have s8 : Same H7 _ := same_upd (o := .tup [V.str o, V.str y]) hq
          have q8 : upd H7 q (.tup [V.str o, V.str y]) q = some (.tup (([o, y] : List Str).map V.str)) := upd_same
          generalize upd H7 q (.tup [V.str o, V.str y]) = H8 at s8 q8
          have s78 := s7.trans s8
          have oso : ∀ z ∈ ([o, y] : List Str), PyData.strOk z = true := fun z hz => by
            simp only [List.mem_cons, List.not_mem_nil, or_false] at hz
            rcases hz with rfl | rfl
            · exact zso _ (List.mem_of_getElem? ho)
            · exact zso _ yin
          have eso : ∀ z ∈ (ents A).map (fun e => [e.1, e.2]), ∀ t ∈ z, PyData.strOk t = true := fun z hz t ht => by
            obtain ⟨e', he', rfl⟩ := List.mem_map.mp hz
            simp only [List.mem_cons, List.not_mem_nil, or_false] at ht
            rcases ht with rfl | rfl
            · exact (ok.so _ he').1
            · exact (ok.so _ he').2
          have shE : SeqAt.shaped (.list (dE A)) = true := by
            have := shp_Ns eso
            rw [List.map_map] at this
            exact this
          refine ⟨_, rfl, dN [o, y], dE A, dp_N q8, .lst (SqL.of (s78 _ _ l6)) (dp_Els (A6.ext s78)), shp_N oso, shE, ?_⟩
          rw [any_dE]
          exact kq _ s8
        · refine ⟨D2, zs.map fun o => bef (ents A) o y, rfl, ?_, _, rfl, ?_⟩
          · rw [List.map_map]
            exact SqL.of e7
          have ea : (zs.map fun o => bef (ents A) o y).any id = zs.any fun o => bef (ents A) o y := by rw [List.any_map] <;> rfl
          rw [ea]
          cases hbf : zs.any fun o => bef (ents A) o y with
          | true =>
            refine iteF ⟨_, _, _, rfl, s5.trans s7, ?_⟩
            rw [List.take_add_one, hy, Option.toList_some, List.filter_append, no, List.filter_cons, hbf] <;> rfl
          | false =>
            refine iteT ?_
            obtain ⟨t, et⟩ := first_free (p := fun y => !(zs.any fun o => bef (ents A) o y)) hy (by rw [hbf]; rfl) no
            obtain ⟨m, y', t', rfl, ef, em⟩ := line_step (E := ents A) hn ne nf
            have ey : y' = y := by
              have : freeN (ents A) zs = y :: t := et
              rw [ef] at this
              exact (List.cons.inj this).1
            obtain ⟨yy, hyy⟩ : ∃ yy, yy = y := ⟨y, rfl⟩
            rw [ey] at em ef
            have s47 := s5.trans s7
            have c7 := s47 _ _ hc4
            have b7 := s47 _ _ hb4
            refine ⟨_, rfl, .inl ⟨rfl, _, SqL.of c7⟩, _, rfl, c, _, _, rfl, rfl, c7, small1000 (by rw [List.length_map]; omega), ?_⟩
            have c8 : upd H7 c (.lst (os.map V.str ++ [V.str y])) c = some (.lst ((os ++ [y]).map V.str)) := by rw [upd_same, List.map_append] <;> rfl
            have b8 : upd H7 c (.lst (os.map V.str ++ [V.str y])) b = some (.lst (zs.map V.str)) := (upd_ne nbc).trans b7
            have s8 : Same H (upd H7 c (.lst (os.map V.str ++ [V.str y]))) := fun x u e => by
              rw [upd_ne (ne_of_none e hcn)]
              exact s47 _ _ (s34 _ _ e)
            generalize upd H7 c (.lst (os.map V.str ++ [V.str y])) = H8 at c8 b8 s8
            refine ⟨_, rfl, b, rfl, ⟨_, SqL.of b8⟩, fun D hD => ?_⟩
            refine lc_it (walk_list (K := K) (a := b) (xs := zs.map V.str)) (fun i H' => Same H8 H' ∧ H' D = some (.lst (((zs.take i).filter fun o => !decide (o = y)).map V.str))) ⟨same_upd hD, by rw [upd_same, List.take_zero] <;> rfl⟩ (fun i H' _ z => SqL.of (z.1 _ _ b8)) (fun i x H9 H9' hi z yy => ?_) (fun H9 z => ?_)
            · obtain ⟨s9, d9⟩ := z
              obtain ⟨rfl, hx⟩ := yy
              obtain ⟨o, ho, rfl⟩ := strs_at' hx
              refine ⟨rfl, _, rfl, _, rfl, rfl, _, rfl, ?_⟩
              have eq : decide (V.str o = V.str y) = decide (o = y) := by
                by_cases h : o = y
                · rw [decide_eq_true h, decide_eq_true (by rw [h])]
                · rw [decide_eq_false h, decide_eq_false fun z => h (V.str.inj z)]
              rw [eq]
              have et : (zs.take (i + 1)).filter (fun o => !decide (o = y)) = (zs.take i).filter (fun o => !decide (o = y)) ++ if o = y then [] else [o] := by
                rw [List.take_add_one, ho, Option.toList_some, List.filter_append]
                congr 1
                by_cases hb : o = y
                · rw [if_pos hb, List.filter_cons, decide_eq_true hb] <;> rfl
                · rw [if_neg hb, List.filter_cons, decide_eq_false hb] <;> rfl
              by_cases hb : o = y
              · rw [decide_eq_true hb]
                refine iteF ⟨s9, ?_⟩
                rw [et, if_pos hb, List.append_nil]
                exact d9
              · rw [decide_eq_false hb]
                refine iteT ⟨_, rfl, _, d9, small1000 ?_, fun b' u e => ?_, ?_⟩
                · rw [List.length_map]
                  have f1 := List.length_filter_le (fun o => !decide (o = y)) (zs.take i)
                  rw [List.length_take] at f1
                  omega
                · rw [upd_ne (ne_of_none e hD)]
                  exact s9 _ _ e
                · rw [upd_same, et, if_neg hb, List.map_append] <;> rfl
            · obtain ⟨s9, d9⟩ := z
              rw [hm, List.take_length] at d9
              have wl := without_lt yin
              refine ⟨⟨D, withoutN zs y, os ++ [y], m, _, _, _, rfl, s8.trans s9, fun q => ?_, d9, s9 _ _ c8, by omega, by rw [List.length_append, List.length_singleton]; omega, fun z hz => sub z (without_sub hz).1, by rw [← eo, em, List.append_assoc] <;> rfl⟩, ?_⟩
              · rw [q, c8] at hD
                cases hD
              · show (match H9 D with | some (.lst xs) => xs.length | _ => 0) < (match H3 b with | some (.lst xs) => xs.length | _ => 0)
                rw [d9, hb]
                show (List.map _ _).length < (List.map _ _).length
                rw [List.length_map, List.length_map]
                exact wl
      · obtain ⟨f5, g5, h5, rfl, s5, no⟩ := inv
        rw [hm, List.take_length] at no
        exact absurd no nf
end
end OP
namespace OP
open PySem PySem.Spec PyProof.Rows GenW L2
/-- one of two readings -/
theorem pe_orE {X : Cx} {e : Expr} {t t2 : TE} (h : PE X e t) (h2 : PE X e t2) : PE X e (fun σ H Q => t σ H Q ∨ t2 σ H Q) := ⟨fun ps s σ H Q I q => q.elim (h.run ps s σ H Q I) (h2.run ps s σ H Q I)⟩
theorem without_len : ∀ {ys : List Str} {y : Str}, ys.Nodup → y ∈ ys → (withoutN ys y).length + 1 = ys.length
  | [], _, _, h => (by cases h)
  | z :: ys, y, nd, h => by
    obtain ⟨n1, n2⟩ := List.nodup_cons.mp nd
    by_cases e : z = y
    · subst e
      have keep : withoutN ys z = ys := List.filter_eq_self.mpr fun o ho => by
        have : o ≠ z := fun q => n1 (by rw [← q]; exact ho)
        simp [this]
      have : withoutN (z :: ys) z = withoutN ys z := by
        unfold withoutN
        rw [List.filter_cons, if_neg (by simp)]
      rw [this, keep] <;> rfl
    · have hm : y ∈ ys := (List.mem_cons.mp h).elim (fun q => absurd q.symm e) id
      have : withoutN (z :: ys) y = z :: withoutN ys y := by
        unfold withoutN
        rw [List.filter_cons, if_pos (by simp [e])]
      rw [this, List.length_cons, List.length_cons, without_len n2 hm]
/-- the line has all names -/
theorem line_full {E : Ents} : ∀ (n : Nat) {ys : List Str}, ys.Nodup → ys.length ≤ n → (∀ zs : List Str, (∀ z ∈ zs, z ∈ ys) → zs ≠ [] → freeN E zs ≠ []) → (lineN E n ys).length = ys.length
  | 0, ys, _, h, _ => by
    obtain rfl := List.length_eq_zero_iff.mp (Nat.le_zero.mp h)
    rfl
  | n + 1, ys, nd, h, fr => by
    by_cases ne : ys = []
    · subst ne
      rfl
    · obtain ⟨m, y, t, e, ef, em⟩ := line_step (E := E) h ne (fr ys (fun _ z => z) ne)
      obtain rfl : m = n := by omega
      have yin : y ∈ ys := free_mem (E := E) (by rw [ef]; exact List.mem_cons_self)
      have wl := without_len nd yin
      have wn : (withoutN ys y).Nodup := List.Nodup.sublist List.filter_sublist nd
      have ih := line_full (E := E) m (ys := withoutN ys y) wn (by omega) fun zs hz => fr zs fun z q => (without_sub (hz z q)).1
      rw [em, List.length_cons, ih]
      exact wl
end OP
namespace OP
open PySem PySem.Spec PyProof.Rows GenW L2
/-! ### all orders of some names, and those that the entries allow -/
def stepN (ss : List Str) (found : List (List Str)) : List (List Str) := found.flatMap fun o => (ss.filter fun y => !decide (y ∈ o)).map fun y => o ++ [y]
def permsN (ss : List Str) : Nat → List (List Str)
  | 0 => [[]]
  | n + 1 => stepN ss (permsN ss n)
def bothIn (o : List Str) (e : Str × Str) : Bool := decide (e.1 ∈ o) && decide (e.2 ∈ o)
def fitN (E : Ents) (o : List Str) : Bool := !((E.filter (bothIn o)).any fun e => decide (o.idxOf e.2 < o.idxOf e.1))
def ordersN (E : Ents) (ss : List Str) : List (List Str) := (permsN ss ss.length).filter (fitN E)
theorem nodup_snoc {p : List Str} {y : Str} (h : p.Nodup) (n : y ∉ p) : (p ++ [y]).Nodup := by
  rw [List.nodup_append]
  exact ⟨h, List.nodup_cons.mpr ⟨fun z => (by cases z), List.nodup_nil⟩, fun a ha b hb z => n (by rw [← List.mem_singleton.mp hb, ← z]; exact ha)⟩
theorem perms_mem {ss : List Str} : ∀ (n : Nat) (o : List Str), o ∈ permsN ss n ↔ o.Nodup ∧ o.length = n ∧ ∀ y ∈ o, y ∈ ss
  | 0, o => by
    constructor
    · intro h
      obtain rfl := List.mem_singleton.mp h
      exact ⟨List.nodup_nil, rfl, fun y h => (by cases h)⟩
    · intro h
      rw [List.length_eq_zero_iff.mp h.2.1]
      exact List.mem_singleton.mpr rfl
  | n + 1, o => by
    constructor
    · intro h
      obtain ⟨p, hp, h2⟩ := List.mem_flatMap.mp h
      obtain ⟨y, hy, rfl⟩ := List.mem_map.mp h2
      obtain ⟨i1, i2, i3⟩ := (perms_mem n p).mp hp
      obtain ⟨y1, y2⟩ := List.mem_filter.mp hy
      have y3 : y ∉ p := by simpa using y2
      refine ⟨nodup_snoc i1 y3, by rw [List.length_append, i2] <;> rfl, fun z hz => ?_⟩
      rcases List.mem_append.mp hz with z1 | z1
      · exact i3 z z1
      · rw [List.mem_singleton.mp z1]
        exact y1
    · rintro ⟨h1, h2, h3⟩
      obtain ⟨p, y, rfl⟩ : ∃ p y, o = p ++ [y] := by
        have ne : o ≠ [] := fun z => by rw [z] at h2; cases h2
        exact ⟨o.dropLast, o.getLast ne, (List.dropLast_concat_getLast ne).symm⟩
      obtain ⟨n1, n2, n3⟩ := List.nodup_append.mp h1
      refine List.mem_flatMap.mpr ⟨p, (perms_mem n p).mpr ⟨n1, ?_, fun z hz => h3 z (List.mem_append_left _ hz)⟩, List.mem_map.mpr ⟨y, List.mem_filter.mpr ⟨h3 y (List.mem_append_right _ (List.mem_singleton.mpr rfl)), ?_⟩, rfl⟩⟩
      · rw [List.length_append, List.length_singleton] at h2
        omega
      · have : y ∉ p := fun z => n3 y z y (List.mem_singleton.mpr rfl) rfl
        simp [this]
theorem step_len {ss : List Str} (h : ss.length ≤ 4) : ∀ found : List (List Str), (stepN ss found).length ≤ found.length * 4
  | [] => Nat.zero_le _
  | o :: found => by
    have ih := step_len h found
    show (((ss.filter fun y => !decide (y ∈ o)).map fun y => o ++ [y]) ++ stepN ss found).length ≤ _
    rw [List.length_append, List.length_map, List.length_cons]
    have := List.length_filter_le (fun y => !decide (y ∈ o)) ss
    omega
theorem perms_len {ss : List Str} (h : ss.length ≤ 4) : ∀ n : Nat, (permsN ss n).length ≤ 4 ^ n
  | 0 => Nat.le_refl _
  | n + 1 => by
    have i1 := perms_len h n
    have i2 := step_len h (permsN ss n)
    show (stepN ss (permsN ss n)).length ≤ _
    rw [Nat.pow_succ]
    omega
theorem perms_256 {ss : List Str} (h : ss.length ≤ 4) {n : Nat} (hn : n ≤ 4) : (permsN ss n).length ≤ 256 :=
  Nat.le_trans (perms_len h n) (Nat.le_trans (Nat.pow_le_pow_right (by decide) hn) (by decide))
theorem step_snoc (ss : List Str) (found : List (List Str)) (o : List Str) : stepN ss (found ++ [o]) = stepN ss found ++ (ss.filter fun y => !decide (y ∈ o)).map fun y => o ++ [y] := by
  unfold stepN
  rw [List.flatMap_append, List.flatMap_singleton]
theorem idx_cons_ne {y z : Str} {o : List Str} (h : z ≠ y) : (z :: o).idxOf y = o.idxOf y + 1 := by
  rw [List.idxOf_cons, show (z == y) = false from beq_eq_false_iff_ne.mpr h] <;> rfl
theorem idx_cons_eq {y : Str} {o : List Str} : (y :: o).idxOf y = 0 := by
  rw [List.idxOf_cons, beq_self_eq_true] <;> rfl
/-- the line keeps the entries -/
theorem line_keeps (E : Ents) : ∀ (n : Nat) (ys : List Str) (e : Str × Str), e ∈ E → e.1 ∈ lineN E n ys → e.2 ∈ lineN E n ys → ¬ (lineN E n ys).idxOf e.2 < (lineN E n ys).idxOf e.1
  | 0, _, _, _, h, _ => (by cases h)
  | n + 1, ys, e, he, h1, h2 => by
    have eq : lineN E (n + 1) ys = (match freeN E ys with | [] => [] | y :: _ => y :: lineN E n (withoutN ys y)) := rfl
    rw [eq] at h1 h2 ⊢
    cases ef : freeN E ys with
    | nil => rw [ef] at h1; cases h1
    | cons y t =>
      rw [ef] at h1 h2
      dsimp only at h1 h2 ⊢
      have hy : y ∈ freeN E ys := by rw [ef]; exact List.mem_cons_self
      have fr := (free_iff.mp hy).2
      have in1 : e.1 ∈ ys := (List.mem_cons.mp h1).elim (fun q => by rw [q]; exact (free_iff.mp hy).1) fun q => (without_sub (line_mem E n _ q)).1
      have ne2 : e.2 ≠ y := fun z => by
        have := fr e.1 in1
        unfold bef at this
        rw [← z] at this
        simp [he] at this
      have h2' : e.2 ∈ lineN E n (withoutN ys y) := (List.mem_cons.mp h2).resolve_left ne2
      by_cases e1 : e.1 = y
      · rw [e1, idx_cons_eq]
        exact Nat.not_lt_zero _
      · have h1' := (List.mem_cons.mp h1).resolve_left e1
        rw [idx_cons_ne (Ne.symm e1), idx_cons_ne (Ne.symm ne2)]
        have := line_keeps E n _ e he h1' h2'
        omega
theorem fit_iff {E : Ents} {o : List Str} : fitN E o = true ↔ ∀ e ∈ E, e.1 ∈ o → e.2 ∈ o → ¬ o.idxOf e.2 < o.idxOf e.1 := by
  unfold fitN
  rw [Bool.not_eq_true', List.any_eq_false]
  constructor
  · intro h e he h1 h2 lt
    exact h e (List.mem_filter.mpr ⟨he, by unfold bothIn; rw [decide_eq_true h1, decide_eq_true h2]; rfl⟩) (decide_eq_true lt)
  · intro h e he lt
    obtain ⟨h1, h2⟩ := List.mem_filter.mp he
    unfold bothIn at h2
    rw [Bool.and_eq_true] at h2
    exact h e h1 (of_decide_eq_true h2.1) (of_decide_eq_true h2.2) (of_decide_eq_true lt)
theorem line_order {E : Ents} {ys ss : List Str} (nd : ys.Nodup) (h4 : ys.length ≤ 4) (fr : ∀ zs : List Str, (∀ z ∈ zs, z ∈ ys) → zs ≠ [] → freeN E zs ≠ []) (hl : ys.length = ss.length) (hs : ∀ y ∈ ys, y ∈ ss) : lineN E 4 ys ∈ ordersN E ss :=
  List.mem_filter.mpr ⟨(perms_mem _ _).mpr ⟨line_nd E 4 ys, (line_full 4 nd h4 fr).trans hl, fun y hy => hs y (line_mem E 4 ys hy)⟩, fit_iff.mpr (line_keeps E 4 ys)⟩
theorem nodup_sup {o ns : List Str} (nd : o.Nodup) (sub : ∀ y ∈ o, y ∈ ns) (hl : o.length = ns.length) : ∀ y ∈ ns, y ∈ o := fun y hy => by
  by_cases h : y ∈ o
  · exact h
  · have := nodup_len (xs := y :: o) (ys := ns) (List.nodup_cons.mpr ⟨h, nd⟩) fun x hx => (List.mem_cons.mp hx).elim (fun q => by rw [q]; exact hy) (sub x)
    rw [List.length_cons] at this
    omega
theorem least {f : Str → Nat} : ∀ zs : List Str, zs ≠ [] → ∃ y ∈ zs, ∀ z ∈ zs, f y ≤ f z
  | [], h => (h rfl).elim
  | [y], _ => ⟨y, List.mem_singleton.mpr rfl, fun z hz => by rw [List.mem_singleton.mp hz]; exact Nat.le_refl _⟩
  | y :: z :: zs, _ => by
    obtain ⟨x, hx, mx⟩ := least (f := f) (z :: zs) (List.cons_ne_nil _ _)
    by_cases h : f y ≤ f x
    · refine ⟨y, List.mem_cons_self, fun w hw => ?_⟩
      rcases List.mem_cons.mp hw with q | q
      · rw [q]; exact Nat.le_refl _
      · exact Nat.le_trans h (mx w q)
    · refine ⟨x, List.mem_cons_of_mem _ hx, fun w hw => ?_⟩
      rcases List.mem_cons.mp hw with q | q
      · rw [q]; omega
      · exact mx w q
/-- where some order keeps all entries there is no cycle -/
theorem orders_free {E : Ents} {ns : List Str} (hne : ordersN E ns ≠ []) (hd : ∀ e ∈ E, e.1 ≠ e.2) : ∀ zs : List Str, (∀ z ∈ zs, z ∈ ns) → zs ≠ [] → freeN E zs ≠ [] := fun zs sub ne => by
  obtain ⟨o, ho⟩ := List.exists_mem_of_ne_nil _ hne
  obtain ⟨h1, h2⟩ := List.mem_filter.mp ho
  obtain ⟨nd, hl, mem⟩ := (perms_mem _ _).mp h1
  have ft := fit_iff.mp h2
  have all := nodup_sup nd mem hl
  obtain ⟨y, hy, my⟩ := least (f := fun z => o.idxOf z) zs ne
  have : y ∈ freeN E zs := free_iff.mpr ⟨hy, fun p hp => by
    by_cases hb : (p, y) ∈ E
    · have i1 := all p (sub p hp)
      have i2 := all y (sub y hy)
      have f1 := ft _ hb i1 i2
      have f2 := my p hp
      have e1 : o.idxOf y = o.idxOf p := by
        have f1 : ¬ o.idxOf y < o.idxOf p := f1
        omega
      have l1 := List.idxOf_lt_length_of_mem i1
      have l2 := List.idxOf_lt_length_of_mem i2
      have g1 := List.getElem_idxOf l1
      have g2 := List.getElem_idxOf l2
      have : p = y := by
        rw [← g1, ← g2]
        congr 1
        exact e1.symm
      exact absurd this (hd _ hb)
    · unfold bef
      rw [decide_eq_false hb]⟩
  exact fun z => by rw [z] at this; cases this
theorem cyc_free {E : Ents} {ns : List Str} (fr : ∀ zs : List Str, (∀ z ∈ zs, z ∈ ns) → zs ≠ [] → freeN E zs ≠ []) : ∀ (n : Nat) (ys : List Str), (∀ y ∈ ys, y ∈ ns) → cyc E n ys = false
  | 0, _, _ => rfl
  | n + 1, ys, sub => by
    show (if ys = [] then false else if freeN E ys = [] then true else cyc E n (ys.filter fun y => !decide (y ∈ freeN E ys))) = false
    by_cases e : ys = []
    · rw [if_pos e]
    · rw [if_neg e, if_neg (fr ys sub e)]
      exact cyc_free fr n _ fun y hy => sub y (List.mem_filter.mp hy).1
section
variable {E E' : Ents} (h : ∀ e, e ∈ E ↔ e ∈ E')
include h
theorem bef_cong (o y : Str) : bef E o y = bef E' o y := decide_eq_decide.mpr (h _)
theorem free_cong (ys : List Str) : freeN E ys = freeN E' ys := by
  unfold freeN
  simp only [bef_cong h]
theorem line_cong : ∀ (n : Nat) (ys : List Str), lineN E n ys = lineN E' n ys
  | 0, _ => rfl
  | n + 1, ys => by
    show (match freeN E ys with | [] => [] | y :: _ => y :: lineN E n (withoutN ys y)) = (match freeN E' ys with | [] => [] | y :: _ => y :: lineN E' n (withoutN ys y))
    rw [free_cong h]
    cases freeN E' ys with
    | nil => rfl
    | cons y t =>
      dsimp only
      rw [line_cong n]
theorem workR_cong : ∀ ys : List Str, workR E ys = workR E' ys
  | [] => rfl
  | y :: r => by
    unfold workR
    rw [workR_cong r, line_cong h, line_cong h]
theorem work_cong (ys : List Str) : workN E ys = workN E' ys := workR_cong h _
theorem cyc_cong : ∀ (n : Nat) (ys : List Str), cyc E n ys = cyc E' n ys
  | 0, _ => rfl
  | n + 1, ys => by
    show (if ys = [] then false else if freeN E ys = [] then true else cyc E n (ys.filter fun y => !decide (y ∈ freeN E ys))) = (if ys = [] then false else if freeN E' ys = [] then true else cyc E' n (ys.filter fun y => !decide (y ∈ freeN E' ys)))
    rw [free_cong h, cyc_cong n]
end
theorem mem_rev {E : Ents} (e : Str × Str) : e ∈ E.reverse ↔ e ∈ E := List.mem_reverse
theorem PolOk.rev {E : Ents} {ns : List Str} (h : PolOk E ns) : PolOk E.reverse ns := ⟨fun e he => h.mem e (List.mem_reverse.mp he), (cyc_cong mem_rev 4 ns).trans h.acyc, by rw [List.length_reverse]; exact h.few⟩
theorem every_eq {m : Nat} (h2 : 2 ≤ m) (h3 : m < 4) : allowN [] 4 (allNames.take m) = ordersN [] (allNames.take m) := by
  have : m = 2 ∨ m = 3 := by omega
  rcases this with rfl | rfl
  · decide +kernel
  · decide +kernel
theorem line_none {E : Ents} {ys : List Str} : lineN E 4 ys = [] → ys.length ≤ 4 → (∀ zs : List Str, (∀ z ∈ zs, z ∈ ys) → zs ≠ [] → freeN E zs ≠ []) → ys = [] := fun h h4 fr => by
  by_cases ne : ys = []
  · exact ne
  · obtain ⟨m, y, t, e, ef, em⟩ := line_step (E := E) h4 ne (fr ys (fun _ z => z) ne)
    rw [em] at h
    cases h
/-- the line holds just the names -/
theorem line_has {E : Ents} {ys : List Str} (nd : ys.Nodup) (h4 : ys.length ≤ 4) (fr : ∀ zs : List Str, (∀ z ∈ zs, z ∈ ys) → zs ≠ [] → freeN E zs ≠ []) {y : Str} : y ∈ lineN E 4 ys ↔ y ∈ ys :=
  ⟨fun h => line_mem E 4 ys h, nodup_sup (line_nd E 4 ys) (fun z hz => line_mem E 4 ys hz) (line_full 4 nd h4 fr) y⟩
end OP
namespace OP
open PySem PySem.Spec PyProof.Rows L2 LamX
/-- the place of the first of the largest -/
def TopAt (kf : Nat → Int) (n i : Nat) : Prop := ∀ j, j < n → kf i ≥ kf j ∧ (j < i → kf i > kf j)
section
variable {X : Cx} {pins : List (Addr × Obj)} {σ : L2.St} {H : Hp} {s : Shared}
theorem swap_pin {p q : Addr × Obj} (I : Inv X (p :: q :: pins) σ H s) : Inv X (q :: p :: pins) σ H s := I.pins_of fun r hr => I.pin r (List.mem_append_right _ (by
  rcases List.mem_cons.mp hr with e | e
  · rw [e]; exact List.mem_cons_of_mem _ List.mem_cons_self
  · rcases List.mem_cons.mp e with e | e
    · rw [e]; exact List.mem_cons_self
    · exact List.mem_cons_of_mem _ (List.mem_cons_of_mem _ e)))
/-- an address of the call's own, apart from the frame's -/
structure Young (X : Cx) (pins : List (Addr × Obj)) (q : Addr) : Prop where
  sz : X.s_0.heap.objs.size ≤ q
  cl : ∀ x c, X.env.cells.lookup x = some c → c ≠ q
  pn : ∀ p ∈ X.pn ++ pins, p.1 ≠ q
theorem Young.cons {p : Addr × Obj} {q : Addr} (y : Young X pins q) (h : p.1 ≠ q) : Young X (p :: pins) q := ⟨y.sz, y.cl, fun r hr => by
  rcases List.mem_append.mp hr with z | z
  · exact y.pn r (List.mem_append_left _ z)
  · rcases List.mem_cons.mp z with z | z
    · rw [z]; exact h
    · exact y.pn r (List.mem_append_right _ z)⟩
/-- the turns behind the first -/
theorem max_turns {l f It S : Addr} {fo : Obj} {xs : List V} {R : Result → Shared → Prop} (kf : Nat → Int) (hh : X.A.handled = none) (hlI : l ≠ It) (hSI : S ≠ It) (hfo : (f, fo) ∈ pins) (yI : Young X pins It) (yS : Young X pins S) (hx : SqL X.K H l xs)
    (turn : ∀ (i : Nat) (x : V) (u : Value) (pins' : List (Addr × Obj)) (H' : Hp) (s' : Shared), xs[i]? = some x → Same H H' → Inv X pins' σ H' s' → (f, fo) ∈ pins' → RelV x u →
      wpAny (model X.prog X.w) X.A.in1 (call (.ref f) [u]) (EP X pins' σ fun y H2 => Same H' H2 ∧ y = .int (kf i)) (fun _ _ => False) s')
    (hR : ∀ (i : Nat) (x : V) (u : Value) (H' : Hp) (s' : Shared), xs[i]? = some x → RelV x u → TopAt kf xs.length i → Same H H' → Inv X pins σ H' s' → R (.ok (.ret u)) s') :
    ∀ (r j i : Nat) (H1 : Hp) (s1 : Shared) (xb : V) (ub : Value) (tb : Tok) (c : Nat) (oI : Obj), xs.length - (j + 1) = r → j + 1 ≤ xs.length → Same H H1 → Inv X ((It, oI) :: (S, seqObj "list" #[ub, .int (kf i) tb] c) :: pins) σ H1 s1 → s1.heap.IsListIter It l (j + 1) →
      xs[i]? = some xb → RelV xb ub → i ≤ j → (∀ j', j' ≤ j → kf i ≥ kf j' ∧ (j' < i → kf i > kf j')) → codeAny (model X.prog X.w) X.A (.builtin "max.loop" ⟨[.ref It, .ref f, .ref S], []⟩) R s1 := by
  have nm : (toString "max" ++ toString ".loop" : String) = "max.loop" := by decide
  intro r
  induction r with
  | zero =>
    intro j i H1 s1 xb ub tb c oI hr hj sm J hit hxb rb hij best
    have full : j + 1 = xs.length := by omega
    have J1 := swap_pin J
    have gS := ClX.pin_at J1
    obtain ⟨its, rv, hl, hz⟩ := J.list (sm.seq hx)
    have W := Walks.list (prog := X.prog) (w := X.w) (A := X.A.in1) hh It l hlI its.toArray
    have isz : its.toArray.size = xs.length := by rw [List.size_toArray, rv.length]
    refine codeAny_builtin PySem.F.entry_max_loop ?_
    rw [Around.under_plainId PySem.F.plain_max_loop _]
    show wpAny _ _ (seqItems? (.ref S) >>= _) _ _ _
    refine wpAny_bind (wpAny_seqItems gS rfl ?_)
    show wpAny _ _ (tryCatch (pyNext (.ref It)) _ >>= _) _ _ _
    refine wpAny_bind (wpAny_tryCatch (W.done _ _ _ ⟨by rw [isz, ← full]; exact hit, hl.isList⟩ fun h2 t2 hk => ?_))
    obtain ⟨_, n0, nl, nf, _⟩ := J.pin (It, oI) (List.mem_append_right _ List.mem_cons_self)
    have yI2 := yI.cons (p := (S, seqObj "list" #[ub, .int (kf i) tb] c)) hSI
    have J2 : Inv X ((S, seqObj "list" #[ub, .int (kf i) tb] c) :: pins) σ H1 { s1 with heap := h2, toks := t2 } := (ClX.unpin J).turned (fun b o hb e => hk b o (fun z => hb (List.mem_singleton.mp z)) e) n0 nl (.inr yI2.sz) yI2.cl yI2.pn
    have gS2 := ClX.pin_at J2
    obtain ⟨_, m0, ml, mf, _⟩ := J2.pin (S, seqObj "list" #[ub, .int (kf i) tb] c) (List.mem_append_right _ List.mem_cons_self)
    show wpAny _ _ (updateSeq S (fun _ => #[]) >>= _) _ _ _
    refine wpAny_bind (wpAny_updateSeq gS2 rfl (wpAny_bind (wpAny_letGo (wpAny_pure ?_))))
    have J3 : Inv X pins σ H1 { s1 with heap := h2.update S (Obj.mapSeq fun _ => (#[] : Array Value)), toks := t2 } := (ClX.unpin J2).turned (fun b o hb e => (Heap.get?_update_other _ _ (Ne.symm hb)).trans e) m0 ml (.inr yS.sz) yS.cl yS.pn
    exact hR i xb ub _ _ hxb rb (fun j' hj' => best j' (by omega)) sm J3
  | succ r ih =>
    intro j i H1 s1 xb ub tb c oI hr hj sm J hit hxb rb hij best
    have lt : j + 1 < xs.length := by omega
    have gS := ClX.pin_at (swap_pin J)
    obtain ⟨its, rv, hl, hz⟩ := J.list (sm.seq hx)
    have W := Walks.list (prog := X.prog) (w := X.w) (A := X.A.in1) hh It l hlI its.toArray
    have isz : its.toArray.size = xs.length := by rw [List.size_toArray, rv.length]
    refine codeAny_builtin PySem.F.entry_max_loop ?_
    rw [Around.under_plainId PySem.F.plain_max_loop _]
    show wpAny _ _ (seqItems? (.ref S) >>= _) _ _ _
    refine wpAny_bind (wpAny_seqItems gS rfl ?_)
    show wpAny _ _ (tryCatch (pyNext (.ref It)) _ >>= _) _ _ _
    refine wpAny_bind (wpAny_tryCatch (W.item (j + 1) _ _ _ (by rw [isz]; exact lt) ⟨hit, hl.isList⟩ fun u h2 t2 hP st2 hk => ?_))
    have hu : its[j + 1]? = some u := by simpa using hP
    obtain ⟨x, hxj, rx⟩ : ∃ x, xs[j + 1]? = some x ∧ RelV x u := by
      obtain ⟨u', e1, e2⟩ := rv.get (List.getElem?_eq_getElem lt)
      rw [hu] at e1
      cases e1
      exact ⟨_, List.getElem?_eq_getElem lt, e2⟩
    obtain ⟨oI2, gI2, hoc, hod⟩ := id st2.1
    have yI2 := yI.cons (p := (S, seqObj "list" #[ub, .int (kf i) tb] c)) hSI
    have J2 := repin (t2 := t2) (h2 := h2) J (fun b o hb e => hk b o (fun z => hb (List.mem_singleton.mp z)) e) gI2 (fun v q => by rw [hod] at q; cases q) yI2.sz yI2.cl yI2.pn
    show wpAny _ _ (tryCatch (holding [u] (call (.ref f) [u])) _ >>= _) _ _ _
    refine wpAny_bind (wpAny_tryCatch (wpAny_holding (wpAny_mono (turn (j + 1) x u _ H1 _ hxj sm J2 (List.mem_cons_of_mem _ (List.mem_cons_of_mem _ hfo)) rx) (fun k s3 hk3 => ?_) fun _ _ z => z.elim)))
    obtain ⟨y, H3, J3, ry, s13, ey⟩ := hk3
    subst ey
    obtain ⟨t3, rfl⟩ : ∃ t, k = .int (kf (j + 1)) t := ry
    have gI3 := ClX.pin_at J3
    have gS3 := ClX.pin_at (swap_pin J3)
    have hit3 : s3.heap.IsListIter It l (j + 1 + 1) := ⟨oI2, gI3, hoc, hod⟩
    show wpAny _ _ (tryCatch (holding [u, .int (kf (j + 1)) t3] (richCompare .Gt (.int (kf (j + 1)) t3) (.int (kf i) tb) >>= _)) _ >>= _) _ _ _
    refine wpAny_bind (wpAny_tryCatch (wpAny_holding (wpAny_bind (CmpOf.ints_gt (prog := X.prog) (w := X.w) (A := X.A.in1) (P := fun i v => ∃ t, v = .int (kf i) t) kf (fun _ _ z => z) (j + 1) i _ _ _ _ _ ⟨t3, rfl⟩ ⟨tb, rfl⟩ ?_))))
    refine wpAny_bind (wpAny_holding (wpAny_truthy_bool ?_))
    refine wpAny_bind (wpAny_letGo (wpAny_pure ?_))
    by_cases gt : kf (j + 1) > kf i
    · obtain ⟨c2, hc2⟩ : ∃ c2, (s3.heap.update S (Obj.mapSeq fun _ => #[u, .int (kf (j + 1)) t3])).get? S = some (seqObj "list" #[u, .int (kf (j + 1)) t3] c2) := ⟨_, get?_update_seq gS3 fun _ => #[u, .int (kf (j + 1)) t3]⟩
      simp only [gt, decide_true, if_true]
      refine wpAny_bind (wpAny_updateSeq gS3 rfl (wpAny_bind (wpAny_letGo ?_)))
      rw [nm]
      have J4 := swap_pin (repin (t2 := s3.toks) (h2 := s3.heap.update S (Obj.mapSeq fun _ => #[u, .int (kf (j + 1)) t3])) (swap_pin J3) (fun b o hb e => (Heap.get?_update_other _ _ (Ne.symm hb)).trans e) hc2 (fun v q => by cases q) yS.sz yS.cl (yS.cons (p := (It, oI2)) hSI.symm).pn)
      refine wpAny_pure ⟨plainId_quiet PySem.F.plain_max_loop _, ih (j + 1) (j + 1) H3 _ x u t3 c2 oI2 (by omega) lt (sm.trans s13) J4 ⟨oI2, (Heap.get?_update_other _ _ hSI).trans gI3, hoc, hod⟩ hxj rx (Nat.le_refl _) fun j' hj' => ?_⟩
      by_cases e : j' = j + 1
      · subst e
        exact ⟨by omega, fun _ => by omega⟩
      · have b1 := (best j' (by omega)).1
        exact ⟨by omega, fun _ => by omega⟩
    · simp only [gt, decide_false, Bool.false_eq_true, if_false]
      refine wpAny_bind (wpAny_letGo ?_)
      rw [nm]
      refine wpAny_pure ⟨plainId_quiet PySem.F.plain_max_loop _, ih (j + 1) i H3 _ xb ub tb c oI2 (by omega) lt (sm.trans s13) J3 hit3 hxb rb (by omega) fun j' hj' => ?_⟩
      by_cases e : j' = j + 1
      · subst e
        exact ⟨by omega, fun _ => by omega⟩
      · exact best j' (by omega)
/-- max(xs, key=f) -/
theorem max_by {l f : Addr} {fo : Obj} {xs : List V} {Q : VK} {E : Value → Shared → Prop} (kf : Nat → Int) (I : Inv X pins σ H s) (hh : X.A.handled = none) (hx : SqL X.K H l xs) (ne : 0 < xs.length) (hfo : (f, fo) ∈ pins)
    (turn : ∀ (i : Nat) (x : V) (u : Value) (pins' : List (Addr × Obj)) (H' : Hp) (s' : Shared), xs[i]? = some x → Same H H' → Inv X pins' σ H' s' → (f, fo) ∈ pins' → RelV x u →
      wpAny (model X.prog X.w) X.A.in1 (call (.ref f) [u]) (EP X pins' σ fun y H2 => Same H' H2 ∧ y = .int (kf i)) (fun _ _ => False) s')
    (h : ∀ i x H', xs[i]? = some x → TopAt kf xs.length i → Same H H' → Q x H') :
    wpAny (model X.prog X.w) X.A (call (.builtin "max") [.ref l] [(Str.ofString "key", .ref f)]) (EP X pins σ Q) E s := by
  have nm : (toString "max" ++ toString ".loop" : String) = "max.loop" := by decide
  obtain ⟨its, rv, hl, hz⟩ := I.list hx
  obtain ⟨ol, hol, _⟩ := id hl.isList
  have hll : l < s.heap.objs.size := Heap.lt_size hol
  refine kmk_tree PySem.F.kind_max PySem.F.plain_max PySem.F.entry_max (kmk_max_key _ _) ?_
  show wpAny _ _ (Builtin.Builtins.bindParams "max" ["key", "default"] 0 ⟨[], [(Str.ofString "key", .ref f)]⟩ >>= _) _ _ s
  refine wpAny_bind (wpAny_of_eq (show Builtin.Builtins.bindParams "max" ["key", "default"] 0 ⟨[], [(Str.ofString "key", .ref f)]⟩ = pure [some (.ref f), none] from rfl) ?_)
  refine wpAny_bind (wpAny_pure ?_)
  refine wpAny_bind (wpAny_pyIter_list hl.isList ?_)
  refine wpAny_bind (wpAny_newList ?_ (Nat.zero_le _))
  rw [nm]
  refine wpAny_pure ⟨plainId_quiet PySem.F.plain_max_loop _, ?_⟩
  have eS : (s.heap.push { cls := .type "list_iterator", data := .fields #[.ref l, .int 0 0] }).objs.size = s.heap.objs.size + 1 := size_push' ..
  have gI : ((s.heap.push { cls := .type "list_iterator", data := .fields #[.ref l, .int 0 0] }).push (seqObj "list" #[] 0)).get? s.heap.objs.size = some { cls := .type "list_iterator", data := .fields #[.ref l, .int 0 0] } := Heap.get?_push_of_some _ (Heap.get?_push_size _ rfl)
  have gS : ((s.heap.push { cls := .type "list_iterator", data := .fields #[.ref l, .int 0 0] }).push (seqObj "list" #[] 0)).get? (s.heap.objs.size + 1) = some (seqObj "list" #[] 0) := by rw [← eS]; exact Heap.get?_push_size _ rfl
  have old : ∀ b o, s.heap.get? b = some o → ((s.heap.push { cls := .type "list_iterator", data := .fields #[.ref l, .int 0 0] }).push (seqObj "list" #[] 0)).get? b = some o := fun b o e => Heap.get?_push_of_some _ (Heap.get?_push_of_some _ e)
  have yng : ∀ q : Addr, s.heap.objs.size ≤ q → Young X pins q := fun q hq => ⟨Nat.le_trans I.sz hq, fun x c e z => by
      obtain ⟨v, q2⟩ := I.cell x c e
      exact Nat.lt_irrefl _ (Nat.lt_of_lt_of_le q2.lt (z ▸ hq)), fun p hp z => Nat.lt_irrefl _ (Nat.lt_of_lt_of_le (Heap.lt_size (I.pin p hp).1) (z ▸ hq))⟩
  have yI := yng s.heap.objs.size (Nat.le_refl _)
  have yS := yng (s.heap.objs.size + 1) (Nat.le_succ _)
  have hlI : l ≠ s.heap.objs.size := Nat.ne_of_lt hll
  have hSI : s.heap.objs.size + 1 ≠ s.heap.objs.size := Nat.succ_ne_self _
  have J0 := ClX.pin_new (t' := s.toks) I old (Nat.le_succ s.heap.objs.size) gS (fun v q => by cases q)
  have J1 : Inv X ((s.heap.objs.size, { cls := .type "list_iterator", data := .fields #[.ref l, .int 0 0] }) :: (s.heap.objs.size + 1, seqObj "list" #[] 0) :: pins) σ H { s with heap := (s.heap.push { cls := .type "list_iterator", data := .fields #[.ref l, .int 0 0] }).push (seqObj "list" #[] 0), toks := s.toks } := by
    refine J0.pins_of fun p hp => ?_
    rcases List.mem_cons.mp hp with e | e
    · rw [e]
      exact ⟨gI, I.hok.fresh (Nat.le_refl _), Nat.ne_of_gt I.lt, I.nofs (Nat.le_refl _), fun v q => by cases q⟩
    · exact J0.pin p (List.mem_append_right _ e)
  rw [eS]
  generalize s.heap.objs.size + 1 = S at *
  generalize s.heap.objs.size = It at *
  have W := Walks.list (prog := X.prog) (w := X.w) (A := X.A.in1) hh It l hlI its.toArray
  have isz : its.toArray.size = xs.length := by rw [List.size_toArray, rv.length]
  refine codeAny_builtin PySem.F.entry_max_loop ?_
  rw [Around.under_plainId PySem.F.plain_max_loop _]
  show wpAny _ _ (seqItems? (.ref _) >>= _) _ _ _
  refine wpAny_bind (wpAny_seqItems gS rfl ?_)
  show wpAny _ _ (tryCatch (pyNext (.ref It)) _ >>= _) _ _ _
  refine wpAny_bind (wpAny_tryCatch (W.item 0 _ _ _ (by rw [isz]; exact ne) ⟨⟨_, gI, rfl, rfl⟩, (hl.isList).at fun o e => old _ _ e⟩ fun u h2 t2 hP st2 hk => ?_))
  have hu : its[0]? = some u := by simpa using hP
  obtain ⟨x, hx0, rx⟩ : ∃ x, xs[0]? = some x ∧ RelV x u := by
    obtain ⟨u', e1, e2⟩ := rv.get (List.getElem?_eq_getElem ne)
    rw [hu] at e1
    cases e1
    exact ⟨_, List.getElem?_eq_getElem ne, e2⟩
  obtain ⟨oI2, gI2, hoc, hod⟩ := id st2.1
  have yI2 := yI.cons (p := (S, seqObj "list" #[] 0)) hSI
  have J2 := repin (t2 := t2) (h2 := h2) J1 (fun b o hb e => hk b o (fun z => hb (List.mem_singleton.mp z)) e) gI2 (fun v q => by rw [hod] at q; cases q) yI2.sz yI2.cl yI2.pn
  show wpAny _ _ (tryCatch (holding [u] (call (.ref f) [u])) _ >>= _) _ _ _
  refine wpAny_bind (wpAny_tryCatch (wpAny_holding (wpAny_mono (turn 0 x u _ H _ hx0 (Same.refl _) J2 (List.mem_cons_of_mem _ (List.mem_cons_of_mem _ hfo)) rx) (fun k s3 hk3 => ?_) fun _ _ z => z.elim)))
  obtain ⟨y, H3, J3, ry, s13, ey⟩ := hk3
  subst ey
  obtain ⟨t3, rfl⟩ : ∃ t, k = .int (kf 0) t := ry
  have gI3 := ClX.pin_at J3
  have gS3 := ClX.pin_at (swap_pin J3)
  obtain ⟨c2, hc2⟩ : ∃ c2, (s3.heap.update S (Obj.mapSeq fun _ => #[u, .int (kf 0) t3])).get? S = some (seqObj "list" #[u, .int (kf 0) t3] c2) := ⟨_, get?_update_seq gS3 fun _ => #[u, .int (kf 0) t3]⟩
  show wpAny _ _ (updateSeq S (fun _ => #[u, .int (kf 0) t3]) >>= _) _ _ _
  refine wpAny_bind (wpAny_updateSeq gS3 rfl ?_)
  rw [nm]
  have J4 := swap_pin (repin (t2 := s3.toks) (h2 := s3.heap.update S (Obj.mapSeq fun _ => #[u, .int (kf 0) t3])) (swap_pin J3) (fun b o hb e => (Heap.get?_update_other _ _ (Ne.symm hb)).trans e) hc2 (fun v q => by cases q) yS.sz yS.cl (yS.cons (p := (It, oI2)) hSI.symm).pn)
  refine wpAny_pure ⟨plainId_quiet PySem.F.plain_max_loop _, max_turns kf hh hlI hSI hfo yI yS hx turn (fun i x u H' s' hx' ru top sm J => ⟨x, H', J, ru, h i x H' hx' top sm⟩) _ 0 0 H3 _ x u t3 c2 oI2 rfl ne s13 J4 ⟨oI2, (Heap.get?_update_other _ _ hSI).trans gI3, hoc, hod⟩ hx0 rx (Nat.le_refl _) fun j' hj' => ?_⟩
  have e : j' = 0 := by omega
  subst e
  exact ⟨by omega, fun z => absurd z (Nat.lt_irrefl _)⟩
end
/-- max(e, key=lambda a: body), the keys ints by body's reading -/
def tMaxLam (K : PySem.W.Frag) (T : List (Addr × Str)) (j : Nat) (tb : TE) (te : TA) : TE := fun σ H Q => te σ H fun ws H1 => ∃ (l : Addr) (xs : List V) (kf : Nat → Int), ws = [V.ref l] ∧ SqL K H1 l xs ∧ 0 < xs.length ∧ Tabs T H1 ∧
  (∀ (i : Nat) (z : V) (H' : Hp) (Q' : VK), xs[i]? = some z → ExtN H1 H' → (∀ H2, Same H' H2 → Q' (.int (kf i)) H2) → tb (σ.set j (some z)) H' Q') ∧
  ∀ i x H', xs[i]? = some x → TopAt kf xs.length i → ExtN H1 H' → Tabs T H' → Q x H'
section
variable {X : Cx}
theorem pe_maxLam {T : List (Addr × Str)} {c P : Addr} {k j : Nat} {a x : Str} {params : Arguments} {e body : Expr} {scope : Scope} {tb : TE} {te : TA} {p lpos kpos pos : Pos} (ha : PA X [e] te) (hg : Gl X x) (hm : X.mg x = none) (hv : bootBuiltins x = some (.builtin "max"))
    (TB : TabB X.base X.mg c P) (hcode : X.env.code = .ref c) (hmT : (P, X.env.qual ++ "<lambda>") ∈ T) (hu : ∀ q ∈ T, q.1 = P → q.2 = X.env.qual ++ "<lambda>") (hr : Room (k + 2) X.A) (L : Lam1 X.env.scope scope a) (hdef : defaultsOf params X.env = ([], []))
    (hN : X.N.Nodup) (hj : X.N[j]? = some a) (hbind : ∀ (q : Str) (cl : List (Str × Addr)) (pm cv ctv u : Value), bindArgs (PySem.W.kla_fn "<lambda>" q params body scope cl pm cv ctv) ⟨[u], []⟩ = pure [(a, u)])
    (hbody : ∀ (A : Around) (s : Shared) (H : Hp) (f c' : Addr), Room k (A.deeper (lamEnv X scope s.heap.objs.size f c')) → PE (lamCx1 X A X.stack s H scope f c') body tb)
    (hn : x ≠ "__name__" := by decide) (hdb : (x == ("__debug__" : Str)) = false := by decide)
    (h1 : backTo pos (starEach [e] X.env) = (false, eval e X.env) :: backTo pos (starEach [] X.env) := by rfl) (h2 : (backTo pos (starEach [e] X.env)).any (·.1) = false := by rfl)
    (h3 : (backToKw pos (keywordEach [⟨some (Str.ofString "key"), .Lambda params body scope lpos, kpos⟩] X.env)).all (·.1.isSome) = true := by rfl) (h4 : (backToKw pos (keywordEach [⟨some (Str.ofString "key"), .Lambda params body scope lpos, kpos⟩] X.env)).any (·.1.isNone) = false := by rfl)
    (h5 : (backToKw pos (keywordEach [⟨some (Str.ofString "key"), .Lambda params body scope lpos, kpos⟩] X.env)).filterMap (·.1) = [Str.ofString "key"] := by rfl) :
    PE X (.Call (.Name x p) [e] [⟨some (Str.ofString "key"), .Lambda params body scope lpos, kpos⟩] pos) (tMaxLam X.K T j tb te) := by
  refine ⟨fun pins s σ H Q I h => ?_⟩
  refine wpAny_Call_Name_kw (ld_blt I hg hm hv ?_ hn hdb)
  refine PyProof.Rows.callWith_kw (thn (ha.run pos pins s σ H _ I h) fun us s1 hq => ?_) h1 h2 h3 h4
  obtain ⟨vs, H1, I1, r1, l, xs, kf, rfl, hx, ne, hT, hturn, hfin⟩ := hq
  cases r1 with
  | cons ra rb =>
  cases rb
  cases ra
  show wpAny _ _ (evalAll ((do let v ← eval (.Lambda params body scope lpos) X.env; standAt pos; pure v) :: [])) _ _ s1
  refine wpAny_evalAll_cons (wpAny_bind (lam_make2 I1 TB hcode hmT hu hT hdef ?_ fun f c' pm ctv H2 s2 I2 eN T2 hf hfn hfr hco => wpAny_bind (wpAny_standAt (wpAny_pure ?_))))
  · exact fun y hy z => (L.free y hy z).elim (fun k => I1.ok.has _ (.inl k)) fun k => I1.ok.has _ (.inr k)
  refine wpAny_evalAll_nil ?_
  rw [h5]
  show wpAny _ _ (call (.builtin "max") [.ref l] [(Str.ofString "key", .ref f)]) _ _ s2
  have hfl : f ≠ X.env.locals := fun z => by
    obtain ⟨m, ⟨ob, es, ep, ho, hcls, hdat, _⟩, _⟩ := I2.loc
    rw [← z, hf] at ho
    cases ho
    have q := hcls
    cases q
  have hff : f ∉ X.fs := fun z => hfr (by
    rcases I2.ok.stk with q | ⟨q, _⟩
    · rw [q]; exact z
    · rw [q]
      obtain ⟨en, h6, h7⟩ := List.mem_filterMap.mp z
      exact List.mem_filterMap.mpr ⟨en, List.mem_cons_of_mem _ h6, h7⟩)
  have I3 : Inv X ((f, PySem.W.kla_obj "<lambda>" (X.env.qual ++ "<lambda>") params body scope (cloFrom X.env.cells scope.names []) pm c' ctv) :: pins) σ H2 s2 := by
    refine I2.pins_of fun q hq => ?_
    rcases List.mem_cons.mp hq with z | z
    · rw [z]
      exact ⟨hf, hfn, hfl, hff, fun v w => by cases w⟩
    · exact I2.pin q (List.mem_append_right _ z)
  refine wpAny_mono (max_by (E := X.xe) (Q := Q) kf I3 hr.hd (ExtN.sq eN hx) ne List.mem_cons_self (fun i z u pins' H' s' hz sm J hp rz => ?_) fun i x H' hxi top sm => ?_) (fun u s3 hq => ClX.unpinE hq) fun _ _ q => q
  · have hf2 := (J.pin _ (List.mem_append_right _ hp)).1
    refine lam1_call (k := k) J L hf2 (sm _ _ hco) (hbind _ _ _ _ _ _) J.env0.in1 hr.in1 hN hj rz (fun hr2 => hbody _ _ _ _ _ hr2) ?_
    exact hturn i z H' _ hz (eN.trans (ExtN.of sm)) fun H3 s3 => ⟨s3, rfl⟩
  · exact hfin i x H' hxi top (eN.trans (ExtN.of sm)) (T2.ext sm)
end
end OP
namespace OP
open PySem PySem.Spec PyProof.Rows L2
/-- a tuple whose object is known, one without a dict of its own: its methods can be called -/
def TupF (H : Hp) (a : Addr) (xs : List V) : Prop := ∃ o : Obj, o.dict = none ∧ H a = some (.frz o (.tup xs))
theorem TupF.ext {H H' : Hp} {a : Addr} {xs : List V} (s : Same H H') (h : TupF H a xs) : TupF H' a xs := let ⟨o, d, e⟩ := h; ⟨o, d, s _ _ e⟩
theorem TupF.sq {K : PySem.W.Frag} {H : Hp} {a : Addr} {xs : List V} (h : TupF H a xs) : SqT K H a xs := let ⟨o, _, e⟩ := h; .inl (.inr ⟨o, e⟩)
theorem TupF.new {H : Hp} {a : Addr} {xs : List V} {o : Obj} (h : o.dict = none) : TupF (upd H a (.frz o (.tup xs))) a xs := ⟨o, h, upd_same⟩
theorem TupF.ne {H : Hp} {a b : Addr} {xs ys : List V} (h : TupF H a xs) (hb : H b = some (.lst ys)) : a ≠ b := fun z => by
  obtain ⟨o, _, e⟩ := h
  rw [z, hb] at e
  cases e
theorem TupF.off {H : Hp} {a b : Addr} {xs ys : List V} {u : HO} (h : TupF H a xs) (hb : H b = some (.lst ys)) : TupF (upd H b u) a xs := by
  have n := h.ne hb
  obtain ⟨o, d, e⟩ := h
  exact ⟨o, d, (upd_ne n).trans e⟩
def tTupF (t : TA) : TE := fun σ H Q => t σ H fun xs H1 => xs.length ≤ sizeLine ∧ ∀ (p : Addr) (o : Obj), H1 p = none → o.dict = none → Q (.ref p) (upd H1 p (.frz o (.tup xs)))
section
variable {X : Cx}
theorem pe_tupF {es : List Expr} {t : TA} {x1} {pos : Pos} (h : PA X es t) : PE X (.Tuple es x1 pos) (tTupF t) := by
  refine ⟨fun pins s σ H Q I hq => ?_⟩
  refine wpAny_Tuple_spliced (thn (h.run pos pins s σ H _ I hq) fun us s1 ⟨xs, H1, I1, r, z, q⟩ => ⟨by rw [← r.length]; exact z, ?_⟩)
  refine ⟨.ref s1.heap.objs.size, _, I1.laid (t' := s1.toks) (o := .frz _ (.tup xs)) (fun b u e => Heap.get?_push_of_some _ e) (Nat.le_refl _) ⟨Heap.get?_push_size _ rfl, z, us, r, ⟨_, Heap.get?_push_size _ rfl, rfl, _, rfl⟩⟩, rfl, q _ _ (I1.hok.fresh (Nat.le_refl _)) rfl⟩
/-- t + u, what is new being known -/
def rCatF (K : PySem.W.Frag) : R2 := fun x y H Q => ∃ a b xs ys, x = .ref a ∧ y = .ref b ∧ SqT K H a xs ∧ SqT K H b ys ∧ xs.length + ys.length ≤ sizeLine ∧
  (xs = [] → Q (.ref b) H) ∧ (xs ≠ [] → ys = [] → Q (.ref a) H) ∧ (xs ≠ [] → ys ≠ [] → ∀ (p : Addr) (o : Obj), H p = none → o.dict = none → Q (.ref p) (upd H p (.frz o (.tup (xs ++ ys)))))
theorem op_catF (K : PySem.W.Frag) (hK : X.K = K := by rfl) : OpR X (binaryOp .Add) (rCatF K) := by
  subst hK
  intro pins s σ H x y v u Q I rx ry h
  obtain ⟨a, b, xs, ys, rfl, rfl, ha, hb, hz, q0, q1, q2⟩ := h
  cases rx
  cases ry
  obtain ⟨its, r1, p1, _⟩ := I.tuple ha
  obtain ⟨its2, r2, p2, _⟩ := I.tuple hb
  by_cases hx : xs = []
  · subst hx
    cases r1
    exact cat_tup0 p1 p2 ⟨.ref b, H, I, rfl, q0 rfl⟩
  · refine HT.cat_tup p1 p2 (fun z => hx (r1.nil_iff.mp z)) (fun z => ⟨.ref a, H, I, rfl, q1 hx (r2.nil_iff.mp z)⟩) (fun z => ?_) (by rw [← r1.length, ← r2.length]; exact hz)
    refine ⟨.ref s.heap.objs.size, _, I.laid (t' := s.toks) (o := .frz _ (.tup (xs ++ ys))) (fun b ob q => Heap.get?_push_of_some _ q) (Nat.le_refl _) ⟨Heap.get?_push_size _ rfl, by rw [List.length_append]; exact hz, _, r1.append r2, ⟨_, Heap.get?_push_size _ rfl, rfl, _, rfl⟩⟩, rfl, q2 hx (fun w => z (r2.nil_iff.mpr w)) _ _ (I.hok.fresh (Nat.le_refl _)) rfl⟩
theorem idx_first : ∀ {ys : List Str} {z : Str} {m : Nat}, ys[m]? = some z → ys.idxOf z ≤ m
  | [], _, _, h => (by cases h)
  | y :: ys, z, 0, h => by
    obtain rfl := Option.some.inj h
    rw [List.idxOf_cons]
    simp
  | y :: ys, z, m + 1, h => by
    have ih := idx_first (ys := ys) (m := m) h
    rw [List.idxOf_cons]
    cases (y == z) with
    | true => exact Nat.zero_le _
    | false => exact Nat.succ_le_succ ih
/-- t.index(e), of a known tuple of texts -/
def tTix (to : TE) (t : TA) : TE := fun σ H Q => to σ H fun x H1 => ∃ (p : Addr) (ys : List Str), x = .ref p ∧ TupF H1 p (ys.map V.str) ∧ t σ H1 fun xs H2 => ∃ z : Str, xs = [.str z] ∧ TupF H2 p (ys.map V.str) ∧ z ∈ ys ∧ Q (.int ((ys.idxOf z : Nat) : Int)) H2
theorem pe_tix {o e : Expr} {es : List Expr} {to : TE} {t : TA} {apos cpos : Pos} (ho : PE X o to) (ha : PA X (e :: es) t)
    (hbase : attributeBase o "index" X.env (eval o X.env) = eval o X.env := by rfl)
    (hfew : ((backTo cpos (starEach (e :: es) X.env)).all (fun x => !x.1) && (backToKw cpos (keywordEach [] X.env)).all (fun x => x.1.isSome) && decide ((e :: es).length + ([] : List Keyword).length + (if ([] : List Keyword).isEmpty then 0 else 1) < 30)) = true := by rfl)
    (hline : (apos.endLine == cpos.line) = true := by rfl) (hs : starEach (e :: es) X.env = (false, eval e X.env) :: starEach es X.env := by rfl) (hplain : (backTo cpos (starEach es X.env)).any (·.1) = false := by rfl) :
    PE X (.Call (.Attribute o "index" apos) (e :: es) [] cpos) (tTix to t) := by
  refine ⟨fun pins s σ H Q I h => ?_⟩
  refine wpAny_Call_method_late hbase hfew hline rfl (thn (ho.run pins s σ H _ I h) fun v s1 ⟨x, H1, I1, r1, p, ys, ex, tf, q1⟩ => ?_)
  subst ex
  cases r1
  obtain ⟨ob, hd, e1⟩ := id tf
  obtain ⟨g, _, its, rv, tp⟩ := I1.hok p _ e1
  refine ⟨"tuple", "tuple.index", PySem.F.plainAttrs_tuple, PySem.F.slot_tuple_index, PySem.F.type_tuple_index, tp.typeIs, (fun a e => by cases e; exact ⟨ob, g, hd⟩), ?_⟩
  have hA := ha.run cpos pins s1 σ H1 _ I1 q1
  rw [hs] at hA ⊢
  refine Calls.callWith_builtin (by show (false || (backTo cpos (starEach es X.env)).any (·.1)) = false; rw [hplain] <;> rfl) (Calls.evalArgs_plain ?_)
  exact thn hA fun us s2 ⟨vs, H2, I2, r2, z, ez, tf2, hz, q2⟩ => mt_tup_index pins s2 σ H2 (.ref p) vs _ us Q I2 rfl r2 ⟨p, ys, z, ys.idxOf z, rfl, ez, tf2.sq, (by
    have lt := List.idxOf_lt_length_of_mem hz
    rw [List.getElem?_eq_getElem lt, List.getElem_idxOf lt]), (fun m hm q => by have := idx_first q; omega), q2⟩
end
end OP
namespace OP
open PySem PySem.Spec PyProof.Rows GenW L2 LamX
/-! ### what stays: all but the state of the drawing and the tables -/
def Kp (H H' : Hp) : Prop := ∀ a u, NotSt u → (∀ ps, u ≠ .tbl ps) → H a = some u → H' a = some u
theorem Kp.refl (H : Hp) : Kp H H := fun _ _ _ _ e => e
theorem Kp.trans {H H1 H2 : Hp} (a : Kp H H1) (b : Kp H1 H2) : Kp H H2 := fun c u n m e => b c u n m (a c u n m e)
theorem Keep.n {H H' : Hp} (k : Keep H H') : Kp H H' := fun a u n _ e => k a u n e
theorem _root_.LamX.ExtN.n {H H' : Hp} (k : ExtN H H') : Kp H H' := fun a u _ m e => k a u e m
theorem kp_same {H H' : Hp} (s : Same H H') : Kp H H' := (Keep.of s).n
section
variable {H H' : Hp} (k : Kp H H')
include k
theorem Kp.tup {a : Addr} {xs : List V} (h : H a = some (.tup xs)) : H' a = some (.tup xs) := k _ _ (notSt_tup _) (fun _ z => by cases z) h
theorem Kp.dK {a : Addr} {kv : List (Key × V)} (h : H a = some (.dK kv)) : H' a = some (.dK kv) := k _ _ (notSt_dK _) (fun _ z => by cases z) h
theorem Kp.ins {a C d : Addr} {fs : List (Str × V)} (h : H a = some (.ins C d fs)) : H' a = some (.ins C d fs) := k _ _ (notSt_ins _ _ _) (fun _ z => by cases z) h
theorem Kp.ints {a : Addr} {ns : List Int} (h : H a = some (.lst (ns.map V.int))) : H' a = some (.lst (ns.map V.int)) := k _ _ (notSt_ints _) (fun _ z => by cases z) h
theorem Kp.strs {a : Addr} {ns : List Str} (h : H a = some (.lst (ns.map V.str))) : H' a = some (.lst (ns.map V.str)) := k _ _ (notSt_strs _) (fun _ z => by cases z) h
theorem Kp.refs {a : Addr} {S : Sts} (h : H a = some (.lst (refs S))) : H' a = some (.lst (refs S)) := k _ _ (notSt_refs _ S) (fun _ z => by cases z) h
theorem StsAt.kn {S : Sts} (h : StsAt H S) : StsAt H' S := fun p hp => k.tup (h p hp)
theorem RowAt.kn {a : Addr} {c : Chg} (h : RowAt H a c) : RowAt H' a c := by
  cases c with
  | one o => exact k.tup h
  | iff s v o =>
    obtain ⟨b, h1, h2⟩ := h
    exact ⟨b, k.tup h1, k.tup h2⟩
theorem OneAt.kn {K : PySem.W.Frag} {a : Addr} {o : One} (h : OneAt K H a o) : OneAt K H' a o := by
  obtain ⟨dx, h⟩ := h
  exact ⟨dx, k.ins h⟩
theorem ChgAt.kn {K : PySem.W.Frag} {a : Addr} {c : Chg} (h : ChgAt K H a c) : ChgAt K H' a c := by
  cases c with
  | one o => exact OneAt.kn k h
  | iff s v o =>
    obtain ⟨dx, b, h1, h2⟩ := h
    exact ⟨dx, b, k.ins h1, OneAt.kn k h2⟩
theorem WorldAt.kn {K : PySem.W.Frag} {p : Addr} {n : Nat} {S : Sts} {L : Ncs} (h : WorldAt K H p n S L) : WorldAt K H' p n S L := by
  obtain ⟨⟨dx, l, d, h1, h2, h3⟩, h4, h5⟩ := h
  exact ⟨⟨dx, l, d, k.ins h1, k.refs h2, k.dK h3⟩, StsAt.kn k h4, fun p hp => ChgAt.kn k (h5 p hp)⟩
theorem DrAt.kn {t : Addr} {n : Nat} {S : Sts} {L : Rws} (h : DrAt H t n S L) : DrAt H' t n S L := by
  obtain ⟨⟨l, d, h1, h2, h3⟩, h4, h5⟩ := h
  exact ⟨⟨l, d, k.tup h1, k.refs h2, k.dK h3⟩, StsAt.kn k h4, fun p hp => RowAt.kn k (h5 p hp)⟩
end
theorem StAt.exn {K : PySem.W.Frag} {sc : Addr} {H H' : Hp} {st : Addr} (e : ExtN H H') (h : StAt K sc H st) : StAt K sc H' st := by
  obtain ⟨ns, b, k, h1, h2, h3⟩ := h
  exact ⟨ns, b, k, e _ _ h1 (fun _ z => by cases z), ExtN.sq e h2, h3⟩
theorem tabs_keep {T : List (Addr × Str)} {H H' : Hp} (k : Keep H H') (t : Tabs T H) : Tabs T H' := fun p hp => by
  obtain ⟨ps, h1, h2, h3⟩ := t p hp
  refine ⟨ps, k _ _ (fun _ _ _ z => by cases z) h1, h2, fun pos cv hc => ?_⟩
  obtain ⟨c, e1, e2⟩ := h3 pos cv hc
  exact ⟨c, e1, k _ _ (fun _ _ _ z => by cases z) e2⟩
theorem kp_sq {K : PySem.W.Frag} {H H' : Hp} (k : Kp H H') {a : Addr} {ns : List Int} (h : SqL K H a (ns.map V.int)) : SqL K H' a (ns.map V.int) := by
  rcases h with (h | ⟨o, h⟩) | h
  · exact .inl (.inl (k.ints h))
  · exact .inl (.inr ⟨o, k _ _ (fun _ _ _ z => by cases z) (fun _ z => by cases z) h⟩)
  · exact .inr h
theorem Kp.new {H0 H1 : Hp} (k : Kp H0 H1) {l : Addr} (hl : H1 l = none) : ∀ a u, NotSt u → (∀ ps, u ≠ .tbl ps) → H0 a = some u → a ≠ l := fun a u n m e z => by
  have := k a u n m e
  rw [z, hl] at this
  cases this
theorem Kp.upd {H0 H : Hp} {l : Addr} {x : HO} (k : Kp H0 H) (hl : ∀ a u, NotSt u → (∀ ps, u ≠ .tbl ps) → H0 a = some u → a ≠ l) : Kp H0 (upd H l x) := fun a u n m e => by
  rw [upd_ne (hl a u n m e)]
  exact k a u n m e
theorem tabs_upd {T : List (Addr × Str)} {H : Hp} {o : Addr} {xs : List V} {u : HO} (ho : H o = some (.lst xs)) (t : Tabs T H) : Tabs T (upd H o u) := fun p hp => by
  obtain ⟨ps, h1, h2, h3⟩ := t p hp
  refine ⟨ps, by rw [upd_ne (fun z => by rw [z, ho] at h1; cases h1)]; exact h1, h2, fun pos cv hc => ?_⟩
  obtain ⟨c, e1, e2⟩ := h3 pos cv hc
  exact ⟨c, e1, by rw [upd_ne (fun z => by rw [z, ho] at e2; cases e2)]; exact e2⟩
def left (ns ys : List Str) : List Str := ns.filter fun y => !decide (y ∈ ys)
theorem left_ne {ns ys : List Str} (nd : ns.Nodup) (h : ys.length < ns.length) : left ns ys ≠ [] := fun z => by
  have sub : ∀ y ∈ ns, y ∈ ys := fun y hy => by
    by_cases hm : y ∈ ys
    · exact hm
    · have : y ∈ left ns ys := List.mem_filter.mpr ⟨hy, by rw [decide_eq_false hm] <;> rfl⟩
      rw [z] at this
      cases this
  have := nodup_le nd sub
  omega
theorem all_str : ∀ y ∈ allNames, PyData.strOk y = true := by decide +kernel
theorem app_twin {L M : Ncs} (e : nc M = nc L) (ndM : (names M).Nodup) (nd : (names L).Nodup) : ∀ (ys : List Str), (∀ y ∈ ys, y ∈ names L) → ∀ xs : List Int, appAll M ys xs = appAll L ys xs
  | [], _, _ => rfl
  | y :: ys, h, xs => by
    have e1 : chgOf M y = chgOf L y := by
      obtain ⟨j, hj, rfl⟩ := mem_names (h y List.mem_cons_self)
      have hm : j < M.length := by rw [← nc_len M, e, nc_len]; exact hj
      have g := List.getElem_of_eq e (i := j) (by rw [nc_len]; exact hm)
      unfold nc at g
      rw [List.getElem_map, List.getElem_map] at g
      rw [chgOf_at nd hj, ← (Prod.mk.inj g).1, chgOf_at ndM hm, (Prod.mk.inj g).2]
    show appAll M ys ((chgOf M y).app xs) = appAll L ys ((chgOf L y).app xs)
    rw [e1]
    exact app_twin e ndM nd ys (fun z hz => h z (List.mem_cons_of_mem _ hz)) _
theorem nc_at {L M : Ncs} (e : nc M = nc L) {i : Nat} (hi : i < L.length) : ∃ (h : i < M.length), M[i].1 = L[i].1 ∧ M[i].2.2 = L[i].2.2 := by
  have hm : i < M.length := by rw [← nc_len M, e, nc_len]; exact hi
  have h := List.getElem_of_eq e (i := i) (by rw [nc_len]; exact hm)
  unfold nc at h
  rw [List.getElem_map, List.getElem_map] at h
  exact ⟨hm, (Prod.mk.inj h).1, (Prod.mk.inj h).2⟩
end OP
namespace OP
open PySem PySem.Spec PyProof.Rows GenW L2
def tComL : TT := fun σ H Q => ∃ (a b : Addr) (xs ys : List Str) (i : Nat), σ[3]? = some (some (.ref a)) ∧ σ[5]? = some (some (.ref b)) ∧ σ[6]? = some (some (.int (i : Int))) ∧ H a = some (.lst (xs.map V.str)) ∧ H b = some (.lst (ys.map V.str)) ∧ xs.length ≤ ys.length ∧ i ≤ comN xs ys ∧ Q (decide (i < comN xs ys)) H
/-- names[:many], of a list or a tuple -/
def tCut (K : PySem.W.Frag) : TE := fun σ H Q => ∃ (a : Addr) (ys : List Str) (k : Nat), σ[1]? = some (some (.ref a)) ∧ σ[4]? = some (some (.int (k : Int))) ∧ SqN K H a ys ∧ k ≤ ys.length ∧ ∀ H' p, Same H H' → SqN K H' p (ys.take k) → Q (.ref p) H'
theorem cut_str {ys : List Str} {k : Nat} (h : k ≤ ys.length) : cutV (ys.map V.str) none (some (k : Int)) = (ys.take k).map V.str := by
  unfold cutV
  rw [HT.sIx_none, HT.sIx_nat, List.length_map, Nat.min_eq_left h, List.drop_zero, Nat.sub_zero, List.map_take]
section
variable {P : Program} {w : PySem.World} {K : PySem.W.Frag} {mg : Str → Option Value} {base : Heap}
def spLWork (K : PySem.W.Frag) : Sp := fun vs H Q _ => ∃ (l a : Addr) (A : Els) (ys : List Str), vs = [.ref l, .ref a] ∧ H l = some (.lst (erefs A)) ∧ ElsAt H A ∧ ElsOk A ∧ SqN K H a ys ∧ ys.length ≤ 4 ∧ ys.Nodup ∧ (∀ y ∈ ys, PyData.strOk y = true) ∧ (∀ zs : List Str, (∀ z ∈ zs, z ∈ ys) → zs ≠ [] → freeN (ents A) zs ≠ []) ∧
  ∀ H', Same H H' → Q (.int (workN (ents A) ys)) H'
theorem sc_lwork : FnScope ["_law_entries", "_law_names", "_law_total", "_law_line_here", "_law_many", "_law_late", "_law_same"] ["_law_entries", "_law_names"] (defScope s__law_work) := ⟨rfl, rfl, rfl, by decide +kernel, rfl, by decide +kernel, by decide +kernel⟩
theorem ok_lwork (T : Txt K mg) : Ok P w K mg base (a__law_work K) ["_law_entries", "_law_names"] 2 (spLWork K) := by
  have GL : Ok P w K mg base (a__law_line K) _ 1 (spLine K) := ok_lline T
  refine ok_of T.f__law_work sc_lwork (fun _ _ _ _ _ _ us hl => match us, hl with | [_, _], _ => rfl) (fun vs H Q E h => ?_) (fun cdv A' outer s H vs Q E hr h => ?_)
  · obtain ⟨l, a, A, ys, rfl, _⟩ := h
    rfl
  · obtain ⟨l, a, A, ys, rfl, hl, hA, ok, ha, y4, nd, so, fr, kk⟩ := h
    refine ⟨_, (pss_cons (ps_par rfl sc_lwork.nd (i := 2) (j := 3) rfl rfl (by decide) rfl rfl (pa_cons pe_int (pa_cons (pe_lst pa_nil) pa_nil)) (by rfl))
      (pss_cons (ps_for PassesOwn.never rfl (pi_range2 (by rfl) T.z_range (pa_cons pe_int (pa_cons (pe_op op_add (pe_callB call_len_seq (by rfl) T.z_len PySem.boot_len (pa_cons (pv 1) pa_nil)) pe_int) pa_nil))) (pg_name (i := 4) sc_lwork.nd rfl (Or.inl rfl)) (pss_cons (ps_par rfl sc_lwork.nd (i := 5) (j := 6) rfl rfl (by decide) rfl rfl (pa_cons (pe_c GL hr T.g__law_line (pa_cons (pv 0) (pa_cons (pe_imp (t2 := tCut K) (pe_orE (pe_slice sl_list (pv 1) po_none (po_some (pv 4))) (pe_slice sl_tupA (pv 1) po_none (po_some (pv 4)))) (by
      intro σ H Q h
      obtain ⟨a, ys, k, h1, h4, hs, hk, q⟩ := h
      rcases hs with hs | hs
      · refine .inl ⟨_, h1, _, h4, _, rfl, a, _, rfl, hs, fun p hp => ?_⟩
        rw [cut_str hk]
        exact q _ p (same_upd hp) (.inl (SqL.of upd_same))
      · refine .inr ⟨_, h1, _, h4, _, rfl, a, _, rfl, hs, fun z => ?_, fun z p hp => ?_⟩
        · obtain ⟨_, z⟩ := z
          rw [HT.sIx_nat, List.length_map, Nat.min_eq_left hk] at z
          exact q _ a (Same.refl _) (.inr (by rw [List.take_of_length_le (by omega)]; exact hs))
        · rw [cut_str hk]
          exact q _ p (same_upd hp) (.inr (SqT.of upd_same)))) pa_nil))) (pa_cons pe_int pa_nil)) (by rfl))
      (pss_cons (ps_while PassesOwn.never (pt_imp (t2 := tComL) (PW.pt (pw_and (pt_cmpR op_lt (pv 6) (pe_callB call_len_seq (by rfl) T.z_len PySem.boot_len (pa_cons (pv 3) pa_nil)) (nomark _)) (pw_and1 (pt_cmpR op_eq (pe_ix ix_list (pv 3) (pv 6) (fun _ _ => rfl)) (pe_ix ix_list (pv 5) (pv 6) (fun _ _ => rfl)) (nomark _))))) (by
      intro σ H Q h
      obtain ⟨a, b, xs, ys, i, h3, h5, h6, ha, hb, le, hi, q⟩ := h
      refine ⟨_, h6, _, h3, a, _, rfl, .inl (SqL.of ha), _, _, rfl, rfl, _, rfl, ?_⟩
      dsimp only
      rw [List.length_map]
      have l1 := com_le1 xs ys
      by_cases lt : (i : Int) < (xs.length : Int)
      · rw [decide_eq_true lt]
        have hx : i < xs.length := by omega
        have hy : i < ys.length := by omega
        have gx : xs[i]? = some xs[i] := List.getElem?_eq_getElem hx
        have gy : ys[i]? = some ys[i] := List.getElem?_eq_getElem hy
        refine iteT ⟨_, h3, _, h6, a, _, (i : Int), _, rfl, rfl, SqL.of ha, atI_nat (str_at gx), _, h5, _, h6, b, _, (i : Int), _, rfl, rfl, SqL.of hb, atI_nat (str_at gy), rfl, _, rfl, ?_⟩
        by_cases c : i < comN xs ys
        · obtain ⟨y, h1, h2⟩ := com_lt xs ys i c
          rw [gx] at h1
          rw [gy] at h2
          rw [Option.some.inj h1, Option.some.inj h2, decide_eq_true rfl]
          rw [decide_eq_true c] at q
          exact q
        · obtain rfl : i = comN xs ys := by omega
          have ne := com_at xs ys _ _ gx gy
          rw [decide_eq_false fun z => ne (V.str.inj z)]
          rw [decide_eq_false c] at q
          exact q
      · rw [decide_eq_false lt]
        have c : ¬ i < comN xs ys := by omega
        rw [decide_eq_false c] at q
        exact iteF q)) (pss_one (ps_set (i := 6) sc_lwork.nd rfl (Or.inl rfl) (pe_op op_add (pv 6) pe_int))))
      (pss_one (ps_par rfl sc_lwork.nd (i := 2) (j := 3) rfl rfl (by decide) rfl rfl (pa_cons (pe_op op_sub (pe_op op_add (pv 2) (pv 4)) (pv 6)) (pa_cons (pv 5) pa_nil)) (by rfl))))))
      (pss_one (ps_ret (pv 2))))), ?_⟩
    have hm : (ys.map V.str).length = ys.length := List.length_map ..
    refine ⟨(by show 0 ≤ sizeLine; decide), fun c0 hc0 => ⟨_, _, rfl, ?_⟩⟩
    have s0 : Same H _ := same_upd (o := .lst []) hc0
    have c00 : upd H c0 (.lst []) c0 = some (.lst (([] : List Str).map V.str)) := upd_same
    generalize upd H c0 (.lst []) = H0 at s0 c00
    have haN : ∀ {H' : Hp}, Same H H' → SqN K H' a ys := fun s => ha.ext s
    refine ⟨_, rfl, a, _, rfl, haN s0, _, _, rfl, rfl, _, _, rfl, ⟨by decide, by decide, by omega, by rw [hm]; omega⟩, ?_⟩
    rw [show ((((ys.map V.str).length : Nat) : Int) + 1 - 1).toNat = ys.length from by rw [hm]; omega]
    refine for_it walk_range (fun i σ H' => ∃ (ln : Addr) (f g h : Option V), σ = [some (.ref l), some (.ref a), some (.int ((workN (ents A) (ys.take i) : Nat) : Int)), some (.ref ln), f, g, h] ∧ Same H H' ∧ H' ln = some (.lst ((lineN (ents A) 4 (ys.take i)).map V.str))) ⟨c0, _, _, _, rfl, s0, ?_⟩ (fun _ _ _ _ _ => trivial) (fun i x σ H1 H1' hi inv yy => ?_) (fun σ H1 inv => ?_)
    · rw [List.take_zero, line_nil]
      exact c00
    · obtain ⟨ln, f, g, h, rfl, s1, e1⟩ := inv
      obtain ⟨rfl, rfl⟩ := yy
      have tk : ys.take (i + 1) = ys.take i ++ [ys[i]] := by rw [List.take_add_one, List.getElem?_eq_getElem hi, Option.toList_some]
      have lk : (ys.take (i + 1)).length = i + 1 := by rw [List.length_take]; omega
      have fr' : ∀ (k : Nat) (zs : List Str), (∀ z ∈ zs, z ∈ ys.take k) → zs ≠ [] → freeN (ents A) zs ≠ [] := fun k zs hz => fr zs fun z q => List.mem_of_mem_take (hz z q)
      have nd' : ∀ k, (ys.take k).Nodup := fun k => List.Nodup.sublist (List.take_sublist _ _) nd
      have l1 : (lineN (ents A) 4 (ys.take i)).length = i := by rw [line_full 4 (nd' i) (by rw [List.length_take]; omega) (fr' i), List.length_take]; omega
      have l2 : (lineN (ents A) 4 (ys.take (i + 1))).length = i + 1 := by rw [line_full 4 (nd' _) (by omega) (fr' _), lk]
      refine ⟨_, rfl, a, ys, i + 1, rfl, (by show some (some (V.int (1 + (i : Int)))) = _; rw [show (1 + (i : Int)) = ((i + 1 : Nat) : Int) from by omega]), haN s1, hi, fun H2 p s2 hp => ?_⟩
      have s12 := s1.trans s2
      refine ⟨l, p, A, ys.take (i + 1), rfl, s12 _ _ hl, hA.ext s12, ok, hp, by omega, fun y hy => so y (List.mem_of_mem_take hy), fr' _, fun H3 r s3 _ e3 => ⟨_, _, rfl, ?_⟩⟩
      have s13 := s12.trans s3
      have e13 := s3 _ _ (s2 _ _ e1)
      have cle := com_le1 (lineN (ents A) 4 (ys.take i)) (lineN (ents A) 4 (ys.take (i + 1)))
      have wk := work_snoc (ents A) (ys.take i) ys[i]
      rw [← tk, l2] at wk
      generalize lineN (ents A) 4 (ys.take i) = pr at *
      generalize lineN (ents A) 4 (ys.take (i + 1)) = lt at *
      dsimp only
      show tWhile _ _ _ _ _
      refine while_by (fun σ H' => ∃ j : Nat, σ = [some (.ref l), some (.ref a), some (.int ((workN (ents A) (ys.take i) : Nat) : Int)), some (.ref ln), some (.int (1 + (i : Int))), some (.ref r), some (.int (j : Int))] ∧ H' = H3 ∧ j ≤ comN pr lt) (farTo 4 6) ⟨0, rfl, rfl, Nat.zero_le _⟩ (fun σ H4 inv => ?_) (fun σ H Q Q' h ⟨a, b, xs, ys, i, e1, e2, e3, e4, e5, e6, e7, q⟩ => ⟨a, b, xs, ys, i, e1, e2, e3, e4, e5, e6, e7, h _ _ q⟩)
      obtain ⟨j, rfl, rfl, hj⟩ := inv
      refine ⟨ln, r, pr, lt, j, rfl, rfl, rfl, e13, e3, by omega, hj, ?_⟩
      by_cases c : j < comN pr lt
      · rw [decide_eq_true c]
        refine iteT ⟨_, rfl, _, _, rfl, rfl, ⟨j + 1, rfl, rfl, c⟩, ?_⟩
        show 4 - ((j : Int) + 1).toNat < 4 - (j : Int).toNat
        omega
      · rw [decide_eq_false c]
        refine iteF ⟨_, rfl, _, rfl, _, _, rfl, rfl, _, rfl, _, _, rfl, rfl, _, rfl, _, _, rfl, ?_⟩
        obtain rfl : j = comN pr lt := by omega
        refine ⟨r, some (.int (1 + (i : Int))), some (.ref r), some (.int ((comN pr lt : Nat) : Int)), ?_, s13, e3⟩
        show [some (V.ref l), some (V.ref a), some (V.int (((workN (ents A) (ys.take i) : Nat) : Int) + (1 + (i : Int)) - ((comN pr lt : Nat) : Int))), some (V.ref r), some (V.int (1 + (i : Int))), some (V.ref r), some (V.int ((comN pr lt : Nat) : Int))] = _
        rw [wk, show ((workN (ents A) (ys.take i) : Nat) : Int) + (1 + (i : Int)) - ((comN pr lt : Nat) : Int) = ((workN (ents A) (ys.take i) + (i + 1 - comN pr lt) : Nat) : Int) from by omega]
    · obtain ⟨ln, f, g, h, rfl, s1, e1⟩ := inv
      rw [List.take_length]
      exact ⟨_, rfl, kk _ s1⟩
end
end OP
namespace OP
open PySem PySem.Spec PyProof.Rows GenW L2 LamX
abbrev hardScope : Scope := { kind := .function, names := [("pair", .local)], isGenerator := false, isCoroutine := false, more := [] }
abbrev hardQ : Str := (envOfC "hardest" (defScope s_hardest) 0 0 .none).qual ++ "<lambda>"
/-- the code object's table of hardest -/
structure LamTabH (K : PySem.W.Frag) (mg : Str → Option Value) (base : Heap) (P : Addr) : Prop where
  ex : ∃ (oc : Value) (od : Option Addr) (kV doc pm : Value) (an : Option Addr) (ct : Value) (osl : Array (Option Value)) (c : Addr),
    K.lookup (a_hardest K) = some ⟨oc, od, .func (PySem.W.fnOf "hardest" "hardest" (defArgs s_hardest) (defBody s_hardest) (defScope s_hardest) .none kV doc pm an (.ref c) ct), osl⟩ ∧ PySem.W.codeIn K (.ref c) "hardest" = true ∧ LamX.TabB base mg c P
  kp : PySem.W.keepIn K (.ref (a_hardest K)) = true
theorem AwAt.exn {H H' : Hp} {Z : Aws} (s : ExtN H H') (h : AwAt H Z) : AwAt H' Z := fun z hz => ⟨s _ _ (h z hz).1 (fun _ q => by cases q), s _ _ (h z hz).2 (fun _ q => by cases q)⟩
def wkAt (Z : Aws) (j : Nat) : Int := match Z[j]? with
  | some z => (z.2.2.2 : Int)
  | none => 0
section
variable {P : Program} {w : PySem.World} {K : PySem.W.Frag} {mg : Str → Option Value} {base : Heap}
def spHard (K : PySem.W.Frag) (TT : List (Addr × Str)) : Sp := fun vs H Q _ => ∃ (p d : Addr) (n : Nat) (S : Sts) (L : Ncs) (E : Ents), vs = [.ref p, .ref d] ∧ WorldAt K H p n S L ∧ WOk n S L ∧ H d = some (.dT (pol E)) ∧ PolOk E (names L) ∧ E.Nodup ∧ Tabs TT H ∧ allowN [] 4 (names L) ≠ [] ∧
  ∀ (H' : Hp) (Z : Aws) (i : Nat) (z : Addr × Addr × List Str × Nat), ExtN H H' → Tabs TT H' → AwAt H' Z → wcont Z = (allowN [] 4 (names L)).map (fun o => (o, workN E o)) → Z[i]? = some z → TopAt (wkAt Z) Z.length i → Q (.ref z.1) H'
theorem sc_hard : FnScope ["world", "policy", "pair"] ["world", "policy"] (defScope s_hardest) := ⟨rfl, rfl, rfl, by decide +kernel, rfl, by decide +kernel, by decide +kernel⟩
theorem ok_hard (T : Txt K mg) {Ph : Addr} {TT : List (Addr × Str)} (LT : LamTabH K mg base Ph) (hmT : (Ph, hardQ) ∈ TT) (huT : ∀ q ∈ TT, q.1 = Ph → q.2 = hardQ) : Ok P w K mg base (a_hardest K) ["world", "policy"] 11 (spHard K TT) := by
  have GW : Ok P w K mg base (a_check_world K) _ 1 (spCWorld K) := ok_cworld T
  have GP : Ok P w K mg base (a_check_policy K) _ 3 (spCPol K) := ok_cpol T
  have GA : Ok P w K mg base (a_arrivals_with_work K) _ 10 (spArr K) := ok_arr T
  obtain ⟨⟨oc, od, kV, doc, pm, an, ct, osl, c, lk, hcd, TB⟩, kp⟩ := LT
  refine ⟨⟨_, fn_of lk hcd sc_hard (fun vs H Q E h => ?_) (fun A outer s H vs Q E hr h => ?_), .all (fun us hl => match us, hl with | [_, _], _ => rfl)⟩, kp⟩
  · obtain ⟨p, d, n, S, L, E', rfl, _⟩ := h
    rfl
  · obtain ⟨p, d, n, S, L, E', rfl, W, ok, hd, po, en, tabs, ne, kk⟩ := h
    have hr1 : Room 1 _ := hr.mono (by decide)
    have hr2 : Room 2 _ := hr.mono (by decide)
    have hr3 : Room 3 _ := hr.mono (by decide)
    suffices h : ∃ t, PSs (cxOf CX0 P w K mg base ["world", "policy", "pair"] "hardest" (defScope s_hardest) (a_hardest K) (.ref c) A outer s H E).nox (defBody s_hardest) t ∧ t { nx := fun _ H' => Q .non H', rt := Q } (start ["world", "policy", "pair"] [.ref p, .ref d]) H by
      obtain ⟨t, h, q⟩ := h
      exact ⟨t, h.nox, q⟩
    refine ⟨_, pss_cons (ps_expr (pe_c GW hr1 T.g_check_world (pa_cons (pv 0) pa_nil)))
      (pss_cons (ps_expr (pe_c GP hr3 T.g_check_policy (pa_cons (pv 0) (pa_cons (pv 1) pa_nil))))
      (pss_one (ps_ret (pe_maxLam (T := TT) (c := c) (P := Ph) (k := 0) (j := 2) (a := "pair") (pa_cons (pe_c GA hr T.g_arrivals_with_work (pa_cons (pv 0) (pa_cons (pv 1) pa_nil))) pa_nil) (by rfl) T.z_max (by decide +kernel) TB rfl hmT huT hr2 (lam1_by (sc := defScope s_hardest) (scope := hardScope) (by decide +kernel)) rfl sc_hard.nd rfl (fun _ _ _ _ _ _ => rfl)
        (fun A' s' H' f c' hr' => pe_ix (ix_tupK K) (pv 2) pe_int (fun _ _ => rfl)))))), ?_⟩
    refine ⟨_, rfl, p, n, S, L, rfl, W, ?_⟩
    refine ⟨_, rfl, _, rfl, p, d, n, S, L, E', rfl, W, ok.chgs.nd, ok.chgs.hi, hd, po, fun H1 s1 => ?_⟩
    refine ⟨_, rfl, _, rfl, p, d, n, S, L, E', rfl, W.ext s1, ok, s1 _ _ hd, po, en, fun H2 r Z s2 _ e2 a2 c2 => ⟨r, wrefs Z, wkAt Z, rfl, SqL.of e2, ?_, (tabs.ext s1).ext s2, fun i z H' Q' hz e' kq => ?_, fun i x H' hx top e' t' => ?_⟩⟩
    · have zl := congrArg List.length c2
      unfold wcont at zl
      rw [List.length_map, List.length_map] at zl
      unfold wrefs
      rw [List.length_map, zl]
      exact List.length_pos_iff.mpr ne
    · unfold wrefs at hz
      rw [List.getElem?_map] at hz
      obtain ⟨y, hy, rfl⟩ := Option.map_eq_some_iff.mp hz
      have mem := List.mem_of_getElem? hy
      have ay := (a2.exn e') y mem
      have ek : wkAt Z i = ((y.2.2.2 : Nat) : Int) := by unfold wkAt; rw [hy]
      rw [ek] at kq
      exact ⟨_, rfl, y.1, _, ((1 : Nat) : Int), _, rfl, rfl, SqT.of ay.1, atI_nat rfl, kq H' (Same.refl _)⟩
    · unfold wrefs at hx
      rw [List.getElem?_map] at hx
      obtain ⟨y, hy, rfl⟩ := Option.map_eq_some_iff.mp hx
      have tl : (wrefs Z).length = Z.length := List.length_map ..
      rw [tl] at top
      exact kk H' Z i y (((ExtN.of s1).trans (ExtN.of s2)).trans e') t' (a2.exn e') c2 hy top
end
end OP
namespace OP
open PySem PySem.Spec PyProof.Rows GenW L2 LamX
/-- known tuples of names -/
def NtsF (H : Hp) (Z : Nts) : Prop := ∀ p ∈ Z, TupF H p.1 (p.2.map V.str)
theorem NtsF.ext {H H' : Hp} {Z : Nts} (s : Same H H') (h : NtsF H Z) : NtsF H' Z := fun p hp => (h p hp).ext s
theorem NtsF.off {H : Hp} {Z : Nts} {b : Addr} {ys : List V} {u : HO} (hb : H b = some (.lst ys)) (h : NtsF H Z) : NtsF (upd H b u) Z := fun p hp => (h p hp).off hb
theorem NtsF.snoc {H : Hp} {Z : Nts} {a : Addr} {ys : List Str} (h : NtsF H Z) (e : TupF H a (ys.map V.str)) : NtsF H (Z ++ [(a, ys)]) := fun p hp => by
  rcases List.mem_append.mp hp with z | z
  · exact h p z
  · obtain rfl := List.mem_singleton.mp z
    exact e
theorem NtsF.exn {H H' : Hp} {Z : Nts} (s : ExtN H H') (h : NtsF H Z) : NtsF H' Z := fun p hp => by
  obtain ⟨o, d, e⟩ := h p hp
  exact ⟨o, d, s _ _ e (fun _ q => by cases q)⟩
theorem nts_app {H : Hp} {Z Z2 : Nts} (h : NtsF H Z) (h2 : NtsF H Z2) : NtsF H (Z ++ Z2) := fun p hp => (List.mem_append.mp hp).elim (h p) (h2 p)
theorem nrefs_app (Z Z2 : Nts) : nrefs (Z ++ Z2) = nrefs Z ++ nrefs Z2 := List.map_append ..
theorem nts_len {Z : Nts} {xs : List (List Str)} (h : Z.map (·.2) = xs) : Z.length = xs.length := by rw [← h, List.length_map]
section
variable {P : Program} {w : PySem.World} {K : PySem.W.Frag} {mg : Str → Option Value} {base : Heap}
def spLOrd (K : PySem.W.Frag) : Sp := fun vs H Q _ => ∃ (l a : Addr) (A : Els) (ss : List Str), vs = [.ref l, .ref a] ∧ H l = some (.lst (erefs A)) ∧ ElsAt H A ∧ A.length ≤ 12 ∧ SqT K H a (ss.map V.str) ∧ ss.length ≤ 4 ∧
  ∀ H' r (Z : Nts), Same H H' → H r = none → H' r = some (.lst (nrefs Z)) → NtsF H' Z → Z.map (·.2) = ordersN (ents A) ss → Q (.ref r) H'
theorem sc_lord : FnScope ["_law_entries", "_law_some", "_law_found", "_law_turn", "_law_late", "_law_one", "_law_good", "_law_pairs", "_law_name", "_law_pair"] ["_law_entries", "_law_some"] (defScope s__law_orders) := ⟨rfl, rfl, rfl, by decide +kernel, rfl, by decide +kernel, by decide +kernel⟩
theorem ok_lord (T : Txt K mg) : Ok P w K mg base (a__law_orders K) ["_law_entries", "_law_some"] 1 (spLOrd K) := by
  refine ok_of T.f__law_orders sc_lord (fun _ _ _ _ _ _ us hl => match us, hl with | [_, _], _ => rfl) (fun vs H Q E h => ?_) (fun cdv A' outer s H vs Q E hr h => ?_)
  · obtain ⟨l, a, A, ss, rfl, _⟩ := h
    rfl
  · obtain ⟨l, a, A, ss, rfl, hl, hA, few, ha, s4, kk⟩ := h
    refine ⟨_, (pss_cons (ps_set (i := 2) sc_lord.nd rfl (Or.inl rfl) (pe_lst (pa_cons (pe_tupF pa_nil) pa_nil)))
      (pss_cons (ps_for PassesOwn.never rfl (pi_tup (pv 1)) (pg_name (i := 3) sc_lord.nd rfl (Or.inl rfl)) (pss_cons (ps_set (i := 4) sc_lord.nd rfl (Or.inl rfl) (pe_lst pa_nil))
      (pss_cons (ps_for PassesOwn.never rfl (pi_list (pv 2)) (pg_name (i := 5) sc_lord.nd rfl (Or.inr rfl)) (pss_one (ps_set (i := 4) sc_lord.nd rfl (Or.inl rfl) (pe_op op_cat (pv 4) (pe_lc (own := [("_law_name", 8)]) (g := (gName 8)) rfl sc_lord.nd (pi_tup (pv 1)) (blkOk_by (own := [("_law_name", 8)]) (N := ["_law_entries", "_law_some", "_law_found", "_law_turn", "_law_late", "_law_one", "_law_good", "_law_pairs", "_law_name", "_law_pair"]) (sc := defScope s__law_orders) (by decide +kernel)) (fun _ _ _ _ _ => (pg_name (i := 8) sc_lord.nd rfl (Or.inl rfl))) (fun _ _ _ _ _ => (pts_one (pt_cmpR (op_notInK K) (pv 8) (pv 5) (by rfl)))) (fun _ _ _ _ _ => (pe_op (op_catF K) (pv 5) (pe_tupF (pa_cons (pv 8) pa_nil)))))))))
      (pss_one (ps_set (i := 2) sc_lord.nd rfl (Or.inl rfl) (pv 4))))))
      (pss_cons (ps_set (i := 6) sc_lord.nd rfl (Or.inl rfl) (pe_lst pa_nil))
      (pss_cons (ps_for PassesOwn.never rfl (pi_list (pv 2)) (pg_name (i := 5) sc_lord.nd rfl (Or.inr rfl)) (pss_cons (ps_setLc (i := 7) (own := [("_law_pair", 9)]) (g := (gName 9)) rfl sc_lord.nd rfl rfl (sw_true rfl rfl rfl (by decide +kernel)) (pi_list (pv 0)) (blkOk_by (own := [("_law_pair", 9)]) (N := ["_law_entries", "_law_some", "_law_found", "_law_turn", "_law_late", "_law_one", "_law_good", "_law_pairs", "_law_name", "_law_pair"]) (sc := defScope s__law_orders) (by decide +kernel)) (fun _ _ _ _ _ => (pg_name (i := 9) sc_lord.nd rfl (Or.inl rfl))) (fun _ _ _ _ _ => (pts_one (PW.pt (pw_and (pt_cmpR (op_inK K) (pe_ix (ix_tupK K) (pv 9) pe_int (fun _ _ => rfl)) (pv 5) (by rfl)) (pw_and1 (pt_cmpR (op_inK K) (pe_ix (ix_tupK K) (pv 9) pe_int (fun _ _ => rfl)) (pv 5) (by rfl))))))) (fun _ _ _ _ _ => (pv 9)))
      (pss_one (ps_if (pt_not (pt_val (pe_callB (cr_any rfl) (by rfl) T.z_any (by decide +kernel) (pa_cons (pe_lc (own := [("_law_pair", 9)]) (g := (gName 9)) (tt := tYes) rfl sc_lord.nd (pi_list (pv 7)) (blkOk_by (own := [("_law_pair", 9)]) (N := ["_law_entries", "_law_some", "_law_found", "_law_turn", "_law_late", "_law_one", "_law_good", "_law_pairs", "_law_name", "_law_pair"]) (sc := defScope s__law_orders) (by decide +kernel)) (fun _ _ _ _ _ => (pg_name (i := 9) sc_lord.nd rfl (Or.inl rfl))) (fun _ _ _ _ _ => pts_nil) (fun _ _ _ _ _ => (pe_cmpR op_lt (pe_tix (pv 5) (pa_cons (pe_ix (ix_tupK K) (pv 9) pe_int (fun _ _ => rfl)) pa_nil)) (pe_tix (pv 5) (pa_cons (pe_ix (ix_tupK K) (pv 9) pe_int (fun _ _ => rfl)) pa_nil)) (nomark _)))) pa_nil)))) (pss_one (ps_expr (pe_bm PySem.F.plainAttrs_list PySem.F.slot_list_append PySem.F.type_list_append mt_append (pv 6) (pa_cons (pv 5) pa_nil)))) pss_nil))))
      (pss_one (ps_ret (pv 6))))))), ?_⟩
    have hm : (ss.map V.str).length = ss.length := List.length_map ..
    refine ⟨(by show 0 ≤ sizeLine; decide), fun t o ht ho => ⟨(by show 1 ≤ sizeLine; decide), fun f hf => ?_⟩⟩
    have s1 : Same H _ := same_upd (o := .frz o (.tup [])) ht
    have s2 : Same H _ := s1.push (o := .lst [V.ref t]) hf
    have t2 : TupF (upd (upd H t (.frz o (.tup []))) f (.lst [V.ref t])) t (([] : List Str).map V.str) := (TupF.new ho).ext (same_upd hf)
    have f2 : upd (upd H t (.frz o (.tup []))) f (.lst [V.ref t]) f = some (.lst (nrefs [(t, [])])) := upd_same
    have fn : H f = none := none_back s1 hf
    generalize upd (upd H t (.frz o (.tup []))) f (.lst [V.ref t]) = H2 at s2 t2 f2
    refine ⟨_, rfl, a, rfl, ⟨_, SqT.ext ha s2⟩, ?_⟩
    refine for_it (walk_tup (K := K) (a := a) (xs := ss.map V.str)) (fun i σ H' => ∃ (f : Addr) (Z : Nts) (x3 x4 x5 : Option V), σ = [some (.ref l), some (.ref a), some (.ref f), x3, x4, x5, none, none, none, none] ∧ Same H H' ∧ H' f = some (.lst (nrefs Z)) ∧ NtsF H' Z ∧ Z.map (·.2) = permsN ss i) ⟨f, [(t, [])], _, _, _, rfl, s2, f2, (fun p hp => by obtain rfl := List.mem_singleton.mp hp; exact t2), rfl⟩ (fun i σ H' _ ⟨_, _, _, _, _, _, z, _⟩ => SqT.ext ha z) (fun i v σ H3 H3' hi inv yy => ?_) (fun σ H3 inv => ?_)
    · obtain ⟨f, Z, x3, x4, x5, rfl, s3, f3, n3, c3⟩ := inv
      obtain ⟨rfl, hv⟩ := yy
      rw [hm] at hi
      have zl : Z.length ≤ 256 := by rw [nts_len c3]; exact perms_256 s4 (by omega)
      have zm : (nrefs Z).length = Z.length := nrefs_len Z
      refine ⟨(by show 0 ≤ sizeLine; decide), fun c hc => ?_⟩
      have s4' : Same H3' _ := same_upd (o := .lst []) hc
      have c4 : upd H3' c (.lst []) c = some (.lst (nrefs [])) := upd_same
      generalize upd H3' c (.lst []) = H4 at s4' c4
      have s34 := s3.trans s4'
      refine ⟨_, rfl, f, rfl, ⟨_, SqL.of (s4' _ _ f3)⟩, ?_⟩
      refine for_it (walk_list (K := K) (a := f) (xs := nrefs Z)) (fun j σ H' => ∃ (c : Addr) (Y : Nts) (x5 : Option V), σ = [some (.ref l), some (.ref a), some (.ref f), some v, some (.ref c), x5, none, none, none, none] ∧ Same H3' H' ∧ H' c = some (.lst (nrefs Y)) ∧ NtsF H' Y ∧ Y.map (·.2) = stepN ss ((Z.map (·.2)).take j)) ⟨c, [], _, rfl, s4', c4, (fun p hp => by cases hp), by rw [List.take_zero] <;> rfl⟩ (fun j σ H' _ ⟨_, _, _, _, z, _⟩ => SqL.of (z _ _ f3)) (fun j v5 σ H5 H5' hj inv yy => ?_) (fun σ H5 inv => ?_)
      · obtain ⟨c, Y, x5, rfl, s5, c5, n5, e5⟩ := inv
        obtain ⟨rfl, hv5⟩ := yy
        have hjZ : j < Z.length := by rw [← zm]; exact hj
        unfold nrefs at hv5
        rw [List.getElem?_map, List.getElem?_eq_getElem hjZ] at hv5
        obtain rfl := (Option.some.inj hv5).symm
        have mem : Z[j] ∈ Z := List.getElem_mem hjZ
        have tz := (n3 _ mem).ext s5
        have ha5 := SqT.ext ha (s3.trans s5)
        have o4 : Z[j].2.length = i := ((perms_mem i _).mp (by rw [← c3]; exact List.mem_map.mpr ⟨Z[j], mem, rfl⟩)).2.1
        have yl : Y.length ≤ 1000 := by
          rw [nts_len e5]
          refine Nat.le_trans (step_len s4 _) ?_
          rw [List.length_take, List.length_map]
          have : i ≤ 3 := by omega
          have q1 : Z.length ≤ 4 ^ i := by rw [nts_len c3]; exact perms_len s4 i
          have q2 : 4 ^ i ≤ 4 ^ 3 := Nat.pow_le_pow_right (by decide) this
          omega
        refine ⟨_, rfl, _, rfl, a, rfl, ⟨_, ha5⟩, fun D hD => ?_⟩
        refine lc_it (walk_tup (K := K) (a := a) (xs := ss.map V.str)) (fun k H' => ∃ W : Nts, Same H5' H' ∧ H' D = some (.lst (nrefs W)) ∧ NtsF H' W ∧ W.map (·.2) = ((ss.take k).filter fun y => !decide (y ∈ Z[j].2)).map fun y => Z[j].2 ++ [y]) ⟨[], same_upd hD, upd_same, (fun p hp => by cases hp), rfl⟩ (fun k H' _ ⟨_, z, _⟩ => SqT.ext ha5 z) (fun k x H6 H6' hk inv yy => ?_) (fun H6 inv => ?_)
        · obtain ⟨W, s6, d6, n6, e6⟩ := inv
          obtain ⟨rfl, hx⟩ := yy
          obtain ⟨y, hy, rfl⟩ := strs_at' hx
          have tz6 := tz.ext s6
          refine ⟨rfl, _, rfl, _, rfl, Z[j].1, _, rfl, .inr tz6.sq, rfl, strs_flat _, _, rfl, ?_⟩
          rw [inV_strs]
          have wl : W.length ≤ 4 := by
            rw [nts_len e6, List.length_map]
            refine Nat.le_trans (List.length_filter_le _ _) ?_
            rw [List.length_take]
            omega
          have et : ((ss.take (k + 1)).filter fun y => !decide (y ∈ Z[j].2)) = ((ss.take k).filter fun y => !decide (y ∈ Z[j].2)) ++ if y ∈ Z[j].2 then [] else [y] := by
            rw [List.take_add_one, hy, Option.toList_some, List.filter_append]
            congr 1
            by_cases hb : y ∈ Z[j].2
            · rw [if_pos hb, List.filter_cons, decide_eq_true hb] <;> rfl
            · rw [if_neg hb, List.filter_cons, decide_eq_false hb] <;> rfl
          by_cases hb : y ∈ Z[j].2
          · rw [decide_eq_true hb]
            refine iteF ⟨W, s6, d6, n6, ?_⟩
            rw [et, if_pos hb, List.append_nil]
            exact e6
          · rw [decide_eq_false hb]
            refine iteT ⟨_, rfl, _, rfl, (by show 1 ≤ sizeLine; decide), fun t2 o2 ht2 ho2 => ?_⟩
            have s7 : Same H6' _ := same_upd (o := .frz o2 (.tup [V.str y])) ht2
            have t7 : TupF (upd H6' t2 (.frz o2 (.tup [V.str y]))) t2 (([y] : List Str).map V.str) := TupF.new ho2
            generalize upd H6' t2 (.frz o2 (.tup [V.str y])) = H7 at s7 t7
            have step : ∀ (H8 : Hp) (q : Addr), Same H6' H8 → TupF H8 q ((Z[j].2 ++ [y]).map V.str) → ∃ acc, H8 D = some (.lst acc) ∧ acc.length < sizeLine ∧ ∃ W : Nts, Same H5' (upd H8 D (.lst (acc ++ [V.ref q]))) ∧ upd H8 D (.lst (acc ++ [V.ref q])) D = some (.lst (nrefs W)) ∧ NtsF (upd H8 D (.lst (acc ++ [V.ref q]))) W ∧ W.map (·.2) = ((ss.take (k + 1)).filter fun y => !decide (y ∈ Z[j].2)).map fun y => Z[j].2 ++ [y] := fun H8 q s8 q8 => by
              have d8 := s8 _ _ d6
              refine ⟨_, d8, small1000 (by rw [nrefs_len]; omega), W ++ [(q, Z[j].2 ++ [y])], fun b u e => ?_, ?_, NtsF.off d8 ((n6.ext s8).snoc q8), ?_⟩
              · rw [upd_ne (ne_of_none e hD)]
                exact s8 _ _ (s6 _ _ e)
              · rw [upd_same, nrefs_snoc]
              · rw [List.map_append, e6, et, if_neg hb, List.map_append] <;> rfl
            refine ⟨Z[j].1, t2, Z[j].2.map V.str, [V.str y], rfl, rfl, (tz6.ext s7).sq, t7.sq, ?_, fun e => ?_, fun _ z => absurd z (List.cons_ne_nil _ _), fun _ _ q o3 hq ho3 => ?_⟩
            · rw [List.length_map, List.length_singleton]
              exact Nat.le_trans (show Z[j].2.length + 1 ≤ 1000 by omega) (by decide)
            · refine step _ t2 s7 ?_
              have e0 : Z[j].2 = [] := List.map_eq_nil_iff.mp e
              rw [e0]
              exact t7
            · refine step _ q (s7.push hq) ?_
              rw [List.map_append]
              exact TupF.new ho3
        · obtain ⟨W, s6, d6, n6, e6⟩ := inv
          rw [hm, List.take_length] at e6
          have c6 := s6 _ _ c5
          have wl : W.length ≤ 4 := by
            rw [nts_len e6, List.length_map]
            exact Nat.le_trans (List.length_filter_le _ _) s4
          refine ⟨c, D, _, _, rfl, rfl, c6, d6, ?_, fun p hp => ?_⟩
          · rw [nrefs_len, nrefs_len]
            exact Nat.le_trans (show Y.length + W.length ≤ 2000 by omega) (by decide)
          · have s7 : Same H6 _ := same_upd (o := .lst (nrefs Y ++ nrefs W)) hp
            refine ⟨p, Y ++ W, _, rfl, (s5.trans s6).trans s7, ?_, nts_app ((n5.ext s6).ext s7) (n6.ext s7), ?_⟩
            · rw [upd_same, nrefs_app]
            · have tk : (Z.map (·.2)).take (j + 1) = (Z.map (·.2)).take j ++ [Z[j].2] := by rw [List.take_add_one, List.getElem?_map, List.getElem?_eq_getElem hjZ] <;> rfl
              rw [List.map_append, e5, e6, tk, step_snoc]
      · obtain ⟨c, Y, x5, rfl, s5, c5, n5, e5⟩ := inv
        rw [List.take_of_length_le (by rw [zm, List.length_map]; exact Nat.le_refl _), c3] at e5
        exact ⟨_, rfl, c, Y, _, _, _, rfl, s3.trans s5, c5, n5, e5⟩
    · obtain ⟨f, Z, x3, x4, x5, rfl, s3, f3, n3, c3⟩ := inv
      rw [hm] at c3
      have zl : Z.length ≤ 256 := by rw [nts_len c3]; exact perms_256 s4 s4
      have zm : (nrefs Z).length = Z.length := nrefs_len Z
      refine ⟨(by show 0 ≤ sizeLine; decide), fun g hg => ?_⟩
      have gn : H g = none := none_back s3 hg
      have s5 : Same H3 _ := same_upd (o := .lst []) hg
      have g5 : upd H3 g (.lst []) g = some (.lst (nrefs [])) := upd_same
      generalize upd H3 g (.lst []) = H5 at s5 g5
      refine ⟨_, rfl, f, rfl, ⟨_, SqL.of (s5 _ _ f3)⟩, ?_⟩
      refine for_it (walk_list (K := K) (a := f) (xs := nrefs Z)) (fun j σ H' => ∃ (Y : Nts) (y5 y7 : Option V), σ = [some (.ref l), some (.ref a), some (.ref f), x3, x4, y5, some (.ref g), y7, none, none] ∧ Same H3 H' ∧ H' g = some (.lst (nrefs Y)) ∧ NtsF H' Y ∧ Y.map (·.2) = ((Z.map (·.2)).take j).filter (fitN (ents A))) ⟨[], _, _, rfl, s5, g5, (fun p hp => by cases hp), by rw [List.take_zero] <;> rfl⟩ (fun j σ H' _ ⟨_, _, _, _, z, _⟩ => SqL.of (z _ _ f3)) (fun j v5 σ H6 H6' hj inv yy => ?_) (fun σ H6 inv => ?_)
      · obtain ⟨Y, y5, y7, rfl, s6, g6, n6, e6⟩ := inv
        obtain ⟨rfl, hv5⟩ := yy
        have hjZ : j < Z.length := by rw [← zm]; exact hj
        unfold nrefs at hv5
        rw [List.getElem?_map, List.getElem?_eq_getElem hjZ] at hv5
        obtain rfl := (Option.some.inj hv5).symm
        have mem : Z[j] ∈ Z := List.getElem_mem hjZ
        have tz := (n3 _ mem).ext s6
        have s06 := s3.trans s6
        have l6 := s06 _ _ hl
        have A6 := hA.ext s06
        have al : (erefs A).length = A.length := List.length_map ..
        have yl : Y.length ≤ 256 := by
          rw [nts_len e6]
          refine Nat.le_trans (List.length_filter_le _ _) ?_
          rw [List.length_take, List.length_map]
          omega
        have tk : ((Z.map (·.2)).take (j + 1)).filter (fitN (ents A)) = ((Z.map (·.2)).take j).filter (fitN (ents A)) ++ if fitN (ents A) Z[j].2 = true then [Z[j].2] else [] := by
          rw [List.take_add_one, List.getElem?_map, List.getElem?_eq_getElem hjZ, Option.map_some, Option.toList_some, List.filter_append, List.filter_cons, List.filter_nil]
        generalize eo : Z[j].2 = one at tz tk
        refine ⟨_, rfl, l, rfl, ⟨_, SqL.of l6⟩, fun D hD => ?_⟩
        refine lc_it (walk_list (K := K) (a := l) (xs := erefs A)) (fun k H' => ∃ B : Els, Same H6' H' ∧ H' D = some (.lst (erefs B)) ∧ (∀ z ∈ B, z ∈ A) ∧ ents B = (ents (A.take k)).filter (bothIn one)) ⟨[], same_upd hD, upd_same, (fun z hz => by cases hz), by rw [List.take_zero] <;> rfl⟩ (fun k H' _ ⟨_, z, _⟩ => SqL.of (z _ _ l6)) (fun k x H7 H7' hk inv yy => ?_) (fun H7 inv => ?_)
        · obtain ⟨B, s7, d7, m7, e7⟩ := inv
          obtain ⟨rfl, hx⟩ := yy
          have hkA : k < A.length := by rw [← al]; exact hk
          unfold erefs at hx
          rw [List.getElem?_map, List.getElem?_eq_getElem hkA] at hx
          obtain rfl := (Option.some.inj hx).symm
          have amem : A[k] ∈ A := List.getElem_mem hkA
          have pz := (A6.ext s7) _ amem
          have tz7 := tz.ext s7
          have bl : B.length ≤ A.length := by
            have := congrArg List.length e7
            unfold ents at this
            rw [List.length_map] at this
            rw [this]
            refine Nat.le_trans (List.length_filter_le _ _) ?_
            rw [List.length_map, List.length_take]
            omega
          have et : (ents (A.take (k + 1))).filter (bothIn one) = (ents (A.take k)).filter (bothIn one) ++ if bothIn one A[k].2 = true then [A[k].2] else [] := by
            unfold ents
            rw [List.take_add_one, List.getElem?_eq_getElem hkA, Option.toList_some, List.map_append, List.filter_append, List.map_singleton, List.filter_cons, List.filter_nil]
          refine ⟨rfl, _, rfl, A[k].1, _, ((0 : Nat) : Int), _, rfl, rfl, SqT.of pz, atI_nat rfl, _, rfl, Z[j].1, _, rfl, .inr tz7.sq, rfl, strs_flat _, _, rfl, ?_⟩
          rw [inV_strs]
          have no : bothIn one A[k].2 = false → ∃ B : Els, Same H6' H7' ∧ H7' D = some (.lst (erefs B)) ∧ (∀ z ∈ B, z ∈ A) ∧ ents B = (ents (A.take (k + 1))).filter (bothIn one) := fun q => ⟨B, s7, d7, m7, by rw [et, q, e7]; simp⟩
          by_cases h1 : A[k].2.1 ∈ one
          · rw [decide_eq_true h1]
            refine iteT ⟨_, rfl, A[k].1, _, ((1 : Nat) : Int), _, rfl, rfl, SqT.of pz, atI_nat rfl, _, rfl, Z[j].1, _, rfl, .inr tz7.sq, rfl, strs_flat _, _, rfl, ?_⟩
            rw [inV_strs]
            by_cases h2 : A[k].2.2 ∈ one
            · rw [decide_eq_true h2]
              have yes : bothIn one A[k].2 = true := by unfold bothIn; rw [decide_eq_true h1, decide_eq_true h2] <;> rfl
              refine iteT ⟨_, rfl, _, d7, small1000 (by unfold erefs; rw [List.length_map]; omega), B ++ [A[k]], fun b u e => ?_, ?_, fun z hz => ?_, ?_⟩
              · rw [upd_ne (ne_of_none e hD)]
                exact s7 _ _ e
              · rw [upd_same]
                unfold erefs
                rw [List.map_append] <;> rfl
              · rcases List.mem_append.mp hz with q | q
                · exact m7 z q
                · rw [List.mem_singleton.mp q]
                  exact amem
              · rw [et, yes, if_pos rfl, ← e7]
                unfold ents
                rw [List.map_append] <;> rfl
            · rw [decide_eq_false h2]
              exact iteF (no (by unfold bothIn; rw [decide_eq_false h2, Bool.and_false]))
          · rw [decide_eq_false h1]
            exact iteF (no (by unfold bothIn; rw [decide_eq_false h1, Bool.false_and]))
        · obtain ⟨B, s7, d7, m7, e7⟩ := inv
          rw [al, List.take_length] at e7
          have B7 : ElsAt H7 B := fun z hz => (A6.ext s7) z (m7 z hz)
          have tz7 := tz.ext s7
          have bm : (erefs B).length = B.length := List.length_map ..
          have bl : B.length ≤ 12 := by
            have := congrArg List.length e7
            unfold ents at this
            rw [List.length_map] at this
            rw [this]
            refine Nat.le_trans (List.length_filter_le _ _) ?_
            rw [List.length_map]
            exact few
          have bin : ∀ z ∈ B, z.2.1 ∈ one ∧ z.2.2 ∈ one := fun z hz => by
            have q : z.2 ∈ ents B := List.mem_map.mpr ⟨z, hz, rfl⟩
            rw [e7] at q
            have := (List.mem_filter.mp q).2
            unfold bothIn at this
            rw [Bool.and_eq_true] at this
            exact ⟨of_decide_eq_true this.1, of_decide_eq_true this.2⟩
          refine ⟨_, rfl, D, rfl, ⟨_, SqL.of d7⟩, fun D2 hD2 => ?_⟩
          refine lcL_map (K := K) (a := D) (xs := erefs B) (B.map fun z => V.bl (decide (one.idxOf z.2.2 < one.idxOf z.2.1))) hD2 (SqL.of d7) (by rw [bm]; omega) (by rw [bm, List.length_map]) (fun k x v H8 Qe hx hv s8 kq => ?_) fun H8 s8 e8 => ?_
          · unfold erefs at hx
            rw [List.getElem?_map] at hx hv
            obtain ⟨z, hz, rfl⟩ := Option.map_eq_some_iff.mp hx
            rw [hz] at hv
            obtain rfl := Option.some.inj hv
            have zm := List.mem_of_getElem? hz
            have pz := (B7.ext s8) z zm
            obtain ⟨b1, b2⟩ := bin z zm
            have tz8 := tz7.ext s8
            refine ⟨_, rfl, Z[j].1, one, rfl, tz8, _, rfl, z.1, _, ((1 : Nat) : Int), _, rfl, rfl, SqT.of pz, atI_nat rfl, _, rfl, tz8, b2, _, rfl, Z[j].1, one, rfl, tz8, _, rfl, z.1, _, ((0 : Nat) : Int), _, rfl, rfl, SqT.of pz, atI_nat rfl, _, rfl, tz8, b1, _, _, rfl, rfl, ?_⟩
            have := kq H8 (Same.refl _)
            dsimp only at this
            rw [show decide (one.idxOf z.2.2 < one.idxOf z.2.1) = decide (((one.idxOf z.2.2 : Nat) : Int) < ((one.idxOf z.2.1 : Nat) : Int)) from decide_eq_decide.mpr (by omega)] at this
            exact this
          · refine ⟨D2, B.map fun z => decide (one.idxOf z.2.2 < one.idxOf z.2.1), rfl, ?_, _, rfl, ?_⟩
            · rw [List.map_map]
              exact SqL.of e8
            have ea : (B.map fun z => decide (one.idxOf z.2.2 < one.idxOf z.2.1)).any id = !fitN (ents A) one := by
              unfold fitN
              rw [← e7, Bool.not_not, List.any_map]
              unfold ents
              rw [List.any_map] <;> rfl
            rw [ea]
            have s68 := s7.trans s8
            have g8 := s68 _ _ g6
            have n8 := n6.ext s68
            cases hf : fitN (ents A) one with
            | false =>
              refine iteF ⟨Y, _, _, rfl, s6.trans s68, g8, n8, ?_⟩
              rw [tk, hf, e6]
              simp
            | true =>
              refine iteT ⟨_, rfl, .inl ⟨rfl, _, SqL.of g8⟩, _, rfl, g, _, _, rfl, rfl, g8, small1000 (by rw [nrefs_len]; omega), Y ++ [(Z[j].1, one)], _, _, rfl, fun b u e => ?_, ?_, NtsF.off g8 (n8.snoc (tz7.ext s8)), ?_⟩
              · rw [upd_ne (ne_of_none e hg)]
                exact s68 _ _ (s6 _ _ e)
              · rw [upd_same, nrefs_snoc]
              · rw [List.map_append, e6, tk, hf, if_pos rfl] <;> rfl
      · obtain ⟨Y, y5, y7, rfl, s6, g6, n6, e6⟩ := inv
        rw [List.take_of_length_le (by rw [zm, List.length_map]; exact Nat.le_refl _), c3] at e6
        exact ⟨_, rfl, kk _ g Y (s3.trans s6) gn g6 n6 e6⟩
end
end OP
namespace OP
open PySem PySem.Spec PyProof.Rows GenW L2 LamX
/-- all orders of a set end alike -/
def Agree (E : Ents) (L : Rws) (x : List Int) (ss : List Str) : Prop := ∀ o ∈ ordersN E ss, ∀ o2 ∈ ordersN E ss, appAll L o x = appAll L o2 x
theorem orders_ord {E : Ents} {ss o : List Str} (h : o ∈ ordersN E ss) : o.Nodup ∧ o.length = ss.length ∧ ∀ y ∈ o, y ∈ ss := (perms_mem _ _).mp (List.mem_filter.mp h).1
theorem ElsAt.exn {H H' : Hp} {A : Els} (s : ExtN H H') (h : ElsAt H A) : ElsAt H' A := fun z hz => s _ _ (h z hz) (fun _ q => by cases q)
theorem orders_256 (E : Ents) {ss : List Str} (h : ss.length ≤ 4) : (ordersN E ss).length ≤ 256 := Nat.le_trans (List.length_filter_le _ _) (perms_256 h h)
section
variable {P : Program} {w : PySem.World} {K : PySem.W.Frag} {mg : Str → Option Value} {base : Heap}
def spLEndT (K : PySem.W.Frag) : Sp := fun vs H Q _ => ∃ (t st o : Addr) (n : Nat) (S : Sts) (L : Rws) (xs : List Int) (ys : List Str), vs = [.ref t, .ref st, .ref o] ∧ DrAt H t n S L ∧ WOk n S L ∧ H st = some (.tup (xs.map V.int)) ∧ StoreOk xs ∧ xs.length = n ∧ SqT K H o (ys.map V.str) ∧ (∀ y ∈ ys, y ∈ names L) ∧
  ∀ H' r, Same H H' → H' r = some (.tup ((appAll L ys xs).map V.int)) → Q (.ref r) H'
theorem ok_lendT (T : Txt K mg) : Ok P w K mg base (a__law_end K) ["_law_drawn_here", "_law_store", "_law_order"] 3 (spLEndT K) := by
  have GA : Ok P w K mg base (a__law_after K) _ 2 (spAfter K 1) := ok_after T
  refine ok_of T.f__law_end sc_lend (fun _ _ _ _ _ _ us hl => match us, hl with | [_, _, _], _ => rfl) (fun vs H Q E h => ?_) (fun cdv A outer s0 H vs Q E hr h => ?_)
  · obtain ⟨t, st, o, n, S, L, xs, ys, rfl, _⟩ := h
    rfl
  · obtain ⟨t, st, o, n, S, L, xs, ys, rfl, D, ok, hst, sx, hn, ho, hin, kk⟩ := h
    obtain ⟨⟨l, d, ht, hl, hd⟩, _, hL⟩ := id D
    refine ⟨_, (pss_cons (ps_for PassesOwn.never rfl (pi_tup (pv 2)) (pg_name (i := 3) sc_lend.nd rfl (Or.inl rfl)) (pss_one (ps_set (i := 1) sc_lend.nd rfl (Or.inl rfl) (pe_c GA hr T.g__law_after (pa_cons (pe_dget (hu_of hr) (pe_ix ix_tup (pv 0) pe_int (fun _ _ => rfl)) (pv 3) (fun _ _ => rfl)) (pa_cons (pv 1) pa_nil))))))
      (pss_one (ps_ret (pv 1)))), ?_⟩
    have hm : (ys.map V.str).length = ys.length := List.length_map ..
    refine ⟨_, rfl, o, rfl, ⟨_, ho⟩, ?_⟩
    refine for_it (walk_tup (K := K) (a := o) (xs := ys.map V.str)) (fun i σ H' => ∃ r v zs, σ = [some (.ref t), some (.ref r), some (.ref o), v] ∧ Same H H' ∧ zs = appAll L (ys.take i) xs ∧ StoreOk zs ∧ zs.length = n ∧ H' r = some (.tup (zs.map V.int))) ⟨st, none, xs, rfl, Same.refl _, rfl, sx, hn, hst⟩ (fun i σ H' _ ⟨_, _, _, _, z, _⟩ => SqT.ext ho z) (fun i x σ H1 H1' hi inv yy => ?_) (fun σ H1 inv => ?_)
    · obtain ⟨r, v, zs, rfl, s3, ez, sz, hz, hr'⟩ := inv
      obtain ⟨rfl, hx⟩ := yy
      obtain ⟨y, hy, rfl⟩ := strs_at' hx
      obtain ⟨j, hj, rfl⟩ := mem_names (hin y (List.mem_of_getElem? hy))
      have mem : L[j] ∈ L := List.getElem_mem hj
      have ch := ok.chgs.chg _ mem
      have hlt : ∀ z ∈ L[j].2.2.slots, z < (zs.length : Int) := fun z h => by rw [hz]; exact ch.2 z h
      refine ⟨_, rfl, t, _, 2, _, rfl, rfl, SqT.of (s3 _ _ ht), rfl, _, rfl, d, V.ref L[j].2.1, rfl, .inl ⟨kvs L, Sum.inr L[j].1, .inl (s3 _ _ hd), rfl, (valV_kvs ok.chgs.nd hj).symm⟩, _, rfl, L[j].2.1, r, L[j].2.2, zs, rfl, (hL _ mem).kp (Keep.of s3), ch.1, fun z => (by cases z), hr', hlt, by rw [hz]; have := ok.n3; omega, fun H4 r2 s4 e4 => ?_⟩
      have ap := Chg.app_ok ch.1 sz hlt
      refine ⟨r2, _, L[j].2.2.app zs, rfl, s3.trans s4, ?_, ap.1, ap.2.trans hz, e4⟩
      rw [ez, List.take_add_one, hy]
      unfold appAll
      rw [List.foldl_append]
      show _ = (chgOf L L[j].1).app _
      rw [chgOf_at ok.chgs.nd hj]
    · obtain ⟨r, v, zs, rfl, s3, ez, sz, hz, hr'⟩ := inv
      refine ⟨_, rfl, kk H1 r s3 ?_⟩
      rw [hr', ez, hm, List.take_length]
def spLSplit (K : PySem.W.Frag) (TT : List (Addr × Str)) : Sp := fun vs H Q _ => ∃ (t l : Addr) (n m : Nat) (S : Sts) (L : Rws) (A : Els), vs = [.ref t, .ref l] ∧ DrAt H t n S L ∧ WOk n S L ∧ 2 ≤ m ∧ m ≤ 4 ∧ names L = allNames.take m ∧ H l = some (.lst (erefs A)) ∧ ElsAt H A ∧ A.length ≤ 12 ∧ Tabs TT H ∧
  ∀ (H' : Hp) (v : V), ExtN H H' → Tabs TT H' → ((v = .non ∧ ∀ s ∈ S, ∀ ss ∈ setsOf (allNames.take m), Agree (ents A) L s.2 ss) ∨ ∃ a, v = .ref a) → Q v H'
theorem sc_lspl : FnScope ["_law_drawn_here", "_law_entries", "_law_store", "_law_some", "_law_orders_told", "_law_other"] ["_law_drawn_here", "_law_entries"] (defScope s__law_split) := ⟨rfl, rfl, rfl, by decide +kernel, rfl, by decide +kernel, by decide +kernel⟩
theorem ok_lsplit (T : Txt K mg) {Pt : Addr} {TT : List (Addr × Str)} (LT : LamTab K mg base Pt) (hmT : (Pt, lamQ) ∈ TT) (huT : ∀ q ∈ TT, q.1 = Pt → q.2 = lamQ) : Ok P w K mg base (a__law_split K) ["_law_drawn_here", "_law_entries"] 6 (spLSplit K TT) := by
  have GL : Ok P w K mg base (a__law_sets K) _ 5 (spLSets K TT) := ok_lsets T LT hmT huT
  have GO : Ok P w K mg base (a__law_orders K) _ 1 (spLOrd K) := ok_lord T
  have GE : Ok P w K mg base (a__law_end K) _ 3 (spLEndT K) := ok_lendT T
  refine ok_of T.f__law_split sc_lspl (fun _ _ _ _ _ _ us hl => match us, hl with | [_, _], _ => rfl) (fun vs H Q E h => ?_) (fun cdv A' outer s0 H vs Q E hr h => ?_)
  · obtain ⟨t, l, n, m, S, L, A, rfl, _⟩ := h
    rfl
  · obtain ⟨t, l, n, m, S, L, A, rfl, D, ok, m2, m4, nm, hl, hA, few, tabs, kk⟩ := h
    have hr1 : Room 1 _ := hr.mono (by decide)
    have hr3 : Room 3 _ := hr.mono (by decide)
    refine ⟨_, (pss_cons (ps_for PassesOwn.never rfl (pi_list (pe_ix ix_tup (pv 0) pe_int (fun _ _ => rfl))) (pg_name (i := 2) sc_lspl.nd rfl (Or.inl rfl)) (pss_one (ps_for PassesOwn.never rfl (pi_list (pe_c GL hr T.g__law_sets (pa_cons (pe_callTy (call_list_dK rfl) (by rfl) T.z_list (by decide +kernel) (pa_cons (pe_ix ix_tup (pv 0) pe_int (fun _ _ => rfl)) pa_nil)) pa_nil))) (pg_name (i := 3) sc_lspl.nd rfl (Or.inl rfl)) (pss_cons (ps_set (i := 4) sc_lspl.nd rfl (Or.inl rfl) (pe_c GO hr1 T.g__law_orders (pa_cons (pv 1) (pa_cons (pv 3) pa_nil))))
      (pss_one (ps_for PassesOwn.never rfl (pi_list (pv 4)) (pg_name (i := 5) sc_lspl.nd rfl (Or.inl rfl)) (pss_one (ps_if (pt_cmpR (op_neD (room64 hr)) (pe_c GE hr3 T.g__law_end (pa_cons (pv 0) (pa_cons (pv 2) (pa_cons (pv 5) pa_nil)))) (pe_c GE hr3 T.g__law_end (pa_cons (pv 0) (pa_cons (pv 2) (pa_cons (pe_ix ix_list (pv 4) pe_int (fun _ _ => rfl)) pa_nil)))) (nomark _)) (pss_one (ps_ret (pe_tup (pa_cons (pv 2) (pa_cons (pe_ix ix_list (pv 4) pe_int (fun _ _ => rfl)) (pa_cons (pv 5) pa_nil)))))) pss_nil))))))))
      (pss_one (ps_ret pe_non))), ?_⟩
    obtain ⟨⟨l0, d, ht, hl0, hd⟩, hS, _⟩ := id D
    have sm : (refs S).length = S.length := List.length_map ..
    have s8 := ok.sts.hi
    have so := sub_ok m2 m4
    have tupN : ∀ {a : Addr} {xs : List V} {H1 H2 : Hp}, ExtN H1 H2 → H1 a = some (.tup xs) → H2 a = some (.tup xs) := fun e q => e _ _ q (fun _ z => by cases z)
    refine ⟨_, rfl, t, _, 1, _, rfl, rfl, SqT.of ht, rfl, l0, rfl, ⟨_, SqL.of hl0⟩, ?_⟩
    refine for_it (walk_list (K := K) (a := l0) (xs := refs S)) (fun i σ H' => ∃ (x2 x3 x4 x5 : Option V), σ = [some (.ref t), some (.ref l), x2, x3, x4, x5] ∧ ExtN H H' ∧ Tabs TT H' ∧ ∀ s ∈ S.take i, ∀ ss ∈ setsOf (allNames.take m), Agree (ents A) L s.2 ss) ⟨_, _, _, _, rfl, ExtN.refl _, tabs, fun s hs => by rw [List.take_zero] at hs; cases hs⟩ (fun i σ H' _ ⟨_, _, _, _, _, z, _⟩ => SqL.of (z _ _ hl0 (fun _ q => by cases q))) (fun i v σ H1 H1' hi inv yy => ?_) (fun σ H1 inv => ?_)
    · obtain ⟨x2, x3, x4, x5, rfl, e1, t1, ag⟩ := inv
      obtain ⟨rfl, hv⟩ := yy
      have hiS : i < S.length := by rw [← sm]; exact hi
      unfold refs at hv
      rw [List.getElem?_map, List.getElem?_eq_getElem hiS] at hv
      obtain rfl := (Option.some.inj hv).symm
      have smem : S[i] ∈ S := List.getElem_mem hiS
      obtain ⟨sok, sln⟩ := ok.sts.each _ smem
      refine ⟨_, rfl, t, _, 2, _, rfl, rfl, SqT.of (tupN e1 ht), rfl, d, _, rfl, e1 _ _ hd (fun _ q => by cases q), fun q hq => ?_⟩
      rw [kvs_keys, nm]
      have s2 : Same H1' _ := same_upd (o := .lst ((allNames.take m).map V.str)) hq
      have q2 : upd H1' q (.lst ((allNames.take m).map V.str)) q = some (.lst ((allNames.take m).map V.str)) := upd_same
      generalize upd H1' q (.lst ((allNames.take m).map V.str)) = H2 at s2 q2
      refine ⟨q, m, rfl, m2, m4, q2, t1.ext s2, fun H3 r Z e3 t3 r3 n3 c3 => ⟨r, rfl, ⟨_, SqL.of r3⟩, ?_⟩⟩
      have e13 : ExtN H H3 := (e1.trans (ExtN.of s2)).trans e3
      have D3 : DrAt H3 t n S L := DrAt.kn e13.n D
      have zm : (nrefs Z).length = Z.length := nrefs_len Z
      have st3 : H3 S[i].1 = some (.tup (S[i].2.map V.int)) := tupN e13 (hS _ smem)
      have l3 : H3 l = some (.lst (erefs A)) := e13 _ _ hl (fun _ q => by cases q)
      have A3 := hA.exn e13
      refine for_it (walk_list (K := K) (a := r) (xs := nrefs Z)) (fun k σ H' => ∃ (x3 x4 x5 : Option V), σ = [some (.ref t), some (.ref l), some (.ref S[i].1), x3, x4, x5] ∧ Same H3 H' ∧ ∀ ss ∈ (Z.map (·.2)).take k, Agree (ents A) L S[i].2 ss) ⟨_, _, _, rfl, Same.refl _, fun s hs => by rw [List.take_zero] at hs; cases hs⟩ (fun k σ H' _ ⟨_, _, _, _, z, _⟩ => SqL.of (z _ _ r3)) (fun k v σ H4 H4' hk inv yy => ?_) (fun σ H4 inv => ?_)
      · obtain ⟨x3, x4, x5, rfl, s4, ag4⟩ := inv
        obtain ⟨rfl, hv⟩ := yy
        have hkZ : k < Z.length := by rw [← zm]; exact hk
        unfold nrefs at hv
        rw [List.getElem?_map, List.getElem?_eq_getElem hkZ] at hv
        obtain rfl := (Option.some.inj hv).symm
        have zmem : Z[k] ∈ Z := List.getElem_mem hkZ
        have zin : Z[k].2 ∈ setsOf (allNames.take m) := by rw [← c3]; exact List.mem_map.mpr ⟨Z[k], zmem, rfl⟩
        obtain ⟨z4, zsub⟩ := so.mem _ (so.perm.mem_iff.mp zin)
        have tk : (Z.map (·.2)).take (k + 1) = (Z.map (·.2)).take k ++ [Z[k].2] := by rw [List.take_add_one, List.getElem?_map, List.getElem?_eq_getElem hkZ] <;> rfl
        refine ⟨_, rfl, _, rfl, l, Z[k].1, A, Z[k].2, rfl, s4 _ _ l3, A3.ext s4, few, SqT.of (s4 _ _ (n3 _ zmem)), z4, fun H5 r5 Y s5 _ e5 n5 c5 => ⟨_, rfl, r5, rfl, ⟨_, SqL.of e5⟩, ?_⟩⟩
        have ym : (nrefs Y).length = Y.length := nrefs_len Y
        have s35 := s4.trans s5
        have D5 := DrAt.kn (kp_same s35) D3
        have st5 := s35 _ _ st3
        have okO : ∀ o ∈ ordersN (ents A) Z[k].2, ∀ y ∈ o, y ∈ names L := fun o ho y hy => by
          rw [nm]
          exact zsub y ((orders_ord ho).2.2 y hy)
        refine for_it (walk_list (K := K) (a := r5) (xs := nrefs Y)) (fun j σ H' => ∃ (x5 : Option V), σ = [some (.ref t), some (.ref l), some (.ref S[i].1), some (.ref Z[k].1), some (.ref r5), x5] ∧ Same H5 H' ∧ ∀ o ∈ (Y.map (·.2)).take j, ∀ o0, (Y.map (·.2))[0]? = some o0 → appAll L o S[i].2 = appAll L o0 S[i].2) ⟨_, rfl, Same.refl _, fun s hs => by rw [List.take_zero] at hs; cases hs⟩ (fun j σ H' _ ⟨_, _, z, _⟩ => SqL.of (z _ _ e5)) (fun j v σ H6 H6' hj inv yy => ?_) (fun σ H6 inv => ?_)
        · obtain ⟨x5, rfl, s6, ag6⟩ := inv
          obtain ⟨rfl, hv⟩ := yy
          have hjY : j < Y.length := by rw [← ym]; exact hj
          unfold nrefs at hv
          rw [List.getElem?_map, List.getElem?_eq_getElem hjY] at hv
          obtain rfl := (Option.some.inj hv).symm
          have h0 : 0 < Y.length := by omega
          have ymem : Y[j] ∈ Y := List.getElem_mem hjY
          have y0mem : Y[0] ∈ Y := List.getElem_mem h0
          have ordIn : ∀ y ∈ Y, y.2 ∈ ordersN (ents A) Z[k].2 := fun y hy => by rw [← c5]; exact List.mem_map.mpr ⟨y, hy, rfl⟩
          have at0 : (nrefs Y)[0]? = some (V.ref Y[0].1) := by unfold nrefs; rw [List.getElem?_map, List.getElem?_eq_getElem h0] <;> rfl
          have tj : (Y.map (·.2)).take (j + 1) = (Y.map (·.2)).take j ++ [Y[j].2] := by rw [List.take_add_one, List.getElem?_map, List.getElem?_eq_getElem hjY] <;> rfl
          refine ⟨_, rfl, _, rfl, _, rfl, t, S[i].1, Y[j].1, n, S, L, S[i].2, Y[j].2, rfl, DrAt.kn (kp_same s6) D5, ok, s6 _ _ st5, sok, sln, ((n5 _ ymem).ext s6).sq, okO _ (ordIn _ ymem), fun H7 r7 s7 e7 => ?_⟩
          have s67 := s6.trans s7
          refine ⟨_, rfl, _, rfl, _, rfl, r5, _, ((0 : Nat) : Int), _, rfl, rfl, SqL.of (s67 _ _ e5), atI_nat at0, t, S[i].1, Y[0].1, n, S, L, S[i].2, Y[0].2, rfl, DrAt.kn (kp_same s67) D5, ok, s67 _ _ st5, sok, sln, ((n5 _ y0mem).ext s67).sq, okO _ (ordIn _ y0mem), fun H8 r8 s8 e8 => ?_⟩
          have s68 := s67.trans s8
          refine ⟨dT _, dT _, dp_T (s8 _ _ e7), dp_T e8, shp_T _, shp_T _, _, rfl, ?_⟩
          rw [eqv_T]
          by_cases eq : appAll L Y[j].2 S[i].2 = appAll L Y[0].2 S[i].2
          · rw [decide_eq_true eq]
            refine iteF ⟨_, rfl, s68, fun o ho o0 h0' => ?_⟩
            rw [tj] at ho
            rcases List.mem_append.mp ho with z | z
            · exact ag6 o z o0 h0'
            · rw [List.mem_singleton.mp z, eq]
              rw [List.getElem?_map, List.getElem?_eq_getElem h0] at h0'
              rw [← Option.some.inj h0']
          · rw [decide_eq_false eq]
            refine iteT ⟨_, rfl, _, rfl, r5, _, ((0 : Nat) : Int), _, rfl, rfl, SqL.of (s68 _ _ e5), atI_nat at0, _, rfl, (by show 3 ≤ sizeLine; decide), fun p hp => kk _ _ ?_ ?_ (.inr ⟨p, rfl⟩)⟩
            · exact e13.trans (ExtN.of (s35.trans (s68.trans (same_upd hp))))
            · exact t3.ext (s35.trans (s68.trans (same_upd hp)))
        · obtain ⟨x5, rfl, s6, ag6⟩ := inv
          rw [List.take_of_length_le (by rw [ym, List.length_map]; exact Nat.le_refl _), c5] at ag6
          refine ⟨_, _, _, rfl, s35.trans s6, fun ss hs => ?_⟩
          rw [tk] at hs
          rcases List.mem_append.mp hs with z | z
          · exact ag4 ss z
          · rw [List.mem_singleton.mp z]
            intro o ho o2 ho2
            have pos : 0 < (ordersN (ents A) Z[k].2).length := List.length_pos_of_mem ho
            have g0 := List.getElem?_eq_getElem pos
            rw [ag6 o ho _ g0, ag6 o2 ho2 _ g0]
      · obtain ⟨x3, x4, x5, rfl, s4, ag4⟩ := inv
        rw [List.take_of_length_le (by rw [zm, List.length_map]; exact Nat.le_refl _), c3] at ag4
        refine ⟨_, _, _, _, rfl, e13.trans (ExtN.of s4), t3.ext s4, fun s hs => ?_⟩
        rw [List.take_add_one, List.getElem?_eq_getElem hiS, Option.toList_some] at hs
        rcases List.mem_append.mp hs with z | z
        · exact ag s z
        · rw [List.mem_singleton.mp z]
          exact ag4
    · obtain ⟨x2, x3, x4, x5, rfl, e1, t1, ag⟩ := inv
      rw [sm, List.take_length] at ag
      exact kk H1 .non e1 t1 (.inl ⟨rfl, ag⟩)
end
end OP
namespace OP
open PySem PySem.Spec PyProof.Rows GenW L2 LamX
/-- names over which the entries run into no cycle -/
structure NmOk (E : Ents) (ns : List Str) : Prop where
  l4 : ns.length ≤ 4
  nd : ns.Nodup
  so : ∀ y ∈ ns, PyData.strOk y = true
  fr : ∀ zs : List Str, (∀ z ∈ zs, z ∈ ns) → zs ≠ [] → freeN E zs ≠ []
/-- some of them, each once -/
structure Arr (ns ys : List Str) : Prop where
  nd : ys.Nodup
  sub : ∀ y ∈ ys, y ∈ ns
theorem Arr.l4 {E : Ents} {ns ys : List Str} (a : Arr ns ys) (h : NmOk E ns) : ys.length ≤ 4 := Nat.le_trans (nodup_len a.nd a.sub) h.l4
theorem Arr.fr {E : Ents} {ns ys : List Str} (a : Arr ns ys) (h : NmOk E ns) : ∀ zs : List Str, (∀ z ∈ zs, z ∈ ys) → zs ≠ [] → freeN E zs ≠ [] := fun zs hz => h.fr zs fun z q => a.sub z (hz z q)
theorem Arr.so {E : Ents} {ns ys : List Str} (a : Arr ns ys) (h : NmOk E ns) : ∀ y ∈ ys, PyData.strOk y = true := fun y hy => h.so y (a.sub y hy)
theorem Arr.snoc {ns ys : List Str} {y : Str} (a : Arr ns ys) (h : y ∈ ns) (n : y ∉ ys) : Arr ns (ys ++ [y]) := ⟨nodup_snoc a.nd n, fun z hz => (List.mem_append.mp hz).elim (a.sub z) fun q => by rw [List.mem_singleton.mp q]; exact h⟩
theorem Arr.nil {ns : List Str} : Arr ns [] := ⟨List.nodup_nil, fun y h => by cases h⟩
section
variable {P : Program} {w : PySem.World} {K : PySem.W.Frag} {mg : Str → Option Value} {base : Heap} {sc : Addr}
def spLRR (K : PySem.W.Frag) : Sp := fun vs H Q _ => ∃ (t l r s0 a : Addr) (A : Els) (q : Rep) (n : Nat) (S : Sts) (L : Rws) (x0 : List Int) (ys : List Str), vs = [.ref t, .ref l, .ref r, .ref s0, .ref a] ∧ DrAt H t n S L ∧ WOk n S L ∧ H l = some (.lst (erefs A)) ∧ ElsAt H A ∧ ElsOk A ∧ RepAt K H r q ∧
  H s0 = some (.tup (x0.map V.int)) ∧ StoreOk x0 ∧ x0.length = n ∧ H a = some (.lst (ys.map V.str)) ∧ NmOk (ents A) (names L) ∧ Arr (names L) ys ∧ q.ys = ys ∧ q.os = lineN (ents A) 4 ys ∧ q.xs = appAll L (lineN (ents A) 4 ys) x0 ∧ q.k = workN (ents A) ys ∧ ∀ H', Same H H' → Q (.bl true) H'
theorem sc_lrr : FnScope ["_law_drawn_here", "_law_entries", "_law_replica", "_law_start", "_law_names", "_law_line_here"] ["_law_drawn_here", "_law_entries", "_law_replica", "_law_start", "_law_names"] (defScope s__law_replica_right) := ⟨rfl, rfl, rfl, by decide +kernel, rfl, by decide +kernel, by decide +kernel⟩
theorem ok_lrr (T : Txt K mg) : Ok P w K mg base (a__law_replica_right K) ["_law_drawn_here", "_law_entries", "_law_replica", "_law_start", "_law_names"] 4 (spLRR K) := by
  have GL : Ok P w K mg base (a__law_line K) _ 1 (spLine K) := ok_lline T
  have GE : Ok P w K mg base (a__law_end K) _ 3 (spLEnd K) := ok_lend T
  have GW : Ok P w K mg base (a__law_work K) _ 2 (spLWork K) := ok_lwork T
  have GRd : Ok P w K mg base (a_Replica_received K) _ 1 (spReceived K) := ok_received T
  have GRo : Ok P w K mg base (a_Replica_order K) _ 1 (spROrder K) := ok_rorder T
  have GRs : Ok P w K mg base (a_Replica_store K) _ 1 (spRStore K) := ok_rstore T
  have GRw : Ok P w K mg base (a_Replica_work K) _ 1 (spRWork K) := ok_rwork T
  refine ok_of T.f__law_replica_right sc_lrr (fun _ _ _ _ _ _ us hl => match us, hl with | [_, _, _, _, _], _ => rfl) (fun vs H Q E h => ?_) (fun cdv A' outer s H vs Q E hr h => ?_)
  · obtain ⟨t, l, r, s0, a, A, q, n, S, L, x0, ys, rfl, _⟩ := h
    rfl
  · obtain ⟨t, l, r, s0, a, A, q, n, S, L, x0, ys, rfl, D, ok, hl, hA, eo, R, hs0, sx, ln, ha, no, ar, ey, eos, exs, ek, kk⟩ := h
    have r1 : Room 1 _ := hr.mono (by decide)
    have r2 : Room 2 _ := hr.mono (by decide)
    have r3 : Room 3 _ := hr.mono (by decide)
    refine ⟨_, (pss_cons (ps_set (i := 5) sc_lrr.nd rfl (Or.inl rfl) (pe_c GL r1 T.g__law_line (pa_cons (pv 1) (pa_cons (pv 4) pa_nil))))
      (pss_cons (ps_if (PW.pt (pw_or (pt_cmpR (op_neD (room64 hr)) (pe_pr (pv 2) T.o_Replica T.p_Replica_received GRd r2) (pe_callTy call_list_of (by rfl) T.z_list (by decide +kernel) (pa_cons (pv 4) pa_nil)) (nomark _)) (pw_or1 (pt_cmpR (op_neD (room64 hr)) (pe_pr (pv 2) T.o_Replica T.p_Replica_order GRo r2) (pe_tupleOf (by rfl) T.z_tuple (pv 5)) (nomark _))))) (pss_one (ps_ret pe_bl)) pss_nil)
      (pss_one (ps_ret (pe_and (pe_cmpR (op_eqD (room64 hr)) (pe_pr (pv 2) T.o_Replica T.p_Replica_store GRs r2) (pe_c GE r3 T.g__law_end (pa_cons (pv 0) (pa_cons (pv 3) (pa_cons (pv 5) pa_nil)))) (nomark _)) (pe_one (pe_cmpR op_eq (pe_pr (pv 2) T.o_Replica T.p_Replica_work GRw r2) (pe_c GW r2 T.g__law_work (pa_cons (pv 1) (pa_cons (pv 4) pa_nil))) (nomark _)))))))), ?_⟩
    have y4 := ar.l4 no
    have so := ar.so no
    have fr := ar.fr no
    have lso : ∀ y ∈ lineN (ents A) 4 ys, PyData.strOk y = true := fun y hy => so y (line_mem _ 4 ys hy)
    refine ⟨_, rfl, _, rfl, l, a, A, ys, rfl, hl, hA, eo, .inl (SqL.of ha), y4, so, fr, fun H1 lr s1 _ e1 => ?_⟩
    have R1 := R.ext s1
    refine ⟨_, rfl, r, q.dx, _, rfl, R1.ob, r, q, rfl, R1, fun H2 l2 s2 _ e2 => ?_⟩
    have s12 := s1.trans s2
    refine ⟨_, rfl, a, _, rfl, .inl (SqL.of (s12 _ _ ha)), fun l3 hl3 => ?_⟩
    have s3 : Same H2 _ := same_upd (o := .lst (ys.map V.str)) hl3
    have e3 : upd H2 l3 (.lst (ys.map V.str)) l3 = some (.lst (ys.map V.str)) := upd_same
    generalize upd H2 l3 (.lst (ys.map V.str)) = H3 at s3 e3
    have s13 := s12.trans s3
    have R3 := R.ext s13
    rw [ey] at e2
    refine ⟨_, _, .lst (SqL.of (s3 _ _ e2)) (dp_strs _), .lst (SqL.of e3) (dp_strs _), shp_strs so, shp_strs so, false, congrArg V.bl (by rw [eqv_shp (shp_strs so)] <;> rfl), iteF ?_⟩
    refine ⟨_, rfl, r, q.dx, _, rfl, R3.ob, r, q, rfl, R3, ?_⟩
    have l13 := s3 _ _ (s2 _ _ e1)
    refine ⟨_, rfl, .inl ⟨lr, _, rfl, SqL.of l13, fun t4 ht4 => ?_⟩⟩
    have s4 : Same H3 _ := same_upd (o := .tup ((lineN (ents A) 4 ys).map V.str)) ht4
    have e4 : upd H3 t4 (.tup ((lineN (ents A) 4 ys).map V.str)) t4 = some (.tup ((lineN (ents A) 4 ys).map V.str)) := upd_same
    generalize upd H3 t4 (.tup ((lineN (ents A) 4 ys).map V.str)) = H4 at s4 e4
    have s14 := s13.trans s4
    have R4 := R.ext s14
    have ap4 := R4.ap
    rw [eos] at ap4
    refine ⟨_, _, dp_N ap4, dp_N e4, shp_N lso, shp_N lso, false, congrArg V.bl (by rw [eqv_shp (shp_N lso)] <;> rfl), iteF ?_⟩
    refine ⟨_, rfl, r, q.dx, _, rfl, R4.ob, r, q, rfl, R4, ?_⟩
    refine ⟨_, rfl, _, rfl, _, rfl, t, s0, lr, n, S, L, x0, lineN (ents A) 4 ys, rfl, DrAt.kn (kp_same s14) D, ok, s14 _ _ hs0, sx, ln, s4 _ _ l13, line_len _ _ _, fun y hy => ar.sub y (line_mem _ 4 ys hy), fun H5 r5 s5 e5 => ?_⟩
    have s15 := s14.trans s5
    have R5 := R.ext s15
    have rc5 := R5.rc
    rw [exs] at rc5
    refine ⟨_, _, dp_T rc5, dp_T e5, shp_T _, shp_T _, true, congrArg V.bl (eqv_shp (shp_T _)), iteT ?_⟩
    refine ⟨_, rfl, r, q.dx, _, rfl, R5.ob, r, q, rfl, R5, ?_⟩
    refine ⟨_, rfl, _, rfl, l, a, A, ys, rfl, s15 _ _ hl, hA.ext s15, eo, .inl (SqL.of (s15 _ _ ha)), y4, ar.nd, so, fr, fun H6 s6 => ⟨rfl, ?_⟩⟩
    rw [ek, decide_eq_true rfl]
    exact kk _ (s15.trans s6)
def spDNames (K : PySem.W.Frag) (sc : Addr) : Sp := fun vs H Q _ => ∃ (st nl : Addr) (ns : List Str), vs = [.ref st, .ref nl] ∧ StAt K sc H st ∧ H nl = some (.lst (ns.map V.str)) ∧ ns.Nodup ∧ ns.length ≤ 4 ∧
  ∀ H' r ys, Keep H H' → StAt K sc H' st → H' r = some (.lst (ys.map V.str)) → Arr ns ys → Q (.ref r) H'
theorem sc_ldn : FnScope ["_law_state", "_law_names", "_law_found", "_law_turn", "_law_name"] ["_law_state", "_law_names"] (defScope s__law_drawn_names) := ⟨rfl, rfl, rfl, by decide +kernel, rfl, by decide +kernel, by decide +kernel⟩
theorem ok_ldn (T : Txt K mg) : Ok P w K mg base (a__law_drawn_names K) ["_law_state", "_law_names"] 5 (spDNames K sc) := by
  have GX : Ok P w K mg base (a__law_next K) _ 3 (spNext K sc) := ok_next T
  have GK : Ok P w K mg base (a__law_pick K) _ 4 (spPick K sc) := ok_pick T
  refine ok_of T.f__law_drawn_names sc_ldn (fun _ _ _ _ _ _ us hl => match us, hl with | [_, _], _ => rfl) (fun vs H Q E h => ?_) (fun cdv A' outer s H vs Q E hr h => ?_)
  · obtain ⟨st, nl, ns, rfl, _⟩ := h
    rfl
  · obtain ⟨st, nl, ns, rfl, hst, hnl, nd, n4, kk⟩ := h
    have r3 : Room 3 _ := hr.mono (by decide)
    refine ⟨_, (pss_cons (ps_set (i := 2) sc_ldn.nd rfl (Or.inr rfl) (pe_lst pa_nil))
      (pss_cons (ps_for PassesOwn.never rfl (pi_range1 (by rfl) T.z_range (pa_cons (pe_c GX r3 T.g__law_next (pa_cons (pv 0) (pa_cons (pe_op op_add (pe_callB call_len_seq (by rfl) T.z_len PySem.boot_len (pa_cons (pv 1) pa_nil)) pe_int) pa_nil))) pa_nil)) (pg_name (i := 3) sc_ldn.nd rfl (Or.inl rfl)) (pss_one (ps_expr (pe_bm PySem.F.plainAttrs_list PySem.F.slot_list_append PySem.F.type_list_append mt_append (pv 2) (pa_cons (pe_c GK hr T.g__law_pick (pa_cons (pv 0) (pa_cons (pe_lc (own := [("_law_name", 4)]) (g := (gName 4)) rfl sc_ldn.nd (pi_list (pv 1)) (blkOk_by (own := [("_law_name", 4)]) (N := ["_law_state", "_law_names", "_law_found", "_law_turn", "_law_name"]) (sc := defScope s__law_drawn_names) (by decide +kernel)) (fun _ _ _ _ _ => (pg_name (i := 4) sc_ldn.nd rfl (Or.inl rfl))) (fun _ _ _ _ _ => (pts_one (pt_cmpR (op_notInK K) (pv 4) (pv 2) (by rfl)))) (fun _ _ _ _ _ => (pv 4))) pa_nil))) pa_nil)))))
      (pss_one (ps_ret (pv 2))))), ?_⟩
    have hm : (ns.map V.str).length = ns.length := List.length_map ..
    refine ⟨(by show 0 ≤ sizeLine; exact Nat.zero_le _), fun o ho => ?_⟩
    have sa : Same H _ := same_upd (o := .lst []) ho
    obtain ⟨o1, o2⟩ := hst.ne ho
    have newo := (Keep.refl H).new ho
    have oa : upd H o (.lst []) o = some (.lst (([] : List Str).map V.str)) := upd_same
    have sta := hst.ext sa
    generalize upd H o (.lst []) = Ha at sa oa sta
    refine ⟨_, rfl, _, rfl, nl, _, rfl, .inl (SqL.of (sa _ _ hnl)), _, _, rfl, rfl, st, (ns.length : Int) + 1, by rw [hm]; rfl, by omega, sta, fun Hb kb stb vb ab bb => ⟨vb, rfl, by omega, by omega, ?_⟩⟩
    refine for_range (fun j σ H' => j ≤ vb.toNat ∧ ∃ (ys : List Str) (v3 : Option V), σ = [some (.ref st), some (.ref nl), some (.ref o), v3, none] ∧ Keep H H' ∧ StAt K sc H' st ∧ H' o = some (.lst (ys.map V.str)) ∧ ys.length = j ∧ Arr ns ys)
      ⟨Nat.zero_le _, [], _, rfl, (Keep.of sa).trans kb, stb, kb.strs (ns := []) oa, rfl, Arr.nil⟩ (fun j σ Hc hj qq => ?_) fun σ Hc qq => ?_
    · obtain ⟨_, ys, v3, rfl, kc, stc, oc, leny, ar⟩ := qq
      have nc := kc.strs hnl
      refine ⟨_, rfl, .inl ⟨rfl, _, SqL.of oc⟩, _, rfl, _, rfl, nl, rfl, ⟨_, SqL.of nc⟩, fun D' hD' => ?_⟩
      refine lc_it (walk_list (K := K) (a := nl) (xs := ns.map V.str)) (fun i' H' => Same Hc H' ∧ H' D' = some (.lst ((left (ns.take i') ys).map V.str))) ⟨same_upd hD', by rw [upd_same, List.take_zero] <;> rfl⟩ (fun i' H' _ qq => SqL.of (qq.1 _ _ nc)) (fun i' x Hd He hi' qq yy => ?_) (fun Hd qq => ?_)
      · obtain ⟨sd, dd⟩ := qq
        obtain ⟨rfl, hx⟩ := yy
        obtain ⟨y, hy, rfl⟩ := strs_at' hx
        have hil : i' < ns.length := (List.getElem?_eq_some_iff.mp hy).1
        have et : left (ns.take (i' + 1)) ys = left (ns.take i') ys ++ if y ∈ ys then [] else [y] := by
          unfold left
          rw [List.take_add_one, hy, Option.toList_some, List.filter_append]
          congr 1
          by_cases hm : y ∈ ys
          · rw [if_pos hm, List.filter_cons, decide_eq_true hm] <;> rfl
          · rw [if_neg hm, List.filter_cons, decide_eq_false hm] <;> rfl
        refine ⟨rfl, _, rfl, _, rfl, o, ys.map V.str, rfl, .inl (SqL.of (sd _ _ oc)), rfl, flat_strs ys, _, rfl, ?_⟩
        show if (!inV (.str y) (ys.map V.str)) = true then _ else _
        rw [inV_strs]
        by_cases hm : y ∈ ys
        · rw [decide_eq_true hm]
          rw [if_pos hm, List.append_nil] at et
          exact iteF ⟨sd, by rw [et]; exact dd⟩
        · rw [decide_eq_false hm]
          rw [if_neg hm] at et
          refine iteT ⟨_, rfl, _, dd, small1000 ?_, fun b u e => ?_, ?_⟩
          · rw [List.length_map]
            have h1 : (left (ns.take i') ys).length ≤ (ns.take i').length := List.length_filter_le _ _
            rw [List.length_take] at h1
            omega
          · rw [upd_ne (ne_of_none e hD')]
            exact sd _ _ e
          · rw [upd_same, et, List.map_append] <;> rfl
      · obtain ⟨sd, dd⟩ := qq
        rw [List.take_of_length_le (by rw [List.length_map]; exact Nat.le_refl _)] at dd
        have ne := left_ne nd (ys := ys) (by omega)
        refine ⟨st, D', (left ns ys).map V.str, rfl, fun z => ne (List.map_eq_nil_iff.mp z), stc.ext sd, dd, notSt_strs _, fun He ke ste x hx => ?_⟩
        obtain ⟨y, hy, rfl⟩ := List.mem_map.mp hx
        obtain ⟨hy1, hy2⟩ := List.mem_filter.mp hy
        have hyn : y ∉ ys := fun z => by rw [decide_eq_true z] at hy2; cases hy2
        have kce : Keep Hc He := (Keep.of sd).trans ke
        have oe := kce.strs oc
        refine ⟨o, _, _, rfl, rfl, oe, small1000 (by rw [List.length_map]; omega), by omega, ys ++ [y], _, rfl, (kc.trans kce).upd newo, ste.off o1 o2, ?_, by rw [List.length_append, leny] <;> rfl, ar.snoc hy1 hyn⟩
        rw [upd_same, List.map_append] <;> rfl
    · obtain ⟨_, ys, v3, rfl, kc, stc, oc, leny, ar⟩ := qq
      exact ⟨_, rfl, kk _ o ys kc stc oc ar⟩
end
end OP
/-! xs[::k] of a list -/
namespace OP
open PySem PySem.Spec PyProof.Rows L2
def stepIx (n : Nat) (k : Int) : List Nat := sliceRange (sliceBounds none none (some k) n).1 (sliceBounds none none (some k) n).2.1 (sliceBounds none none (some k) n).2.2
def stepV (xs : List V) (k : Int) : List V := (stepIx xs.length k).filterMap fun i => xs[i]?
theorem mem_step {xs : List V} {k : Int} {x : V} (h : x ∈ stepV xs k) : x ∈ xs := by
  obtain ⟨i, _, e⟩ := List.mem_filterMap.mp h
  exact List.mem_of_getElem? e
theorem vals_pick {xs : List V} {us : List Value} (r : Vals xs us) : ∀ ix : List Nat, Vals (ix.filterMap fun i => xs[i]?) (ix.filterMap fun i => us[i]?)
  | [] => .nil
  | i :: ix => by
    have t := vals_pick r ix
    cases e : xs[i]? with
    | none =>
      have e2 : us[i]? = none := List.getElem?_eq_none_iff.mpr (by rw [← r.length]; exact List.getElem?_eq_none_iff.mp e)
      rw [List.filterMap_cons_none e, List.filterMap_cons_none e2]
      exact t
    | some x =>
      obtain ⟨u, e2, ru⟩ := r.get e
      rw [List.filterMap_cons_some e, List.filterMap_cons_some e2]
      exact .cons ru t
def tStepL (K : PySem.W.Frag) (te ts : TE) : TE := fun σ H Q => te σ H fun x H1 => tPart ts σ H1 fun o H2 => ∃ a xs k, x = .ref a ∧ o = some k ∧ k ≠ 0 ∧ SqL K H2 a xs ∧ ∀ p, H2 p = none → Q (.ref p) (upd H2 p (.lst (stepV xs k)))
section
variable {X : Cx}
theorem pe_stepL {e es : Expr} {te ts : TE} {p3 pos : Pos} (he : PE X e te) (hs : PE X es ts) : PE X (.Subscript e (.Slice none none (some es) p3) pos) (tStepL X.K te ts) := by
  refine ⟨fun pins s σ H Q I h => ?_⟩
  refine Subscript_ (thn (he.run pins s σ H _ I h) fun v s1 ⟨x, H1, I1, r1, q1⟩ => ?_)
  have part : PO X (some es) (tPart ts) := po_some hs
  refine wpAny_Slice (thn (po_none.run pins s1 σ H1 (fun o H2 => o = none ∧ H2 = H1) I1 ⟨rfl, rfl⟩) fun vl s2 ⟨l, H2, I2, pl, el, e2⟩ => ?_)
  subst el e2
  refine thn (po_none.run pins s2 σ H2 (fun o H3 => o = none ∧ H3 = H2) I2 ⟨rfl, rfl⟩) fun vu s3 ⟨u, H3, I3, pu, eu, e3⟩ => ?_
  subst eu e3
  refine thn (part.run pins s3 σ H3 _ I3 q1) fun vs s4 ⟨o, H4, I4, ps, a, xs, k, ex, eo, k0, hx, q⟩ => ?_
  subst ex eo
  cases r1
  have I5 : Inv X pins σ H4 { s4 with heap := s4.heap.push { cls := .type "slice", data := .fields #[vl, vu, vs] } } := I4.kept (t' := s4.toks) fun b ob z => Heap.get?_push_of_some _ z
  obtain ⟨its, r, at', size⟩ := I5.list hx
  have len := r.length
  show wpAny (model X.prog X.w) X.A (subscriptTail e (.Slice none none (some es) p3) (.ref a) (.ref s4.heap.objs.size)) (EP X pins σ Q) X.xe { s4 with heap := s4.heap.push { cls := .type "slice", data := .fields #[vl, vu, vs] } }
  refine tail_any (ops := [.ref a, .ref s4.heap.objs.size]) at'.isList.typeIs (PySem.slot_list_getitem.lookup) ?_ (by with_unfolding_all rfl)
  refine wpAny_getItem_list_slice at'.isList (Heap.IsSliceOf.new _ vl vu vs) pl pu ps (fun z => k0 (Option.some.inj z)) ?_ (by rw [List.size_toArray]; omega)
  have pick : slicePick its.toArray none none (some k) = ((stepIx xs.length k).filterMap fun i => its[i]?).toArray := by
    unfold slicePick stepIx
    rw [List.size_toArray, len]
    simp
  rw [pick]
  have few : (stepV xs k).length ≤ sizeLine := by
    have z := slicePick_size_le its.toArray none none (some k)
    rw [pick, List.size_toArray, ← (vals_pick r (stepIx xs.length k)).length, List.size_toArray] at z
    exact Nat.le_trans z (by omega)
  refine ⟨.ref _, _, I5.laid (t' := s4.toks) (o := .lst (stepV xs k)) (fun b ob z => Heap.get?_push_of_some _ z) (Nat.le_refl _) ?_, rfl, q _ (I5.hok.fresh (Nat.le_refl _))⟩
  exact ⟨few, _, 0, vals_pick r _, Heap.get?_push_size _ rfl⟩
end
end OP
namespace OP
open PySem PySem.Spec PyProof.Rows GenW L2 LamX
/-! ### what stands around the replicas -/
/-- the drawn world, by its lists alone -/
structure Pu (n m : Nat) (S : Sts) (L : Rws) (M : Ncs) (A : Els) (x0 : List Int) : Prop where
  ok : WOk n S L
  eM : nc M = nc L
  m2 : 2 ≤ m
  m4 : m ≤ 4
  nm : names L = allNames.take m
  po : PolOk (ents A) (names L)
  en : (ents A).Nodup
  a3 : A.length ≤ 3
  xin : x0 ∈ S.map (·.2)
section
variable {n m : Nat} {S : Sts} {L : Rws} {M : Ncs} {A : Els} {x0 : List Int} (u : Pu n m S L M A x0)
include u
theorem Pu.okM : WOk n S M := ⟨u.ok.n1, u.ok.n3, u.ok.sts, u.ok.chgs.twin u.eM⟩
theorem Pu.nML : names M = names L := by rw [nc_names, u.eM, ← nc_names]
theorem Pu.st : StoreOk x0 ∧ x0.length = n := by
  obtain ⟨s, hs, e⟩ := List.mem_map.mp u.xin
  have := u.ok.sts.each s hs
  rw [e] at this
  exact this
theorem Pu.so : ∀ y ∈ names L, PyData.strOk y = true := fun y hy => by
  rw [u.nm] at hy
  exact all_str y (List.mem_of_mem_take hy)
theorem Pu.eo : ElsOk A := ⟨by have := u.a3; omega, fun e he => ⟨u.so _ (u.po.mem e he).1, u.so _ (u.po.mem e he).2.1⟩⟩
theorem Pu.no : NmOk (ents A) (names L) := by
  have l4 : (names L).length ≤ 4 := by
    unfold names
    rw [List.length_map]
    exact u.ok.chgs.hi
  exact ⟨l4, u.ok.chgs.nd, u.so, fun zs hz ne => free_some (ents A) 4 u.po.acyc l4 hz ne⟩
theorem Pu.app {ys : List Str} (h : ∀ y ∈ ys, y ∈ names L) (xs : List Int) : appAll M ys xs = appAll L ys xs := app_twin u.eM u.okM.chgs.nd u.ok.chgs.nd ys h xs
end
structure Gd (K : PySem.W.Frag) (TT : List (Addr × Str)) (H0 H : Hp) (t l s0 p n : Nat) (S : Sts) (L : Rws) (M : Ncs) (A : Els) (x0 : List Int) (X : List (Addr × List Str)) : Prop where
  kp : Kp H0 H
  tab : Tabs TT H
  dr : DrAt H t n S L
  hl : H l = some (.lst (erefs A))
  els : ElsAt H A
  hs : H s0 = some (.tup (x0.map V.int))
  wd : WorldAt K H p n S M
  ls : ∀ z ∈ X, H z.1 = some (.lst (z.2.map V.str))
/-- a replica of that world -/
structure Like (q : Rep) (p : Addr) (M : Ncs) (A : Els) (x0 : List Int) : Prop where
  good : q.Good M
  p : q.p = p
  mem : ∀ e, e ∈ q.E ↔ e ∈ ents A
  len : q.E.length = (ents A).length
  po : PolOk q.E (names M)
  x0 : q.x0 = x0
  ar : Arr (names M) q.ys
theorem RepAt.off {K : PySem.W.Frag} {H : Hp} {r r2 : Addr} {q q2 : Rep} (h : RepAt K H r q) (h2 : RepAt K H r2 q2) (nr : r ≠ r2) (na : q.ar ≠ q2.ar) : RepAt K (off2 H r2 q2.ar) r q := by
  have t1 : ∀ {a : Addr} {xs : List V}, H a = some (.tup xs) → off2 H r2 q2.ar a = some (.tup xs) := fun e => off2_some.mpr ⟨(fun z => by rw [z, h2.ob] at e; cases e), (fun z => by rw [z, h2.ar] at e; cases e), e⟩
  refine ⟨off2_some.mpr ⟨nr, (fun z => ?_), h.ob⟩, off2_some.mpr ⟨(fun z => ?_), (fun z => ?_), h.po⟩, t1 h.st, off2_some.mpr ⟨(fun z => ?_), na, h.ar⟩, t1 h.ap, t1 h.rc⟩
  · have e := h.ob
    rw [z, h2.ar] at e
    cases e
  · have e := h.po
    rw [z, h2.ob] at e
    cases e
  · have e := h.po
    rw [z, h2.ar] at e
    cases e
  · have e := h.ar
    rw [z, h2.ob] at e
    cases e
theorem RepAt.exn {K : PySem.W.Frag} {H H' : Hp} {r : Addr} {q : Rep} (s : ExtN H H') (h : RepAt K H r q) : RepAt K H' r q := ⟨s _ _ h.ob (fun _ z => by cases z), s _ _ h.po (fun _ z => by cases z), s _ _ h.st (fun _ z => by cases z), s _ _ h.ar (fun _ z => by cases z), s _ _ h.ap (fun _ z => by cases z), s _ _ h.rc (fun _ z => by cases z)⟩
theorem offs_same {H H' : Hp} {r a r2 a2 : Addr} (k : ∀ b u, b ≠ r → b ≠ a → b ≠ r2 → b ≠ a2 → H b = some u → H' b = some u) : Same (off2 (off2 H r a) r2 a2) (off2 (off2 H' r a) r2 a2) := fun b u e => by
  obtain ⟨h1, h2, e⟩ := off2_some.mp e
  obtain ⟨h3, h4, e⟩ := off2_some.mp e
  exact off2_some.mpr ⟨h1, h2, off2_some.mpr ⟨h3, h4, k b u h3 h4 h1 h2 e⟩⟩
theorem offs_swap {H : Hp} {r a r2 a2 : Addr} : Same (off2 (off2 H r a) r2 a2) (off2 (off2 H r2 a2) r a) := fun b u e => by
  obtain ⟨h1, h2, e⟩ := off2_some.mp e
  obtain ⟨h3, h4, e⟩ := off2_some.mp e
  exact off2_some.mpr ⟨h3, h4, off2_some.mpr ⟨h1, h2, e⟩⟩
section
variable {K : PySem.W.Frag} {TT : List (Addr × Str)} {H0 H H' : Hp} {t l s0 p n m : Nat} {S : Sts} {L : Rws} {M : Ncs} {A : Els} {x0 : List Int} {X : List (Addr × List Str)} {r r2 : Addr} {q q2 : Rep}
theorem Gd.ext (s : Same H H') (g : Gd K TT H0 H t l s0 p n S L M A x0 X) : Gd K TT H0 H' t l s0 p n S L M A x0 X :=
  ⟨g.kp.trans (kp_same s), g.tab.ext s, DrAt.kn (kp_same s) g.dr, s _ _ g.hl, g.els.ext s, s _ _ g.hs, g.wd.ext s, fun z hz => s _ _ (g.ls z hz)⟩
theorem Gd.add {D : Addr} {ys : List Str} (g : Gd K TT H0 H t l s0 p n S L M A x0 X) (e : H D = some (.lst (ys.map V.str))) : Gd K TT H0 H t l s0 p n S L M A x0 ((D, ys) :: X) :=
  { g with ls := fun z hz => (List.mem_cons.mp hz).elim (fun q => by rw [q]; exact e) (g.ls z) }
theorem Like.told (u : Pu n m S L M A x0) (k : Like q p M A x0) : q.os = lineN (ents A) 4 q.ys ∧ q.xs = appAll L (lineN (ents A) 4 q.ys) x0 ∧ q.k = workN (ents A) q.ys := by
  have e1 : q.os = lineN (ents A) 4 q.ys := by rw [k.good.os, line_cong k.mem]
  refine ⟨e1, ?_, by rw [k.good.k, work_cong k.mem]⟩
  rw [k.good.xs, e1, k.x0, u.app]
  exact fun y hy => by rw [← u.nML]; exact k.ar.sub y (line_mem _ 4 _ hy)
theorem Like.os4 (k : Like q p M A x0) : q.os.length ≤ 4 := by rw [k.good.os]; exact line_len _ _ _
theorem Like.repW (u : Pu n m S L M A x0) (k : Like q p M A x0) (w : WorldAt K (off2 H r q.ar) p n S M) : RepW K H r q n S M :=
  ⟨by rw [k.p]; exact w, u.okM, k.po, by rw [k.x0]; exact u.st.1, by rw [k.x0]; exact u.st.2, k.ar.sub, k.ar.nd, k.os4⟩
theorem Like.next {y : Str} {ap rc : Addr} (k : Like q p M A x0) (h : y ∈ names M) (nn : y ∉ q.ys) : Like (q.next M y ap rc) p M A x0 := ⟨good_next k.good, k.p, k.mem, k.len, k.po, k.x0, k.ar.snoc h nn⟩
theorem Like.later {q' : Rep} {zs : List Str} (k : Like q p M A x0) (h : Later K H' r q q' zs n S M) : Like q' p M A x0 :=
  ⟨h.good, h.p.trans k.p, by rw [h.E]; exact k.mem, by rw [h.E]; exact k.len, by rw [h.E]; exact k.po, h.x0.trans k.x0, ⟨h.wd.ynd, h.wd.yin⟩⟩
theorem Like.born {E : Ents} {ys : List Str} (h : Born K H H' r q p E x0 ys n S M) (mem : ∀ e, e ∈ E ↔ e ∈ ents A) (len : E.length = (ents A).length) (po : PolOk E (names M)) : Like q p M A x0 :=
  ⟨h.good, h.ep, by rw [h.eE]; exact mem, by rw [h.eE]; exact len, by rw [h.eE]; exact po, h.ex, ⟨h.wd.ynd, h.wd.yin⟩⟩
theorem Like.alike (k : Like q p M A x0) (k2 : Like q2 p M A x0) : Alike q q2 := ⟨k2.p.trans k.p.symm, k2.len.trans k.len.symm, fun e he => (k.mem e).mpr ((k2.mem e).mp he), k2.x0.trans k.x0.symm⟩
/-- two of them -/
structure Two (K : PySem.W.Frag) (TT : List (Addr × Str)) (H0 H : Hp) (t l s0 p n : Nat) (S : Sts) (L : Rws) (M : Ncs) (A : Els) (x0 : List Int) (X : List (Addr × List Str)) (r : Addr) (q : Rep) (r2 : Addr) (q2 : Rep) : Prop where
  gd : Gd K TT H0 (off2 (off2 H r q.ar) r2 q2.ar) t l s0 p n S L M A x0 X
  a1 : RepAt K H r q
  a2 : RepAt K H r2 q2
  nr : r ≠ r2
  na : q.ar ≠ q2.ar
  k1 : Like q p M A x0
  k2 : Like q2 p M A x0
theorem Two.ext (s : Same H H') (z : Two K TT H0 H t l s0 p n S L M A x0 X r q r2 q2) : Two K TT H0 H' t l s0 p n S L M A x0 X r q r2 q2 :=
  ⟨z.gd.ext (offs_same fun b u _ _ _ _ e => s b u e), z.a1.ext s, z.a2.ext s, z.nr, z.na, z.k1, z.k2⟩
theorem Two.swap (z : Two K TT H0 H t l s0 p n S L M A x0 X r q r2 q2) : Two K TT H0 H t l s0 p n S L M A x0 X r2 q2 r q :=
  ⟨z.gd.ext offs_swap, z.a2, z.a1, z.nr.symm, z.na.symm, z.k2, z.k1⟩
theorem Two.all (z : Two K TT H0 H t l s0 p n S L M A x0 X r q r2 q2) : Gd K TT H0 H t l s0 p n S L M A x0 X := (z.gd.ext off2_same).ext off2_same
theorem Two.later {q' : Rep} {zs : List Str} (z : Two K TT H0 H t l s0 p n S L M A x0 X r q r2 q2) (k : Kr r q.ar H H') (h : Later K H' r q q' zs n S M) : Two K TT H0 H' t l s0 p n S L M A x0 X r q' r2 q2 := by
  refine ⟨?_, h.at_, ((z.a2.off z.a1 z.nr.symm z.na.symm).ext k.off).ext off2_same, z.nr, by rw [h.ar]; exact z.na, z.k1.later h, z.k2⟩
  rw [h.ar]
  exact z.gd.ext (offs_same fun b u h1 h2 _ _ e => k b u h1 h2 e)
theorem Two.w1 (u : Pu n m S L M A x0) (z : Two K TT H0 H t l s0 p n S L M A x0 X r q r2 q2) : RepW K H r q n S M := z.k1.repW u (z.gd.wd.ext off2_same)
theorem Two.add {D : Addr} {ys : List Str} (z : Two K TT H0 H t l s0 p n S L M A x0 X r q r2 q2) (s : Same H H') (hD : H D = none) (e : H' D = some (.lst (ys.map V.str))) : Two K TT H0 H' t l s0 p n S L M A x0 ((D, ys) :: X) r q r2 q2 := by
  have z' := z.ext s
  refine ⟨z'.gd.add (off2_some.mpr ⟨(fun h => ?_), (fun h => ?_), off2_some.mpr ⟨(fun h => ?_), (fun h => ?_), e⟩⟩), z'.a1, z'.a2, z.nr, z.na, z.k1, z.k2⟩
  · rw [h, z.a2.ob] at hD; cases hD
  · rw [h, z.a2.ar] at hD; cases hD
  · rw [h, z.a1.ob] at hD; cases hD
  · rw [h, z.a1.ar] at hD; cases hD
end
/-! ### a set of the list of all sets -/
theorem filter_sub (p : Str → Bool) {ns : List Str} : ∀ i : Nat, i ≤ ns.length → (ns.take i).filter p ∈ subs (ns.take i)
  | 0, _ => by
    rw [List.take_zero]
    exact List.mem_singleton.mpr rfl
  | i + 1, h => by
    have ih := filter_sub p (ns := ns) i (by omega)
    rw [subs_take (show i < ns.length by omega), List.take_add_one, List.getElem?_eq_getElem (show i < ns.length by omega), Option.toList_some, List.filter_append, List.filter_cons, List.filter_nil]
    by_cases hp : p ns[i] = true
    · rw [if_pos hp]
      exact List.mem_append_right _ (List.mem_map.mpr ⟨_, ih, rfl⟩)
    · rw [if_neg hp, List.append_nil]
      exact List.mem_append_left _ ih
/-- where no set splits, two replicas with the same names hold the same store -/
theorem ends_alike {n m : Nat} {S : Sts} {L : Rws} {M : Ncs} {A : Els} {x0 : List Int} (u : Pu n m S L M A x0) (ag : ∀ s ∈ S, ∀ ss ∈ setsOf (allNames.take m), Agree (ents A) L s.2 ss) {ys zs : List Str} (ay : Arr (names L) ys) (az : Arr (names L) zs) (h : ∀ y, y ∈ ys ↔ y ∈ zs) :
    appAll L (lineN (ents A) 4 ys) x0 = appAll L (lineN (ents A) 4 zs) x0 := by
  obtain ⟨s, hs, rfl⟩ := List.mem_map.mp u.xin
  have so := sub_ok u.m2 u.m4
  have nd := u.ok.chgs.nd
  rw [u.nm] at nd
  have mem : (allNames.take m).filter (fun y => decide (y ∈ ys)) ∈ setsOf (allNames.take m) := by
    refine so.perm.mem_iff.mpr ?_
    have := filter_sub (fun y => decide (y ∈ ys)) (ns := allNames.take m) (allNames.take m).length (Nat.le_refl _)
    rw [List.take_length] at this
    exact this
  have iff : ∀ y, y ∈ (allNames.take m).filter (fun y => decide (y ∈ ys)) ↔ y ∈ ys := fun y => by
    rw [List.mem_filter]
    refine ⟨fun z => of_decide_eq_true z.2, fun z => ⟨?_, decide_eq_true z⟩⟩
    rw [← u.nm]
    exact ay.sub y z
  have fnd : ((allNames.take m).filter (fun y => decide (y ∈ ys))).Nodup := List.Nodup.sublist List.filter_sublist nd
  have l1 : ys.length = ((allNames.take m).filter (fun y => decide (y ∈ ys))).length := Nat.le_antisymm (nodup_len ay.nd fun y hy => (iff y).mpr hy) (nodup_len fnd fun y hy => (iff y).mp hy)
  have l2 : zs.length = ((allNames.take m).filter (fun y => decide (y ∈ ys))).length := Nat.le_antisymm (nodup_len az.nd fun y hy => (iff y).mpr ((h y).mpr hy)) (nodup_len fnd fun y hy => (h y).mp ((iff y).mp hy))
  exact ag s hs _ mem _ (line_order ay.nd (ay.l4 u.no) (ay.fr u.no) l1 fun y hy => (iff y).mpr hy) _ (line_order az.nd (az.l4 u.no) (az.fr u.no) l2 fun y hy => (iff y).mpr ((h y).mpr hy))
/-! ### entries the other way round -/
theorem step_rev : ∀ xs : List V, xs.length ≤ 3 → stepV xs (-1) = xs.reverse
  | [], _ => rfl
  | [a], _ => by
    have e : stepIx 1 (-1) = [0] := by decide +kernel
    show (stepIx 1 (-1)).filterMap (fun i => [a][i]?) = [a]
    rw [e] <;> rfl
  | [a, b], _ => by
    have e : stepIx 2 (-1) = [1, 0] := by decide +kernel
    show (stepIx 2 (-1)).filterMap (fun i => [a, b][i]?) = [b, a]
    rw [e] <;> rfl
  | [a, b, c], _ => by
    have e : stepIx 3 (-1) = [2, 1, 0] := by decide +kernel
    show (stepIx 3 (-1)).filterMap (fun i => [a, b, c][i]?) = [c, b, a]
    rw [e] <;> rfl
  | _ :: _ :: _ :: _ :: _, h => by
    simp only [List.length_cons] at h
    omega
theorem erefs_rev (A : Els) : (erefs A).reverse = erefs A.reverse := by
  unfold erefs
  rw [List.map_reverse]
theorem ents_rev (A : Els) : ents A.reverse = (ents A).reverse := by
  unfold ents
  rw [List.map_reverse]
theorem lack_arr {ns os ys : List Str} (ho : Arr ns os) (hy : Arr ns ys) : Arr ns (ys ++ lackN os ys) := by
  refine ⟨?_, fun y h => (List.mem_append.mp h).elim (hy.sub y) fun q => ho.sub y (lack_mem q).1⟩
  rw [List.nodup_append]
  exact ⟨hy.nd, lack_nd ho.nd, fun a ha b hb z => (lack_mem hb).2 (by rw [← z]; exact ha)⟩
theorem mem_lack {os ys : List Str} {y : Str} : y ∈ ys ++ lackN os ys ↔ y ∈ ys ∨ y ∈ os := by
  rw [List.mem_append]
  refine ⟨fun h => h.imp id fun q => (lack_mem q).1, fun h => ?_⟩
  by_cases hy : y ∈ ys
  · exact .inl hy
  · refine .inr (List.mem_filter.mpr ⟨h.resolve_left hy, ?_⟩)
    rw [decide_eq_false hy] <;> rfl
theorem lack_none {os ys : List Str} (h : ∀ y ∈ os, y ∈ ys) : lackN os ys = [] := by
  unfold lackN
  rw [List.filter_eq_nil_iff]
  intro y hy
  rw [decide_eq_true (h y hy)]
  decide
end OP
namespace OP
open PySem PySem.Spec PyProof.Rows GenW L2 LamX
section
variable {P : Program} {w : PySem.World} {K : PySem.W.Frag} {mg : Str → Option Value} {base : Heap} {sc : Addr}
def spTwo (K : PySem.W.Frag) (sc : Addr) (TT : List (Addr × Str)) : Sp := fun vs H Q _ => ∃ (st t l s0 n m : Nat) (S : Sts) (L : Rws) (A : Els) (x0 : List Int), vs = [.ref st, .ref t, .ref l, .ref s0] ∧ StAt K sc H st ∧ Tabs TT H ∧ DrAt H t n S L ∧ Pu n m S L L A x0 ∧ H l = some (.lst (erefs A)) ∧ ElsAt H A ∧ H s0 = some (.tup (x0.map V.int)) ∧
  ∀ H', Kp H H' → Tabs TT H' → Q (.bl true) H'
theorem Gd.keep {TT : List (Addr × Str)} {H0 H H' : Hp} {t l s0 p n : Nat} {S : Sts} {L : Rws} {M : Ncs} {A : Els} {x0 : List Int} {X : List (Addr × List Str)} (k : Keep H H') (g : Gd K TT H0 H t l s0 p n S L M A x0 X) : Gd K TT H0 H' t l s0 p n S L M A x0 X :=
  ⟨g.kp.trans k.n, tabs_keep k g.tab, DrAt.kn k.n g.dr, k _ _ (notSt_refs _ A) g.hl, fun z hz => k.tup (g.els z hz), k.tup g.hs, WorldAt.kn k.n g.wd, fun z hz => k.strs (g.ls z hz)⟩
/-- what is kept of names: the filter of a list by another -/
theorem lc_lack {a D b : Addr} {os ys : List Str} {σ : L2.St} {H1 : Hp} {Qd : Hp → Prop} {j jb : Nat} (hD : H1 D = none) (ha : H1 a = some (.lst (os.map V.str))) (hb : H1 b = some (.lst (ys.map V.str))) (o4 : os.length ≤ 4) (hw : ∀ x, wipe ((wipe σ [j]).set j (some x)) [j] = wipe σ [j])
    (hj : ∀ x, ((wipe σ [j]).set j (some x))[j]? = some (some x)) (hjb : ∀ x, ((wipe σ [j]).set j (some x))[jb]? = some (some (.ref b)))
    (hd : ∀ H, Same H1 H → H D = some (.lst ((lackN os ys).map V.str)) → Qd H) : LcOk (Itl K a) (gName j) (tTest (tOp (rIn K true) (tVar j) (tVar jb))) (tVar j) [j] σ H1 D Qd := by
  refine lc_it (walk_list (K := K) (a := a) (xs := os.map V.str)) (fun i H' => Same H1 H' ∧ H' D = some (.lst ((lackN (os.take i) ys).map V.str))) ⟨same_upd hD, by rw [upd_same, List.take_zero] <;> rfl⟩ (fun i H' _ z => SqL.of (z.1 _ _ ha)) (fun i x H4 H5 hi z yy => ?_) (fun H4 z => ?_)
  · obtain ⟨s4, d4⟩ := z
    obtain ⟨rfl, hx⟩ := yy
    obtain ⟨y, hy, rfl⟩ := strs_at' hx
    refine ⟨hw _, _, hj _, _, hjb _, b, _, rfl, .inl (SqL.of (s4 _ _ hb)), rfl, strs_flat _, _, rfl, ?_⟩
    rw [inV_strs]
    have et : lackN (os.take (i + 1)) ys = lackN (os.take i) ys ++ if y ∈ ys then [] else [y] := by
      unfold lackN
      rw [List.take_add_one, hy, Option.toList_some, List.filter_append]
      congr 1
      by_cases hb : y ∈ ys
      · rw [if_pos hb, List.filter_cons, decide_eq_true hb] <;> rfl
      · rw [if_neg hb, List.filter_cons, decide_eq_false hb] <;> rfl
    by_cases hb : y ∈ ys
    · rw [decide_eq_true hb]
      refine iteF ⟨s4, ?_⟩
      rw [et, if_pos hb, List.append_nil]
      exact d4
    · rw [decide_eq_false hb]
      refine iteT ⟨_, hj _, _, d4, small1000 ?_, fun b u e => ?_, ?_⟩
      · rw [List.length_map]
        have f1 : (lackN (os.take i) ys).length ≤ (os.take i).length := List.length_filter_le _ _
        rw [List.length_take] at f1
        omega
      · rw [upd_ne (ne_of_none e hD)]
        exact s4 _ _ e
      · rw [upd_same, et, if_neg hb, List.map_append] <;> rfl
  · obtain ⟨s4, d4⟩ := z
    rw [List.length_map, List.take_length] at d4
    exact hd H4 s4 d4
theorem sc_ltwo : FnScope ["_law_state", "_law_drawn_here", "_law_entries", "_law_start", "_law_world_here", "_law_names", "_law_first", "_law_other", "_law_one", "_law_two", "_law_late", "_law_more", "_law_name"] ["_law_state", "_law_drawn_here", "_law_entries", "_law_start"] (defScope s__law_two_right) := ⟨rfl, rfl, rfl, by decide +kernel, rfl, by decide +kernel, by decide +kernel⟩
theorem ok_ltwo (T : Txt K mg) {Pt : Addr} {TT : List (Addr × Str)} (LT : LamTab K mg base Pt) (hmT : (Pt, lamQ) ∈ TT) (huT : ∀ q ∈ TT, q.1 = Pt → q.2 = lamQ) : Ok P w K mg base (a__law_two_right K) ["_law_state", "_law_drawn_here", "_law_entries", "_law_start"] 12 (spTwo K sc TT) := by
  have GW : Ok P w K mg base (a__law_world K) _ 9 (spLWorld K) := ok_lworld T
  have GD : Ok P w K mg base (a__law_drawn_names K) _ 5 (spDNames K sc) := ok_ldn T
  have GPo : Ok P w K mg base (a__law_policy K) _ 1 (spLPol K) := ok_lpol T
  have GA : Ok P w K mg base (a_Replica_at K) _ 8 (spRAt K) := ok_rat T
  have GL : Ok P w K mg base (a__law_line K) _ 1 (spLine K) := ok_lline T
  have GR : Ok P w K mg base (a__law_replica_right K) _ 4 (spLRR K) := ok_lrr T
  have GS : Ok P w K mg base (a__law_split K) _ 6 (spLSplit K TT) := ok_lsplit T LT hmT huT
  have GY : Ok P w K mg base (a_Replica_sync K) _ 11 (spSync K) := ok_sync T
  have GRs : Ok P w K mg base (a_Replica_store K) _ 1 (spRStore K) := ok_rstore T
  obtain ⟨gfd, GG, gb, _⟩ := gok_lack (P := P) (w := w) (base := base) T
  refine ok_of T.f__law_two_right sc_ltwo (fun _ _ _ _ _ _ us hl => match us, hl with | [_, _, _, _], _ => rfl) (fun vs H Q E h => ?_) (fun cdv A' outer s H vs Q E hr h => ?_)
  · obtain ⟨st, t, l, s0, n, m, S, L, A, x0, rfl, _⟩ := h
    rfl
  · obtain ⟨st, t, l, s0, n, m, S, L, A, x0, rfl, hst, tabs, D, u0, hl, hA, hs0, kk⟩ := h
    have r1 : Room 1 _ := hr.mono (by decide)
    have r2 : Room 2 _ := hr.mono (by decide)
    have r4 : Room 4 _ := hr.mono (by decide)
    have r5 : Room 5 _ := hr.mono (by decide)
    have r6 : Room 6 _ := hr.mono (by decide)
    have r7 : Room 7 _ := hr.mono (by decide)
    have r8 : Room 8 _ := hr.mono (by decide)
    have r9 : Room 9 _ := hr.mono (by decide)
    have r10 : Room 10 _ := hr.mono (by decide)
    have r11 : Room 11 _ := hr
    refine ⟨_, (pss_cons (ps_par rfl sc_ltwo.nd (i := 4) (j := 5) rfl rfl (by decide) rfl rfl (pa_cons (pe_c GW r9 T.g__law_world (pa_cons (pv 1) pa_nil)) (pa_cons (pe_callTy (call_list_dK rfl) (by rfl) T.z_list (by decide +kernel) (pa_cons (pe_ix ix_tup (pv 1) pe_int (fun _ _ => rfl)) pa_nil)) pa_nil)) (by rfl))
      (pss_cons (ps_asg (pe_tup (pa_cons (pe_c GD r5 T.g__law_drawn_names (pa_cons (pv 0) (pa_cons (pv 5) pa_nil))) (pa_cons (pe_c GD r5 T.g__law_drawn_names (pa_cons (pv 0) (pa_cons (pv 5) pa_nil))) pa_nil))) (pg_tup rfl (pgs_cons (pg_name (i := 6) sc_ltwo.nd rfl (Or.inr rfl)) (pgs_cons (pg_name (i := 7) sc_ltwo.nd rfl (Or.inr rfl)) pgs_nil))))
      (pss_cons (ps_set (i := 8) sc_ltwo.nd rfl (Or.inl rfl) (pe_cmt (pe_glob (v := .ref (c_Replica K)) (by rfl) T.g_Replica rfl) T.cr_Replica T.cm_Replica_at GA r8 (pa_cons (pv 4) (pa_cons (pe_c GPo r1 T.g__law_policy (pa_cons (pv 2) pa_nil)) (pa_cons (pv 3) (pa_cons (pe_tupleOf (by rfl) T.z_tuple (pv 6)) pa_nil))))))
      (pss_cons (ps_set (i := 9) sc_ltwo.nd rfl (Or.inl rfl) (pe_cmt (pe_glob (v := .ref (c_Replica K)) (by rfl) T.g_Replica rfl) T.cr_Replica T.cm_Replica_at GA r8 (pa_cons (pv 4) (pa_cons (pe_c GPo r1 T.g__law_policy (pa_cons (pe_stepL (pv 2) (pe_un un_neg pe_int)) pa_nil)) (pa_cons (pv 3) (pa_cons (pe_tupleOf (by rfl) T.z_tuple (pv 7)) pa_nil))))))
      (pss_cons (ps_setLc (i := 10) (own := [("_law_name", 12)]) (g := (gName 12)) rfl sc_ltwo.nd rfl rfl (sw_true rfl rfl rfl (by decide +kernel)) (pi_list (pe_c GL r1 T.g__law_line (pa_cons (pv 2) (pa_cons (pv 7) pa_nil)))) (blkOk_by (own := [("_law_name", 12)]) (N := ["_law_state", "_law_drawn_here", "_law_entries", "_law_start", "_law_world_here", "_law_names", "_law_first", "_law_other", "_law_one", "_law_two", "_law_late", "_law_more", "_law_name"]) (sc := defScope s__law_two_right) (by decide +kernel)) (fun _ _ _ _ _ => (pg_name (i := 12) sc_ltwo.nd rfl (Or.inl rfl))) (fun _ _ _ _ _ => (pts_one (pt_cmpR (op_notInK K) (pv 12) (pv 6) (by rfl)))) (fun _ _ _ _ _ => (pv 12)))
      (pss_cons (ps_if (pt_cmpR (op_neD (room64 hr)) (pe_listG (pgen_meth (E := EN) (pv 8) T.o_Replica.cl T.m_Replica_lacking GG r7 gb .nil (pa_cons (pv 9) pa_nil)) pass_no (fun _ _ _ z => z.elim) r10 (by rfl) T.z_list (by decide +kernel)) (pv 10) (nomark _)) (pss_one (ps_ret pe_bl)) pss_nil)
      (pss_cons (ps_if (pt_cmpR (op_neD (room64 hr)) (pe_mt (pv 8) T.o_Replica T.m_Replica_sync GY r11 (pa_cons (pv 9) pa_nil)) (pv 10) (nomark _)) (pss_one (ps_ret pe_bl)) pss_nil)
      (pss_cons (ps_if (pt_not (pt_val (pe_c GR r4 T.g__law_replica_right (pa_cons (pv 1) (pa_cons (pv 2) (pa_cons (pv 8) (pa_cons (pv 3) (pa_cons (pe_op op_cat (pv 6) (pv 10)) pa_nil)))))))) (pss_one (ps_ret pe_bl)) pss_nil)
      (pss_cons (ps_if (pt_not (pt_val (pe_c GR r4 T.g__law_replica_right (pa_cons (pv 1) (pa_cons (pv 2) (pa_cons (pv 9) (pa_cons (pv 3) (pa_cons (pv 7) pa_nil)))))))) (pss_one (ps_ret pe_bl)) pss_nil)
      (pss_cons (ps_setLc (i := 11) (own := [("_law_name", 12)]) (g := (gName 12)) rfl sc_ltwo.nd rfl rfl (sw_true rfl rfl rfl (by decide +kernel)) (pi_list (pe_c GL r1 T.g__law_line (pa_cons (pv 2) (pa_cons (pe_op op_cat (pv 6) (pv 10)) pa_nil)))) (blkOk_by (own := [("_law_name", 12)]) (N := ["_law_state", "_law_drawn_here", "_law_entries", "_law_start", "_law_world_here", "_law_names", "_law_first", "_law_other", "_law_one", "_law_two", "_law_late", "_law_more", "_law_name"]) (sc := defScope s__law_two_right) (by decide +kernel)) (fun _ _ _ _ _ => (pg_name (i := 12) sc_ltwo.nd rfl (Or.inl rfl))) (fun _ _ _ _ _ => (pts_one (pt_cmpR (op_notInK K) (pv 12) (pv 7) (by rfl)))) (fun _ _ _ _ _ => (pv 12)))
      (pss_cons (ps_if (PW.pt (pw_or (pt_cmpR (op_neD (room64 hr)) (pe_mt (pv 9) T.o_Replica T.m_Replica_sync GY r11 (pa_cons (pv 8) pa_nil)) (pv 11) (nomark _)) (pw_or (pt_cmpR (op_neD (room64 hr)) (pe_listG (pgen_meth (E := EN) (pv 9) T.o_Replica.cl T.m_Replica_lacking GG r7 gb .nil (pa_cons (pv 8) pa_nil)) pass_no (fun _ _ _ z => z.elim) r10 (by rfl) T.z_list (by decide +kernel)) (pe_lst pa_nil) (nomark _)) (pw_or1 (pt_cmpR (op_neD (room64 hr)) (pe_mt (pv 8) T.o_Replica T.m_Replica_sync GY r11 (pa_cons (pv 9) pa_nil)) (pe_lst pa_nil) (nomark _)))))) (pss_one (ps_ret pe_bl)) pss_nil)
      (pss_cons (ps_if (pt_not (pt_val (pe_c GR r4 T.g__law_replica_right (pa_cons (pv 1) (pa_cons (pv 2) (pa_cons (pv 9) (pa_cons (pv 3) (pa_cons (pe_op op_cat (pv 7) (pv 11)) pa_nil)))))))) (pss_one (ps_ret pe_bl)) pss_nil)
      (pss_one (ps_ret (pe_or (pe_cmpR op_notN (pe_c GS r6 T.g__law_split (pa_cons (pv 1) (pa_cons (pv 2) pa_nil))) pe_non (nomark _)) (pe_one (pe_cmpR (op_eqD (room64 hr)) (pe_pr (pv 8) T.o_Replica T.p_Replica_store GRs r2) (pe_pr (pv 9) T.o_Replica T.p_Replica_store GRs r2) (nomark _)))))))))))))))))), ?_⟩
    obtain ⟨⟨l0, d, ht, hl0, hd⟩, hS, _⟩ := id D
    have ok := u0.ok
    refine ⟨_, rfl, t, n, S, L, rfl, D, ok, fun H1 p M s1 W1 eM => ⟨_, rfl, t, _, 2, _, rfl, rfl, SqT.of (s1 _ _ ht), rfl, d, _, rfl, s1 _ _ hd, fun nl hnl => ⟨_, _, rfl, ?_⟩⟩⟩
    rw [kvs_keys]
    have u : Pu n m S L M A x0 := ⟨u0.ok, eM, u0.m2, u0.m4, u0.nm, u0.po, u0.en, u0.a3, u0.xin⟩
    have s2 : Same H1 _ := same_upd (o := .lst ((names L).map V.str)) hnl
    have n2 : upd H1 nl (.lst ((names L).map V.str)) nl = some (.lst ((names L).map V.str)) := upd_same
    generalize upd H1 nl (.lst ((names L).map V.str)) = H2 at s2 n2
    have s12 := s1.trans s2
    have g2 : Gd K TT H H2 t l s0 p n S L M A x0 [] := ⟨kp_same s12, tabs.ext s12, DrAt.kn (kp_same s12) D, s12 _ _ hl, hA.ext s12, s12 _ _ hs0, W1.ext s2, fun z hz => by cases hz⟩
    have st2 := hst.ext s12
    have no := u.no
    refine ⟨_, rfl, _, rfl, st, nl, names L, rfl, st2, n2, ok.chgs.nd, no.l4, fun H3 f xs k3 st3 e3 ax => ?_⟩
    refine ⟨_, rfl, _, rfl, st, nl, names L, rfl, st3, k3.strs n2, ok.chgs.nd, no.l4, fun H4 g zs k4 st4 e4 az => ⟨(by show 2 ≤ sizeLine; decide), fun pr hpr => ?_⟩⟩
    have s5 : Same H4 _ := same_upd (o := .tup [.ref f, .ref g]) hpr
    have p5 : upd H4 pr (.tup [.ref f, .ref g]) pr = some (.tup [.ref f, .ref g]) := upd_same
    generalize upd H4 pr (.tup [.ref f, .ref g]) = H5 at s5 p5
    have g5 : Gd K TT H H5 t l s0 p n S L M A x0 [(f, xs), (g, zs)] := ((g2.keep ((k3.trans k4).trans (Keep.of s5))).add (s5 _ _ e4)).add (s5 _ _ (k4.strs e3))
    have mf : (f, xs) ∈ [(f, xs), (g, zs)] := List.mem_cons_self
    have mg' : (g, zs) ∈ [(f, xs), (g, zs)] := List.mem_cons_of_mem _ List.mem_cons_self
    refine ⟨pr, _, rfl, SqT.of p5, rfl, _, _, rfl, _, _, rfl, rfl, ?_⟩
    have poM : PolOk (ents A) (names M) := by rw [u.nML]; exact u.po
    have a12 : A.length ≤ 12 := by have := u.a3; omega
    have inM : ∀ {ys : List Str}, Arr (names L) ys → Arr (names M) ys := fun h => by rw [u.nML]; exact h
    have inL : ∀ {ys : List Str}, Arr (names M) ys → Arr (names L) ys := fun h => by rw [← u.nML]; exact h
    refine ⟨rfl, _, rfl, _, rfl, l, A, rfl, g5.hl, g5.els, u.en, a12, fun H6 dp s6 _ e6 => ?_⟩
    refine ⟨_, rfl, _, rfl, .inl ⟨f, _, rfl, SqL.of (s6 _ _ (g5.ls _ mf)), fun t1 ht1 => ?_⟩⟩
    have s7 : Same H6 _ := same_upd (o := .tup (xs.map V.str)) ht1
    have e7 : upd H6 t1 (.tup (xs.map V.str)) t1 = some (.tup (xs.map V.str)) := upd_same
    generalize upd H6 t1 (.tup (xs.map V.str)) = H7 at s7 e7
    have g7 := g5.ext (s6.trans s7)
    refine ⟨p, dp, s0, t1, n, S, M, ents A, x0, xs, rfl, g7.wd, u.okM, s7 _ _ e6, poM, u.en, u.st.1, u.st.2, g7.hs, u.xin, e7, ax.nd, (inM ax).sub, ax.l4 no, fun H8 r q B1 => ?_⟩
    have g8 := g7.ext B1.same
    refine ⟨rfl, _, rfl, _, rfl, _, rfl, _, rfl, l, erefs A, -1, rfl, rfl, (by decide), SqL.of g8.hl, fun lr hlr => ?_⟩
    have er : stepV (erefs A) (-1) = erefs A.reverse := by rw [step_rev _ (by unfold erefs; rw [List.length_map]; exact u.a3), erefs_rev]
    rw [er]
    have s9 : Same H8 _ := same_upd (o := .lst (erefs A.reverse)) hlr
    have e9 : upd H8 lr (.lst (erefs A.reverse)) lr = some (.lst (erefs A.reverse)) := upd_same
    generalize upd H8 lr (.lst (erefs A.reverse)) = H9 at s9 e9
    have g9 := g8.ext s9
    have enr : (ents A.reverse).Nodup := by rw [ents_rev]; exact (List.reverse_perm _).nodup_iff.mpr u.en
    have por : PolOk (ents A.reverse) (names M) := by rw [ents_rev]; exact poM.rev
    refine ⟨lr, A.reverse, rfl, e9, fun z hz => g9.els z (List.mem_reverse.mp hz), enr, by rw [List.length_reverse]; exact a12, fun H10 dp2 s10 _ e10 => ?_⟩
    have g10 := g9.ext s10
    refine ⟨_, rfl, _, rfl, .inl ⟨g, _, rfl, SqL.of (g10.ls _ mg'), fun t2 ht2 => ?_⟩⟩
    have s11 : Same H10 _ := same_upd (o := .tup (zs.map V.str)) ht2
    have e11 : upd H10 t2 (.tup (zs.map V.str)) t2 = some (.tup (zs.map V.str)) := upd_same
    generalize upd H10 t2 (.tup (zs.map V.str)) = H11 at s11 e11
    have g11 := g10.ext s11
    refine ⟨p, dp2, s0, t2, n, S, M, ents A.reverse, x0, zs, rfl, g11.wd, u.okM, s11 _ _ e10, por, enr, u.st.1, u.st.2, g11.hs, u.xin, e11, az.nd, (inM az).sub, az.l4 no, fun H12 r' q' B2 => ?_⟩
    have s8_11 : Same H8 H11 := (s9.trans s10).trans s11
    have s7_11 := B1.same.trans s8_11
    have nr : r ≠ r' := fun z => by
      have h := B2.fr
      rw [← z, s8_11 _ _ B1.at_.ob] at h
      cases h
    have na : q.ar ≠ q'.ar := fun z => by
      have h := B2.fa
      rw [← z, s8_11 _ _ B1.at_.ar] at h
      cases h
    have nn : ∀ {b : Addr} {v : HO} {c : Addr}, H7 c = none → H7 b = some v → b ≠ c := fun h e z => by rw [z, h] at e; cases e
    have z12 : Two K TT H H12 t l s0 p n S L M A x0 [(f, xs), (g, zs)] r q r' q' := by
      refine ⟨g7.ext fun b v e => off2_some.mpr ⟨nn (none_back s7_11 B2.fr) e, nn (none_back s7_11 B2.fa) e, off2_some.mpr ⟨nn B1.fr e, nn B1.fa e, B2.same _ _ (s7_11 _ _ e)⟩⟩, B1.at_.ext (s8_11.trans B2.same), B2.at_, nr, na, Like.born B1 (fun _ => Iff.rfl) rfl poM, Like.born B2 (fun e => by rw [ents_rev]; exact List.mem_reverse) (by rw [ents_rev, List.length_reverse]) por⟩
    have qy : q.ys = xs := B1.ey
    have qy' : q'.ys = zs := B2.ey
    clear B1 B2
    have fz := az.fr no
    refine ⟨_, rfl, _, rfl, l, g, A, zs, rfl, z12.all.hl, z12.all.els, u.eo, .inl (SqL.of (z12.all.ls _ mg')), az.l4 no, az.so no, fz, fun H13 ln s13 _ e13 => ⟨ln, rfl, ⟨_, SqL.of e13⟩, fun D1 hD1 => ?_⟩⟩
    have z13 := z12.ext s13
    refine lc_lack (K := K) (a := ln) (b := f) (os := lineN (ents A) 4 zs) (ys := xs) (j := 12) (jb := 6) hD1 e13 (z13.all.ls _ mf) (line_len _ _ _) (fun _ => rfl) (fun _ => rfl) (fun _ => rfl) fun H14 s14 e14 => ?_
    generalize elate : lackN (lineN (ents A) 4 zs) xs = late at e14
    have z14 := z13.add s14 hD1 e14
    have tz := z14.k2.told u
    rw [qy'] at tz
    have el2 : lackN q'.os q.ys = late := by rw [tz.1, qy]; exact elate
    have aline : ∀ {ys : List Str}, Arr (names L) ys → Arr (names L) (lineN (ents A) 4 ys) := fun h => ⟨line_nd _ _ _, fun y hy => h.sub y (line_mem _ 4 _ hy)⟩
    have axl : Arr (names L) (xs ++ late) := by rw [← elate]; exact lack_arr (aline az) ax
    have lso : ∀ y ∈ late, PyData.strOk y = true := fun y hy => no.so y (axl.sub y (List.mem_append_right _ hy))
    refine ⟨_, rfl, r, q.dx, _, rfl, z14.a1.ob, no_rep (by decide +kernel), _, rfl, r, r', q, q', n, S, M, rfl, z14.a1, z14.a2, z14.k1.alike z14.k2, (by rw [z14.k1.p]; exact z14.all.wd), u.okM, z14.k2.os4, fun H15 s15 => fun l15 hl15 => ?_⟩
    rw [el2]
    have s16 : Same H15 _ := same_upd (o := .lst (late.map V.str)) hl15
    have e16 : upd H15 l15 (.lst (late.map V.str)) l15 = some (.lst (late.map V.str)) := upd_same
    generalize upd H15 l15 (.lst (late.map V.str)) = H16 at s16 e16
    have z16 := z14.ext (s15.trans s16)
    have md : (D1, late) ∈ [(D1, late), (f, xs), (g, zs)] := List.mem_cons_self
    have mf1 : (f, xs) ∈ [(D1, late), (f, xs), (g, zs)] := List.mem_cons_of_mem _ mf
    have mg1 : (g, zs) ∈ [(D1, late), (f, xs), (g, zs)] := List.mem_cons_of_mem _ mg'
    refine ⟨_, rfl, _, _, .lst (SqL.of e16) (dp_strs _), .lst (SqL.of (z16.all.ls _ md)) (dp_strs _), shp_strs lso, shp_strs lso, false, congrArg V.bl (by rw [eqv_shp (shp_strs lso)] <;> rfl), iteF ?_⟩
    refine ⟨_, rfl, r, q.dx, _, rfl, z16.a1.ob, no_rep (by decide +kernel), _, rfl, r, r', q, q', n, S, M, rfl, z16.a1, z16.w1 u, z16.k1.good, z16.a2, z16.k1.alike z16.k2, z16.k2.os4, (by rw [z16.k2.good.os]; exact line_nd _ _ _), (fun y hy => by rw [z16.k2.good.os] at hy; exact z16.k2.ar.sub y (line_mem _ 4 _ hy)), fun H17 l17 q1 kr lt _ e17 => ?_⟩
    rw [el2] at e17
    have z17 := z16.later kr lt
    have q1y : q1.ys = xs ++ late := by rw [lt.ys, el2, qy]
    clear lt kr
    refine ⟨_, rfl, _, _, .lst (SqL.of e17) (dp_strs _), .lst (SqL.of (z17.all.ls _ md)) (dp_strs _), shp_strs lso, shp_strs lso, false, congrArg V.bl (by rw [eqv_shp (shp_strs lso)] <;> rfl), iteF ?_⟩
    have t1' := z17.k1.told u
    rw [q1y] at t1'
    have cat : ∀ (a b : List Str), a.length ≤ 4 → b.length ≤ 4 → (a.map V.str).length + (b.map V.str).length ≤ sizeLine := fun a b ha hb => by
      rw [List.length_map, List.length_map]
      exact Nat.le_trans (show a.length + b.length ≤ 1000 by omega) (by decide)
    have x4 := ax.l4 no
    have z4 := az.l4 no
    have late4 : late.length ≤ 4 := by
      have := axl.l4 no
      rw [List.length_append] at this
      omega
    refine ⟨_, rfl, _, rfl, _, rfl, _, rfl, _, rfl, _, rfl, f, D1, _, _, rfl, rfl, z17.all.ls _ mf1, z17.all.ls _ md, cat _ _ x4 late4, fun p18 hp18 => ?_⟩
    rw [← List.map_append]
    have s18 : Same H17 _ := same_upd (o := .lst ((xs ++ late).map V.str)) hp18
    have e18 : upd H17 p18 (.lst ((xs ++ late).map V.str)) p18 = some (.lst ((xs ++ late).map V.str)) := upd_same
    generalize upd H17 p18 (.lst ((xs ++ late).map V.str)) = H18 at s18 e18
    have z18 := z17.ext s18
    refine ⟨t, l, r, s0, p18, A, q1, n, S, L, x0, xs ++ late, rfl, z18.all.dr, ok, z18.all.hl, z18.all.els, u.eo, z18.a1, z18.all.hs, u.st.1, u.st.2, e18, no, axl, q1y, t1'.1, t1'.2.1, t1'.2.2, fun H19 s19 => ⟨true, rfl, iteF ?_⟩⟩
    have z19 := z18.ext s19
    refine ⟨_, rfl, _, rfl, _, rfl, _, rfl, _, rfl, t, l, r', s0, g, A, q', n, S, L, x0, zs, rfl, z19.all.dr, ok, z19.all.hl, z19.all.els, u.eo, z19.a2, z19.all.hs, u.st.1, u.st.2, z19.all.ls _ mg1, no, az, qy', tz.1, tz.2.1, tz.2.2, fun H20 s20 => ⟨true, rfl, iteF ?_⟩⟩
    have z20 := z19.ext s20
    refine ⟨_, rfl, _, rfl, _, rfl, f, D1, _, _, rfl, rfl, z20.all.ls _ mf1, z20.all.ls _ md, cat _ _ x4 late4, fun p21 hp21 => ?_⟩
    rw [← List.map_append]
    have s21 : Same H20 _ := same_upd (o := .lst ((xs ++ late).map V.str)) hp21
    have e21 : upd H20 p21 (.lst ((xs ++ late).map V.str)) p21 = some (.lst ((xs ++ late).map V.str)) := upd_same
    generalize upd H20 p21 (.lst ((xs ++ late).map V.str)) = H21 at s21 e21
    have z21 := z20.ext s21
    refine ⟨l, p21, A, xs ++ late, rfl, z21.all.hl, z21.all.els, u.eo, .inl (SqL.of e21), axl.l4 no, axl.so no, axl.fr no, fun H22 ln2 s22 _ e22 => ⟨ln2, rfl, ⟨_, SqL.of e22⟩, fun D2 hD2 => ?_⟩⟩
    have z22 := z21.ext s22
    refine lc_lack (K := K) (a := ln2) (b := g) (os := lineN (ents A) 4 (xs ++ late)) (ys := zs) (j := 12) (jb := 7) hD2 e22 (z22.all.ls _ mg1) (line_len _ _ _) (fun _ => rfl) (fun _ => rfl) (fun _ => rfl) fun H23 s23 e23 => ?_
    generalize emore : lackN (lineN (ents A) 4 (xs ++ late)) zs = more at e23
    have z23 := z22.add s23 hD2 e23
    have em2 : lackN q1.os q'.ys = more := by rw [t1'.1, qy']; exact emore
    have azm : Arr (names L) (zs ++ more) := by rw [← emore]; exact lack_arr (aline axl) az
    have mso : ∀ y ∈ more, PyData.strOk y = true := fun y hy => no.so y (azm.sub y (List.mem_append_right _ hy))
    have mm : (D2, more) ∈ [(D2, more), (D1, late), (f, xs), (g, zs)] := List.mem_cons_self
    have mg2 : (g, zs) ∈ [(D2, more), (D1, late), (f, xs), (g, zs)] := List.mem_cons_of_mem _ mg1
    have w23 := z23.swap
    refine ⟨_, rfl, r', q'.dx, _, rfl, w23.a1.ob, no_rep (by decide +kernel), _, rfl, r', r, q', q1, n, S, M, rfl, w23.a1, w23.w1 u, w23.k1.good, w23.a2, w23.k1.alike w23.k2, w23.k2.os4, (by rw [w23.k2.good.os]; exact line_nd _ _ _), (fun y hy => by rw [w23.k2.good.os] at hy; exact w23.k2.ar.sub y (line_mem _ 4 _ hy)), fun H24 l24 q2 kr lt _ e24 => ?_⟩
    rw [em2] at e24
    have w24 := w23.later kr lt
    have q2y : q2.ys = zs ++ more := by rw [lt.ys, em2, qy']
    clear lt kr
    refine ⟨_, rfl, _, _, .lst (SqL.of e24) (dp_strs _), .lst (SqL.of (w24.all.ls _ mm)) (dp_strs _), shp_strs mso, shp_strs mso, false, congrArg V.bl (by rw [eqv_shp (shp_strs mso)] <;> rfl), iteF ?_⟩
    have t2' := w24.k1.told u
    rw [q2y] at t2'
    have hasL := fun (y : Str) => line_has (E := ents A) axl.nd (axl.l4 no) (axl.fr no) (y := y)
    have hasZ := fun (y : Str) => line_has (E := ents A) az.nd z4 fz (y := y)
    have hasM := fun (y : Str) => line_has (E := ents A) azm.nd (azm.l4 no) (azm.fr no) (y := y)
    have inXL : ∀ y, y ∈ xs ++ late ↔ y ∈ xs ∨ y ∈ zs := fun y => by rw [← elate, mem_lack, hasZ]
    have inZM : ∀ y, y ∈ zs ++ more ↔ y ∈ zs ∨ y ∈ xs ++ late := fun y => by rw [← emore, mem_lack, hasL]
    have both : ∀ y, y ∈ xs ++ late ↔ y ∈ zs ++ more := fun y => by
      rw [inZM, inXL]
      exact ⟨fun h => .inr h, fun h => h.elim .inr id⟩
    have no1 : lackN q1.os q2.ys = [] := lack_none fun y hy => by
      rw [t1'.1] at hy
      rw [q2y]
      exact (both y).mp ((hasL y).mp hy)
    have no2 : lackN q2.os q1.ys = [] := lack_none fun y hy => by
      rw [t2'.1] at hy
      rw [q1y]
      exact (both y).mpr ((hasM y).mp hy)
    have nso : ∀ y ∈ ([] : List Str), PyData.strOk y = true := fun y hy => by cases hy
    refine ⟨_, rfl, r', q2.dx, _, rfl, w24.a1.ob, no_rep (by decide +kernel), _, rfl, r', r, q2, q1, n, S, M, rfl, w24.a1, w24.a2, w24.k1.alike w24.k2, (by rw [w24.k1.p]; exact w24.all.wd), u.okM, w24.k2.os4, fun H25 s25 => fun l25 hl25 => ?_⟩
    rw [no1]
    have s26 : Same H25 _ := same_upd (o := .lst (([] : List Str).map V.str)) hl25
    have e26 : upd H25 l25 (.lst (([] : List Str).map V.str)) l25 = some (.lst (([] : List Str).map V.str)) := upd_same
    generalize upd H25 l25 (.lst (([] : List Str).map V.str)) = H26 at s26 e26
    refine ⟨(by show 0 ≤ sizeLine; decide), fun l27 hl27 => ?_⟩
    have s27 : Same H26 _ := same_upd (o := .lst []) hl27
    have e27 : upd H26 l27 (.lst []) l27 = some (.lst (([] : List Str).map V.str)) := upd_same
    have w27 := w24.ext ((s25.trans s26).trans s27)
    refine ⟨_, _, .lst (SqL.of (s27 _ _ e26)) (dp_strs _), .lst (SqL.of e27) (dp_strs _), shp_strs nso, shp_strs nso, false, congrArg V.bl (by rw [eqv_shp (shp_strs nso)] <;> rfl), iteF ?_⟩
    generalize upd H26 l27 (.lst []) = H27 at s27 e27 w27
    have z27 := w27.swap
    refine ⟨_, rfl, r, q1.dx, _, rfl, z27.a1.ob, no_rep (by decide +kernel), _, rfl, r, r', q1, q2, n, S, M, rfl, z27.a1, z27.w1 u, z27.k1.good, z27.a2, z27.k1.alike z27.k2, z27.k2.os4, (by rw [z27.k2.good.os]; exact line_nd _ _ _), (fun y hy => by rw [z27.k2.good.os] at hy; exact z27.k2.ar.sub y (line_mem _ 4 _ hy)), fun H28 l28 q3 kr lt _ e28 => ?_⟩
    rw [no2] at e28
    have z28 := z27.later kr lt
    have q3y : q3.ys = xs ++ late := by rw [lt.ys, no2, List.append_nil, q1y]
    clear lt kr
    refine ⟨(by show 0 ≤ sizeLine; decide), fun l29 hl29 => ?_⟩
    have s29 : Same H28 _ := same_upd (o := .lst []) hl29
    have e29 : upd H28 l29 (.lst []) l29 = some (.lst (([] : List Str).map V.str)) := upd_same
    have z29 := z28.ext s29
    refine ⟨_, _, .lst (SqL.of (s29 _ _ e28)) (dp_strs _), .lst (SqL.of e29) (dp_strs _), shp_strs nso, shp_strs nso, false, congrArg V.bl (by rw [eqv_shp (shp_strs nso)] <;> rfl), iteF ?_⟩
    generalize upd H28 l29 (.lst []) = H29 at s29 e29 z29
    have more4 : more.length ≤ 4 := by
      have := azm.l4 no
      rw [List.length_append] at this
      omega
    refine ⟨_, rfl, _, rfl, _, rfl, _, rfl, _, rfl, _, rfl, g, D2, _, _, rfl, rfl, z29.all.ls _ mg2, z29.all.ls _ mm, cat _ _ z4 more4, fun p30 hp30 => ?_⟩
    rw [← List.map_append]
    have s30 : Same H29 _ := same_upd (o := .lst ((zs ++ more).map V.str)) hp30
    have e30 : upd H29 p30 (.lst ((zs ++ more).map V.str)) p30 = some (.lst ((zs ++ more).map V.str)) := upd_same
    generalize upd H29 p30 (.lst ((zs ++ more).map V.str)) = H30 at s30 e30
    have z30 := z29.ext s30
    refine ⟨t, l, r', s0, p30, A, q2, n, S, L, x0, zs ++ more, rfl, z30.all.dr, ok, z30.all.hl, z30.all.els, u.eo, z30.a2, z30.all.hs, u.st.1, u.st.2, e30, no, azm, q2y, t2'.1, t2'.2.1, t2'.2.2, fun H31 s31 => ⟨true, rfl, iteF ?_⟩⟩
    have z31 := z30.ext s31
    refine ⟨_, rfl, _, rfl, t, l, n, m, S, L, A, rfl, z31.all.dr, ok, u.m2, u.m4, u.nm, z31.all.hl, z31.all.els, a12, z31.all.tab, fun H32 v e32 t32 cs => ?_⟩
    have kp32 : Kp H H32 := z31.all.kp.trans e32.n
    have R1 := z31.a1.exn e32
    have R2 := z31.a2.exn e32
    rcases cs with ⟨rfl, ag⟩ | ⟨a, rfl⟩
    · refine ⟨rfl, false, congrArg V.bl (by rw [decide_eq_true rfl] <;> rfl), iteF ?_⟩
      refine ⟨_, rfl, r, q3.dx, _, rfl, R1.ob, r, q3, rfl, R1, _, rfl, r', q2.dx, _, rfl, R2.ob, r', q2, rfl, R2, dT _, dT _, dp_T R1.rc, dp_T R2.rc, shp_T _, shp_T _, ?_⟩
      have t3' := z31.k1.told u
      rw [q3y] at t3'
      rw [eqv_T, t3'.2.1, t2'.2.1, ends_alike u ag axl azm both, decide_eq_true rfl]
      exact kk _ kp32 t32
    · refine ⟨rfl, true, congrArg V.bl (by rw [decide_eq_false (fun z => by cases z)] <;> rfl), iteT ?_⟩
      exact kk _ kp32 t32
end
end OP
namespace OP
open PySem PySem.Spec PyProof.Rows GenW L2 LamX
theorem free_nil (zs : List Str) : freeN [] zs = zs := by
  unfold freeN
  refine List.filter_eq_self.mpr fun y _ => ?_
  have : (zs.any fun o => bef [] o y) = false := by
    rw [List.any_eq_false]
    intro o _
    unfold bef
    simp
  rw [this] <;> rfl
/-- a list of tuples against an empty list -/
theorem eqv_nilL (ds : List PyData) : PyData.eqv (.list ds) (.list []) = decide (ds = []) := by
  cases ds with
  | nil => simp [PyData.eqv, PyData.eqvAll]
  | cons d ds => simp [PyData.eqv, PyData.eqvAll]
theorem dp_NtsF {K : PySem.W.Frag} {H : Hp} : ∀ {Z : Nts}, NtsF H Z → DpAll K H (nrefs Z) ((Z.map (·.2)).map dN)
  | [], _ => .nil
  | p :: Z, h => .cons (.tup (h p List.mem_cons_self).sq (dp_strs _)) (dp_NtsF fun q hq => h q (List.mem_cons_of_mem _ hq))
/-! ### orders with their work, as data -/
def dAw (z : List Str × Nat) : PyData := .tuple [dN z.1, .int (z.2 : Int)]
theorem lay_Aw {z : List Str × Nat} (h : ∀ y ∈ z.1, PyData.strOk y = true) : (dAw z).canLay0 = true := by
  unfold dAw
  simp only [PyData.canLay0, PyData.canLayAll0, lay_N h, Bool.and_self]
theorem dep_Aw (z : List Str × Nat) : (dAw z).depth ≤ 2 := by
  unfold dAw
  simp only [PyData.depth, PyData.depthAll, dep_N]
  decide
theorem shp_Aw {z : List Str × Nat} (h : ∀ y ∈ z.1, PyData.strOk y = true) : SeqAt.shaped (dAw z) = true := shp (lay_Aw h) (Nat.le_trans (dep_Aw z) (by decide))
theorem shp_Aws {zs : List (List Str × Nat)} (h : ∀ z ∈ zs, ∀ y ∈ z.1, PyData.strOk y = true) : SeqAt.shaped (.list (zs.map dAw)) = true := shp (by simp only [PyData.canLay0]; exact lay_all zs fun x hx => lay_Aw (h x hx)) (by
  simp only [PyData.depth]
  have := dep_all (n := 2) (f := dAw) zs fun x _ => dep_Aw x
  omega)
/-- pairs whose orders are known tuples -/
def EvAt (H : Hp) (Z : Aws) : Prop := ∀ z ∈ Z, H z.1 = some (.tup [.ref z.2.1, .int z.2.2.2]) ∧ TupF H z.2.1 (z.2.2.1.map V.str)
theorem EvAt.ext {H H' : Hp} {Z : Aws} (s : Same H H') (h : EvAt H Z) : EvAt H' Z := fun z hz => ⟨s _ _ (h z hz).1, (h z hz).2.ext s⟩
theorem EvAt.exn {H H' : Hp} {Z : Aws} (s : ExtN H H') (h : EvAt H Z) : EvAt H' Z := fun z hz => ⟨s _ _ (h z hz).1 (fun _ q => by cases q), by
  obtain ⟨o, d, e⟩ := (h z hz).2
  exact ⟨o, d, s _ _ e (fun _ q => by cases q)⟩⟩
section
variable {K : PySem.W.Frag} {H : Hp}
theorem dp_Aw1 {Z : Aws} (h : AwAt H Z) {z : Addr × Addr × List Str × Nat} (hz : z ∈ Z) : Dp K H (.ref z.1) (dAw z.2.2) := .tup (SqT.of (h z hz).1) (.cons (dp_N (h z hz).2) (.cons (.int _) .nil))
theorem dp_Ev1 {Z : Aws} (h : EvAt H Z) {z : Addr × Addr × List Str × Nat} (hz : z ∈ Z) : Dp K H (.ref z.1) (dAw z.2.2) := .tup (SqT.of (h z hz).1) (.cons (.tup (h z hz).2.sq (dp_strs _)) (.cons (.int _) .nil))
theorem dp_Aws : ∀ {Z : Aws}, AwAt H Z → DpAll K H (wrefs Z) ((wcont Z).map dAw)
  | [], _ => .nil
  | z :: Z, h => .cons (dp_Aw1 h List.mem_cons_self) (dp_Aws fun y hy => h y (List.mem_cons_of_mem _ hy))
theorem dp_Evs : ∀ {Z : Aws}, EvAt H Z → DpAll K H (wrefs Z) ((wcont Z).map dAw)
  | [], _ => .nil
  | z :: Z, h => .cons (dp_Ev1 h List.mem_cons_self) (dp_Evs fun y hy => h y (List.mem_cons_of_mem _ hy))
end
theorem wk_cont {Z Y : Aws} (h : wcont Z = wcont Y) (j : Nat) : wkAt Z j = wkAt Y j := by
  have e : (wcont Z)[j]? = (wcont Y)[j]? := by rw [h]
  unfold wcont at e
  rw [List.getElem?_map, List.getElem?_map] at e
  unfold wkAt
  cases h1 : Z[j]? with
  | none =>
    cases h2 : Y[j]? with
    | none => rfl
    | some y => rw [h1, h2] at e; cases e
  | some z =>
    cases h2 : Y[j]? with
    | none => rw [h1, h2] at e; cases e
    | some y =>
      rw [h1, h2] at e
      have this : z.2.2 = y.2.2 := Option.some.inj e
      show ((z.2.2.2 : Nat) : Int) = ((y.2.2.2 : Nat) : Int)
      rw [this]
theorem top_one {kf kg : Nat → Int} {n i j : Nat} (hk : ∀ a, kf a = kg a) (hi : i < n) (hj : j < n) (h1 : TopAt kf n i) (h2 : TopAt kg n j) : i = j := by
  have a1 := h1 j hj
  have a2 := h2 i hi
  rw [← hk, ← hk] at a2
  rcases Nat.lt_trichotomy i j with h | h | h
  · have := a2.2 h
    omega
  · exact h
  · have := a1.2 h
    omega
/-! ### while pairs are drawn -/
structure P0 (K : PySem.W.Frag) (TT : List (Addr × Str)) (sc : Addr) (H0 H : Hp) (st t nl s0 n : Nat) (S : Sts) (L : Rws) (x0 : List Int) (A : Els) : Prop where
  kp : Kp H0 H
  tab : Tabs TT H
  stt : StAt K sc H st
  dr : DrAt H t n S L
  hn : H nl = some (.lst ((names L).map V.str))
  hs : H s0 = some (.tup (x0.map V.int))
  els : ElsAt H A
structure P1 (K : PySem.W.Frag) (TT : List (Addr × Str)) (sc : Addr) (H0 H : Hp) (st t nl s0 pl n : Nat) (S : Sts) (L : Rws) (x0 : List Int) (A : Els) : Prop where
  off : P0 K TT sc H0 (off2 H pl pl) st t nl s0 n S L x0 A
  hl : H pl = some (.lst (erefs A))
structure P1e (L : Rws) (A : Els) : Prop where
  en : (ents A).Nodup
  mem : ∀ e ∈ ents A, e.1 ∈ names L ∧ e.2 ∈ names L ∧ e.1 ≠ e.2
  fr : ∀ zs : List Str, (∀ z ∈ zs, z ∈ names L) → zs ≠ [] → freeN (ents A) zs ≠ []
section
variable {K : PySem.W.Frag} {TT : List (Addr × Str)} {sc : Addr} {H0 H H' : Hp} {st t nl s0 pl n m p l : Nat} {S : Sts} {L : Rws} {M : Ncs} {x0 : List Int} {A : Els}
theorem P0.ext (s : Same H H') (g : P0 K TT sc H0 H st t nl s0 n S L x0 A) : P0 K TT sc H0 H' st t nl s0 n S L x0 A :=
  ⟨g.kp.trans (kp_same s), g.tab.ext s, g.stt.ext s, DrAt.kn (kp_same s) g.dr, s _ _ g.hn, s _ _ g.hs, g.els.ext s⟩
theorem P0.keep (k : Keep H H') (z : StAt K sc H' st) (g : P0 K TT sc H0 H st t nl s0 n S L x0 A) : P0 K TT sc H0 H' st t nl s0 n S L x0 A :=
  ⟨g.kp.trans k.n, tabs_keep k g.tab, z, DrAt.kn k.n g.dr, k.strs g.hn, k.tup g.hs, fun z hz => k.tup (g.els z hz)⟩
theorem P0.els_snoc {z : Addr × Str × Str} (g : P0 K TT sc H0 H st t nl s0 n S L x0 A) (h : H z.1 = some (.tup [.str z.2.1, .str z.2.2])) : P0 K TT sc H0 H st t nl s0 n S L x0 (A ++ [z]) :=
  { g with els := fun y hy => (List.mem_append.mp hy).elim (g.els y) fun e => by rw [List.mem_singleton.mp e]; exact h }
section
variable (g : P1 K TT sc H0 H st t nl s0 pl n S L x0 A)
include g
theorem P1.all : P0 K TT sc H0 H st t nl s0 n S L x0 A := g.off.ext off2_same
theorem P1.kp : Kp H0 H := g.all.kp
theorem P1.tab : Tabs TT H := g.all.tab
theorem P1.stt : StAt K sc H st := g.all.stt
theorem P1.dr : DrAt H t n S L := g.all.dr
theorem P1.hn : H nl = some (.lst ((names L).map V.str)) := g.all.hn
theorem P1.hs : H s0 = some (.tup (x0.map V.int)) := g.all.hs
theorem P1.els : ElsAt H A := g.all.els
end
theorem P1.start (g : P0 K TT sc H0 H st t nl s0 n S L x0 []) (h : H pl = none) : P1 K TT sc H0 (upd H pl (.lst [])) st t nl s0 pl n S L x0 [] :=
  ⟨g.ext fun b u e => off2_some.mpr ⟨ne_of_none e h, ne_of_none e h, (upd_ne (ne_of_none e h)).trans e⟩, upd_same⟩
theorem P1.ext (s : Same H H') (g : P1 K TT sc H0 H st t nl s0 pl n S L x0 A) : P1 K TT sc H0 H' st t nl s0 pl n S L x0 A := ⟨g.off.ext (Kr.of s).off, s _ _ g.hl⟩
theorem off_keep {a r : Addr} (k : Keep H H') : Keep (off2 H r a) (off2 H' r a) := fun b u nu e => by
  obtain ⟨h1, h2, e⟩ := off2_some.mp e
  exact off2_some.mpr ⟨h1, h2, k b u nu e⟩
theorem P1.keep (k : Keep H H') (h' : StAt K sc H' st) (g : P1 K TT sc H0 H st t nl s0 pl n S L x0 A) : P1 K TT sc H0 H' st t nl s0 pl n S L x0 A := by
  refine ⟨g.off.keep (off_keep k) ?_, k _ _ (notSt_refs _ A) g.hl⟩
  obtain ⟨ns, b, c, e1, e2, _⟩ := g.off.stt
  obtain ⟨ns', b', c', e1', _, h0⟩ := h'
  obtain ⟨x1, x2, _⟩ := off2_some.mp e1
  exact ⟨ns, b', c', off2_some.mpr ⟨x1, x2, e1'⟩, (off_keep k).sq e2, h0⟩
theorem P1.app {z : Addr × Str × Str} (g : P1 K TT sc H0 H st t nl s0 pl n S L x0 A) (h : H z.1 = some (.tup [.str z.2.1, .str z.2.2])) : P1 K TT sc H0 (upd H pl (.lst (erefs A ++ [.ref z.1]))) st t nl s0 pl n S L x0 (A ++ [z]) := by
  have n1 : z.1 ≠ pl := fun e => by rw [e, g.hl] at h; cases h
  refine ⟨(g.off.els_snoc (off2_some.mpr ⟨n1, n1, h⟩)).ext fun b u e => ?_, ?_⟩
  · obtain ⟨h1, h2, e⟩ := off2_some.mp e
    exact off2_some.mpr ⟨h1, h2, (upd_ne h1).trans e⟩
  · rw [upd_same]
    unfold erefs
    rw [List.map_append] <;> rfl
/-! ### while a replica is fed -/
structure One1 (K : PySem.W.Frag) (TT : List (Addr × Str)) (sc : Addr) (H0 H : Hp) (st t l s0 p n : Nat) (S : Sts) (L : Rws) (M : Ncs) (A : Els) (x0 : List Int) (X : List (Addr × List Str)) (r : Addr) (q : Rep) (al : Addr) (ys : List Str) : Prop where
  gd : Gd K TT H0 (off2 (off2 H r q.ar) al al) t l s0 p n S L M A x0 X
  stt : StAt K sc (off2 (off2 H r q.ar) al al) st
  a1 : RepAt K H r q
  hal : H al = some (.lst (ys.map V.str))
  na : al ≠ q.ar
  k1 : Like q p M A x0
variable {X : List (Addr × List Str)} {r al : Addr} {q : Rep} {ys : List Str}
theorem One1.ext (s : Same H H') (z : One1 K TT sc H0 H st t l s0 p n S L M A x0 X r q al ys) : One1 K TT sc H0 H' st t l s0 p n S L M A x0 X r q al ys :=
  ⟨z.gd.ext (offs_same fun b u _ _ _ _ e => s b u e), z.stt.ext (offs_same fun b u _ _ _ _ e => s b u e), z.a1.ext s, s _ _ z.hal, z.na, z.k1⟩
theorem One1.all (z : One1 K TT sc H0 H st t l s0 p n S L M A x0 X r q al ys) : Gd K TT H0 H t l s0 p n S L M A x0 X := (z.gd.ext off2_same).ext off2_same
theorem One1.st' (z : One1 K TT sc H0 H st t l s0 p n S L M A x0 X r q al ys) : StAt K sc H st := (z.stt.ext off2_same).ext off2_same
theorem offs_keep {a : Addr} (k : Keep H H') : Keep (off2 (off2 H r a) al al) (off2 (off2 H' r a) al al) := fun b u nu e => by
  obtain ⟨h1, h2, e⟩ := off2_some.mp e
  obtain ⟨h3, h4, e⟩ := off2_some.mp e
  exact off2_some.mpr ⟨h1, h2, off2_some.mpr ⟨h3, h4, k b u nu e⟩⟩
theorem RepAt.keep (k : Keep H H') (h : RepAt K H r q) : RepAt K H' r q := ⟨k.ins h.ob, k _ _ (fun _ _ _ z => by cases z) h.po, k.tup h.st, k.strs h.ar, k.tup h.ap, k.tup h.rc⟩
theorem One1.keep (k : Keep H H') (h' : StAt K sc H' st) (z : One1 K TT sc H0 H st t l s0 p n S L M A x0 X r q al ys) : One1 K TT sc H0 H' st t l s0 p n S L M A x0 X r q al ys := by
  refine ⟨z.gd.keep (offs_keep k), ?_, z.a1.keep k, k.strs z.hal, z.na, z.k1⟩
  obtain ⟨ns, b, c, e1, e2, _⟩ := z.stt
  obtain ⟨ns', b', c', e1', _, h0⟩ := h'
  obtain ⟨x1, x2, e1⟩ := off2_some.mp e1
  obtain ⟨x3, x4, _⟩ := off2_some.mp e1
  exact ⟨ns, b', c', off2_some.mpr ⟨x1, x2, off2_some.mpr ⟨x3, x4, e1'⟩⟩, (offs_keep k).sq e2, h0⟩
theorem One1.app {zs : List Str} (z : One1 K TT sc H0 H st t l s0 p n S L M A x0 X r q al ys) : One1 K TT sc H0 (upd H al (.lst (zs.map V.str))) st t l s0 p n S L M A x0 X r q al zs := by
  have s : Same (off2 (off2 H r q.ar) al al) (off2 (off2 (upd H al (.lst (zs.map V.str))) r q.ar) al al) := offs_same fun b u _ _ h _ e => (upd_ne h).trans e
  have tn : ∀ {b : Addr} {ts : List V}, H b = some (.tup ts) → b ≠ al := fun e z' => by rw [z', z.hal] at e; cases e
  refine ⟨z.gd.ext s, z.stt.ext s, ⟨(upd_ne (fun h => ?_)).trans z.a1.ob, (upd_ne (fun h => ?_)).trans z.a1.po, (upd_ne (tn z.a1.st)).trans z.a1.st, (upd_ne (Ne.symm z.na)).trans z.a1.ar, (upd_ne (tn z.a1.ap)).trans z.a1.ap, (upd_ne (tn z.a1.rc)).trans z.a1.rc⟩, upd_same, z.na, z.k1⟩
  · have e := z.a1.ob
    rw [h, z.hal] at e
    cases e
  · have e := z.a1.po
    rw [h, z.hal] at e
    cases e
theorem One1.recv {y : Str} {ap rc : Addr} (z : One1 K TT sc H0 H st t l s0 p n S L M A x0 X r q al ys) (k : Kr r q.ar H H') (R : RepAt K H' r (q.next M y ap rc)) (h : y ∈ names M) (nn : y ∉ q.ys) : One1 K TT sc H0 H' st t l s0 p n S L M A x0 X r (q.next M y ap rc) al ys := by
  have s : Same (off2 (off2 H r q.ar) al al) (off2 (off2 H' r q.ar) al al) := offs_same fun b u h1 h2 _ _ e => k b u h1 h2 e
  refine ⟨z.gd.ext s, z.stt.ext s, R, k _ _ (fun e => ?_) z.na z.hal, z.na, z.k1.next h nn⟩
  have e' := z.a1.ob
  rw [← e, z.hal] at e'
  cases e'
theorem One1.w (u : Pu n m S L M A x0) (z : One1 K TT sc H0 H st t l s0 p n S L M A x0 X r q al ys) : RepW K H r q n S M := z.k1.repW u (z.gd.wd.ext off2_same)
end
end OP
namespace OP
open PySem PySem.Spec PyProof.Rows GenW L2 LamX
theorem Gd.exn {K : PySem.W.Frag} {TT : List (Addr × Str)} {H0 H H' : Hp} {t l s0 p n : Nat} {S : Sts} {L : Rws} {M : Ncs} {A : Els} {x0 : List Int} {X : List (Addr × List Str)} (e : ExtN H H') (tb : Tabs TT H') (g : Gd K TT H0 H t l s0 p n S L M A x0 X) : Gd K TT H0 H' t l s0 p n S L M A x0 X :=
  ⟨g.kp.trans e.n, tb, DrAt.kn e.n g.dr, e _ _ g.hl (fun _ z => by cases z), g.els.exn e, e _ _ g.hs (fun _ z => by cases z), WorldAt.kn e.n g.wd, fun z hz => e _ _ (g.ls z hz) (fun _ q => by cases q)⟩
theorem allow_ne {m : Nat} (h2 : 2 ≤ m) (h3 : m < 4) : allowN [] 4 (allNames.take m) ≠ [] := by
  have : m = 2 ∨ m = 3 := by omega
  rcases this with rfl | rfl
  · decide +kernel
  · decide +kernel
section
variable {P : Program} {w : PySem.World} {K : PySem.W.Frag} {mg : Str → Option Value} {base : Heap} {sc : Addr}
def spRight (K : PySem.W.Frag) (sc : Addr) (TT : List (Addr × Str)) : Sp := fun vs H Q _ => ∃ (st : Addr), vs = [.ref st] ∧ StAt K sc H st ∧ Tabs TT H ∧ ∀ H', Kp H H' → Tabs TT H' → Q (.bl true) H'
theorem sc_lone : FnScope ["_law_state", "_law_drawn_here", "_law_names", "_law_start", "_law_pairs", "_law_turn", "_law_pair", "_law_world_here", "_law_replica", "_law_arrival", "_law_name", "_law_every", "_law_best", "_law_item", "_law_one"] ["_law_state"] (defScope s__law_one_right) := ⟨rfl, rfl, rfl, by decide +kernel, rfl, by decide +kernel, by decide +kernel⟩
theorem ok_lone (T : Txt K mg) {Pt Ph : Addr} {TT : List (Addr × Str)} (LT : LamTab K mg base Pt) (hmT : (Pt, lamQ) ∈ TT) (huT : ∀ q ∈ TT, q.1 = Pt → q.2 = lamQ) (LH : LamTabH K mg base Ph) (hmH : (Ph, hardQ) ∈ TT) (huH : ∀ q ∈ TT, q.1 = Ph → q.2 = hardQ) : Ok P w K mg base (a__law_one_right K) ["_law_state"] 15 (spRight K sc TT) := by
  have GDr : Ok P w K mg base (a__law_drawn K) _ 8 (spDrawn K sc) := ok_drawn T
  have GK : Ok P w K mg base (a__law_pick K) _ 4 (spPick K sc) := ok_pick T
  have GX : Ok P w K mg base (a__law_next K) _ 3 (spNext K sc) := ok_next T
  have GO : Ok P w K mg base (a__law_orders K) _ 1 (spLOrd K) := ok_lord T
  have GW : Ok P w K mg base (a__law_world K) _ 9 (spLWorld K) := ok_lworld T
  have GPo : Ok P w K mg base (a__law_policy K) _ 1 (spLPol K) := ok_lpol T
  have GRf : Ok P w K mg base (a__law_refused K) _ 3 (spRefused K) := ok_refused T
  have GE : Ok P w K mg base (a__law_end K) _ 3 (spLEnd K) := ok_lend T
  have GL : Ok P w K mg base (a__law_line K) _ 1 (spLine K) := ok_lline T
  have GR : Ok P w K mg base (a__law_replica_right K) _ 4 (spLRR K) := ok_lrr T
  have GWo : Ok P w K mg base (a_work_of K) _ 9 (spWorkOf K) := ok_workof T
  have GWk : Ok P w K mg base (a__law_work K) _ 2 (spLWork K) := ok_lwork T
  have GH : Ok P w K mg base (a_hardest K) _ 11 (spHard K TT) := ok_hard T LH hmH huH
  have GTw : Ok P w K mg base (a__law_two_right K) _ 12 (spTwo K sc TT) := ok_ltwo T LT hmT huT
  have GRi : Ok P w K mg base (a_Replica_init K) _ 5 (spRInit K) := ok_Replica_init T
  have GRc : Ok P w K mg base (a_Replica_receive K) _ 7 (spRecv K) := ok_recv T
  obtain ⟨gfd, GG, gb, gkp⟩ := gok_works (P := P) (w := w) (base := base) T
  refine ok_of T.f__law_one_right sc_lone (fun _ _ _ _ _ _ us hl => match us, hl with | [_], _ => rfl) (fun vs H Q E h => ?_) (fun cdv A' outer s H vs Q E hr h => ?_)
  · obtain ⟨st, rfl, _⟩ := h
    rfl
  · obtain ⟨st, rfl, hst, tabs, kk⟩ := h
    have r1 : Room 1 _ := hr.mono (by decide)
    have r2 : Room 2 _ := hr.mono (by decide)
    have r3 : Room 3 _ := hr.mono (by decide)
    have r4 : Room 4 _ := hr.mono (by decide)
    have r6 : Room 6 _ := hr.mono (by decide)
    have r7 : Room 7 _ := hr.mono (by decide)
    have r8 : Room 8 _ := hr.mono (by decide)
    have r9 : Room 9 _ := hr.mono (by decide)
    have r11 : Room 11 _ := hr.mono (by decide)
    have r12 : Room 12 _ := hr.mono (by decide)
    refine ⟨_, (pss_cons (ps_set (i := 1) sc_lone.nd rfl (Or.inl rfl) (pe_c GDr r8 T.g__law_drawn (pa_cons (pv 0) (pa_cons pe_int pa_nil))))
      (pss_cons (ps_par rfl sc_lone.nd (i := 2) (j := 3) rfl rfl (by decide) rfl rfl (pa_cons (pe_callTy (call_list_dK rfl) (by rfl) T.z_list (by decide +kernel) (pa_cons (pe_ix ix_tup (pv 1) pe_int (fun _ _ => rfl)) pa_nil)) (pa_cons (pe_c GK r4 T.g__law_pick (pa_cons (pv 0) (pa_cons (pe_ix ix_tup (pv 1) pe_int (fun _ _ => rfl)) pa_nil))) pa_nil)) (by rfl))
      (pss_cons (ps_set (i := 4) sc_lone.nd rfl (Or.inr rfl) (pe_lst pa_nil))
      (pss_cons (ps_for PassesOwn.never rfl (pi_range1 (by rfl) T.z_range (pa_cons (pe_c GX r3 T.g__law_next (pa_cons (pv 0) (pa_cons pe_int pa_nil))) pa_nil)) (pg_name (i := 5) sc_lone.nd rfl (Or.inl rfl)) (pss_cons (ps_set (i := 6) sc_lone.nd rfl (Or.inl rfl) (pe_tup (pa_cons (pe_c GK r4 T.g__law_pick (pa_cons (pv 0) (pa_cons (pv 2) pa_nil))) (pa_cons (pe_c GK r4 T.g__law_pick (pa_cons (pv 0) (pa_cons (pv 2) pa_nil))) pa_nil))))
      (pss_one (ps_if (PW.pt (pw_and (pt_cmpR op_ne (pe_ix ix_tup (pv 6) pe_int (fun _ _ => rfl)) (pe_ix ix_tup (pv 6) pe_int (fun _ _ => rfl)) (nomark _)) (pw_and (pt_cmpR (op_notInD (room65 hr)) (pv 6) (pv 4) (by rfl)) (pw_and1 (pt_cmpR (op_neD (room64 hr)) (pe_c GO r1 T.g__law_orders (pa_cons (pe_op op_cat (pv 4) (pe_lst (pa_cons (pv 6) pa_nil))) (pa_cons (pe_tupleOf (by rfl) T.z_tuple (pv 2)) pa_nil))) (pe_lst pa_nil) (nomark _)))))) (pss_one (ps_expr (pe_bm PySem.F.plainAttrs_list PySem.F.slot_list_append PySem.F.type_list_append mt_append (pv 4) (pa_cons (pv 6) pa_nil)))) pss_nil))))
      (pss_cons (ps_set (i := 7) sc_lone.nd rfl (Or.inl rfl) (pe_c GW r9 T.g__law_world (pa_cons (pv 1) pa_nil)))
      (pss_cons (ps_par rfl sc_lone.nd (i := 8) (j := 9) rfl rfl (by decide) rfl rfl (pa_cons (pe_mkc T.mk_Replica GRi r6 T.g_Replica (pa_cons (pv 7) (pa_cons (pe_c GPo r1 T.g__law_policy (pa_cons (pv 4) pa_nil)) (pa_cons (pv 3) pa_nil)))) (pa_cons (pe_lst pa_nil) pa_nil)) (by rfl))
      (pss_cons (ps_for PassesOwn.never rfl (pi_range1 (by rfl) T.z_range (pa_cons (pe_callB call_len_seq (by rfl) T.z_len PySem.boot_len (pa_cons (pv 2) pa_nil)) pa_nil)) (pg_name (i := 5) sc_lone.nd rfl (Or.inl rfl)) (pss_cons (ps_set (i := 10) sc_lone.nd rfl (Or.inl rfl) (pe_c GK r4 T.g__law_pick (pa_cons (pv 0) (pa_cons (pv 2) pa_nil))))
      (pss_cons (ps_if (pt_cmpR op_in_seq (pv 10) (pv 9) (by rfl)) (pss_one (ps_if (pt_not (pt_val (pe_c GRf r3 T.g__law_refused (pa_cons (pv 8) (pa_cons (pv 10) pa_nil))))) (pss_one (ps_ret pe_bl)) pss_nil)) (pss_cons (ps_expr (pe_bm PySem.F.plainAttrs_list PySem.F.slot_list_append PySem.F.type_list_append mt_append (pv 9) (pa_cons (pv 10) pa_nil)))
      (pss_one (ps_if (pt_cmpR (op_neD (room64 hr)) (pe_mt (pv 8) T.o_Replica T.m_Replica_receive GRc r7 (pa_cons (pv 10) pa_nil)) (pe_c GE r3 T.g__law_end (pa_cons (pv 1) (pa_cons (pv 3) (pa_cons (pe_c GL r1 T.g__law_line (pa_cons (pv 4) (pa_cons (pv 9) pa_nil))) pa_nil)))) (nomark _)) (pss_one (ps_ret pe_bl)) pss_nil))))
      (pss_one (ps_if (pt_not (pt_val (pe_c GR r4 T.g__law_replica_right (pa_cons (pv 1) (pa_cons (pv 4) (pa_cons (pv 8) (pa_cons (pv 3) (pa_cons (pv 9) pa_nil)))))))) (pss_one (ps_ret pe_bl)) pss_nil)))))
      (pss_cons (ps_if (pt_cmpR op_ne (pe_c GWo r9 T.g_work_of (pa_cons (pv 7) (pa_cons (pe_c GPo r1 T.g__law_policy (pa_cons (pv 4) pa_nil)) (pa_cons (pe_tupleOf (by rfl) T.z_tuple (pv 9)) pa_nil)))) (pe_c GWk r2 T.g__law_work (pa_cons (pv 4) (pa_cons (pv 9) pa_nil))) (nomark _)) (pss_one (ps_ret pe_bl)) pss_nil)
      (pss_cons (ps_if (pt_cmpR op_lt (pe_callB call_len_seq (by rfl) T.z_len PySem.boot_len (pa_cons (pv 2) pa_nil)) pe_int (nomark _)) (pss_cons (ps_setLc (i := 11) (own := [("_law_one", 14)]) (g := (gName 14)) (tt := tYes) rfl sc_lone.nd rfl rfl (sw_true rfl rfl rfl (by decide +kernel)) (pi_list (pe_c GO r1 T.g__law_orders (pa_cons (pe_lst pa_nil) (pa_cons (pe_tupleOf (by rfl) T.z_tuple (pv 2)) pa_nil)))) (blkOk_by (own := [("_law_one", 14)]) (N := ["_law_state", "_law_drawn_here", "_law_names", "_law_start", "_law_pairs", "_law_turn", "_law_pair", "_law_world_here", "_law_replica", "_law_arrival", "_law_name", "_law_every", "_law_best", "_law_item", "_law_one"]) (sc := defScope s__law_one_right) (by decide +kernel)) (fun _ _ _ _ _ => (pg_name (i := 14) sc_lone.nd rfl (Or.inl rfl))) (fun _ _ _ _ _ => pts_nil) (fun _ _ _ _ _ => (pe_tup (pa_cons (pv 14) (pa_cons (pe_c GWk r2 T.g__law_work (pa_cons (pv 4) (pa_cons (pv 14) pa_nil))) pa_nil)))))
      (pss_cons (ps_set (i := 12) sc_lone.nd rfl (Or.inl rfl) (pe_ix ix_list (pv 11) pe_int (fun _ _ => rfl)))
      (pss_cons (ps_for PassesOwn.never rfl (pi_list (pv 11)) (pg_name (i := 13) sc_lone.nd rfl (Or.inl rfl)) (pss_one (ps_if (pt_cmpR op_gt (pe_ix ix_tup (pv 13) pe_int (fun _ _ => rfl)) (pe_ix ix_tup (pv 12) pe_int (fun _ _ => rfl)) (nomark _)) (pss_one (ps_set (i := 12) sc_lone.nd rfl (Or.inl rfl) (pv 13))) pss_nil)))
      (pss_cons (ps_if (pt_cmpR (op_neD (room64 hr)) (pe_listG (pgen_call (E := EN) GG r11 (by rfl) T.g_works gkp gb .nil (pa_cons (pv 7) (pa_cons (pe_c GPo r1 T.g__law_policy (pa_cons (pv 4) pa_nil)) pa_nil))) pass_no (fun _ _ _ z => z.elim) hr (by rfl) T.z_list (by decide +kernel)) (pv 11) (nomark _)) (pss_one (ps_ret pe_bl)) pss_nil)
      (pss_one (ps_if (pt_cmpR (op_neD (room64 hr)) (pe_c GH r11 T.g_hardest (pa_cons (pv 7) (pa_cons (pe_c GPo r1 T.g__law_policy (pa_cons (pv 4) pa_nil)) pa_nil))) (pv 12) (nomark _)) (pss_one (ps_ret pe_bl)) pss_nil)))))) pss_nil)
      (pss_one (ps_ret (pe_c GTw r12 T.g__law_two_right (pa_cons (pv 0) (pa_cons (pv 1) (pa_cons (pv 4) (pa_cons (pv 3) pa_nil)))))))))))))))), ?_⟩
    refine ⟨_, rfl, st, rfl, hst, fun H1 t n S L m k1 st1 D1 ok n2 m2 m4 nm => ?_⟩
    obtain ⟨⟨l0, d, ht1, hl1, hd1⟩, hS1, _⟩ := id D1
    refine ⟨_, rfl, t, _, 2, _, rfl, rfl, SqT.of ht1, rfl, d, _, rfl, hd1, fun nl hnl => ?_⟩
    rw [kvs_keys]
    have s2 : Same H1 _ := same_upd (o := .lst ((names L).map V.str)) hnl
    have e2 : upd H1 nl (.lst ((names L).map V.str)) nl = some (.lst ((names L).map V.str)) := upd_same
    generalize upd H1 nl (.lst ((names L).map V.str)) = H2 at s2 e2
    have sne : refs S ≠ [] := fun z => by
      have h1 := ok.sts.lo
      have : S = [] := List.map_eq_nil_iff.mp z
      rw [this] at h1
      exact absurd h1 (by decide)
    refine ⟨_, rfl, _, rfl, t, _, 1, _, rfl, rfl, SqT.of (s2 _ _ ht1), rfl, st, l0, refs S, rfl, sne, st1.ext s2, s2 _ _ hl1, notSt_refs _ S, fun H3 k3 st3 x hx => ⟨_, _, rfl, ?_⟩⟩
    obtain ⟨s0, hs0, rfl⟩ := List.mem_map.mp hx
    have xin : s0.2 ∈ S.map (·.2) := List.mem_map.mpr ⟨s0, hs0, rfl⟩
    have hs3 : H3 s0.1 = some (.tup (s0.2.map V.int)) := k3.tup (s2 _ _ (hS1 s0 hs0))
    obtain ⟨s0, x0⟩ := s0
    refine ⟨(by show 0 ≤ sizeLine; decide), fun pl hpl => ?_⟩
    have s4 : Same H3 _ := same_upd (o := .lst []) hpl
    have e4 : upd H3 pl (.lst []) pl = some (.lst (erefs [])) := upd_same
    have k13 : Keep H1 H3 := (Keep.of s2).trans k3
    have g3 : P0 K TT sc H H3 st t nl s0 n S L x0 [] := ⟨(k1.trans k13).n, tabs_keep (k1.trans k13) tabs, st3, DrAt.kn k13.n D1, k3.strs e2, hs3, fun z hz => by cases hz⟩
    have g4 := P1.start g3 hpl
    generalize upd H3 pl (.lst []) = H4 at s4 e4 g4
    have hm : ((names L).map V.str).length = (names L).length := List.length_map ..
    have nl4 : (names L).length ≤ 4 := by
      unfold names
      rw [List.length_map]
      exact ok.chgs.hi
    have nne : (names L).map V.str ≠ [] := fun z => by
      have h1 := ok.chgs.lo
      have : L = [] := List.map_eq_nil_iff.mp (List.map_eq_nil_iff.mp z)
      rw [this] at h1
      exact absurd h1 (by decide)
    have so : ∀ y ∈ names L, PyData.strOk y = true := fun y hy => by
      rw [nm] at hy
      exact all_str y (List.mem_of_mem_take hy)
    refine ⟨_, rfl, st, 4, rfl, by decide, g4.stt, fun H5 k5 st5 v hv0 hv4 => ⟨v, rfl, by omega, by omega, ?_⟩⟩
    have e40 : P1e L [] := ⟨List.nodup_nil, (fun e he => by cases he), fun zs _ ne => by rw [show ents [] = [] from rfl, free_nil]; exact ne⟩
    refine for_range (fun j σ H' => ∃ (A : Els) (x5 x6 : Option V), σ = [some (.ref st), some (.ref t), some (.ref nl), some (.ref s0), some (.ref pl), x5, x6, none, none, none, none, none, none, none, none] ∧ P1 K TT sc H H' st t nl s0 pl n S L x0 A ∧ P1e L A ∧ A.length ≤ j ∧ j ≤ v.toNat) ⟨[], _, _, rfl, g4.keep k5 st5, e40, Nat.le_refl _, Nat.zero_le _⟩ (fun j σ Ha hj qq => ?_) fun σ Ha qq => ?_
    · obtain ⟨A, x5, x6, rfl, ga, ea, la, lj⟩ := qq
      refine ⟨_, rfl, _, rfl, st, nl, (names L).map V.str, rfl, nne, ga.stt, ga.hn, notSt_strs _, fun Hb kb stb x hx => ?_⟩
      obtain ⟨a, ain, rfl⟩ := List.mem_map.mp hx
      have gb' := ga.keep kb stb
      refine ⟨_, rfl, _, rfl, st, nl, (names L).map V.str, rfl, nne, gb'.stt, gb'.hn, notSt_strs _, fun Hc kc stc y hy => ⟨(by show 2 ≤ sizeLine; decide), fun q hq => ?_⟩⟩
      obtain ⟨b, bin, rfl⟩ := List.mem_map.mp hy
      have gc := gb'.keep kc stc
      have sd : Same Hc _ := same_upd (o := .tup [.str a, .str b]) hq
      have qd : upd Hc q (.tup [.str a, .str b]) q = some (.tup (([a, b] : List Str).map V.str)) := upd_same
      generalize upd Hc q (.tup [.str a, .str b]) = Hd at sd qd
      have gd := gc.ext sd
      refine ⟨_, rfl, q, _, ((0 : Nat) : Int), _, rfl, rfl, SqT.of qd, atI_nat rfl, _, rfl, q, _, ((1 : Nat) : Int), _, rfl, rfl, SqT.of qd, atI_nat rfl, rfl, _, rfl, ?_⟩
      have abso : ∀ z ∈ ([a, b] : List Str), PyData.strOk z = true := fun z hz => by
        simp only [List.mem_cons, List.not_mem_nil, or_false] at hz
        rcases hz with rfl | rfl
        · exact so _ ain
        · exact so _ bin
      have shE : SeqAt.shaped (.list (dE A)) = true := by
        have eso : ∀ z ∈ (ents A).map (fun e => [e.1, e.2]), ∀ t ∈ z, PyData.strOk t = true := fun z hz t ht => by
          obtain ⟨e', he', rfl⟩ := List.mem_map.mp hz
          simp only [List.mem_cons, List.not_mem_nil, or_false] at ht
          rcases ht with rfl | rfl
          · exact so _ (ea.mem _ he').1
          · exact so _ (ea.mem _ he').2.1
        have := shp_Ns eso
        rw [List.map_map] at this
        exact this
      have eab : decide (V.str a = V.str b) = decide (a = b) := by
        by_cases h : a = b
        · rw [decide_eq_true h, decide_eq_true (by rw [h])]
        · rw [decide_eq_false h, decide_eq_false fun z => h (V.str.inj z)]
      rw [eab]
      by_cases ab : a = b
      · rw [decide_eq_true ab]
        exact iteF ⟨A, _, _, rfl, gd, ea, by omega, by omega⟩
      rw [decide_eq_false ab]
      refine iteT ⟨_, rfl, _, rfl, dN [a, b], dE A, dp_N qd, .lst (SqL.of gd.hl) (dp_Els gd.els), shp_N abso, shE, _, rfl, ?_⟩
      rw [any_dE]
      cases hbf : bef (ents A) a b with
      | true => exact iteF ⟨A, _, _, rfl, gd, ea, by omega, by omega⟩
      | false =>
        have nin : (a, b) ∉ ents A := by
          unfold bef at hbf
          exact of_decide_eq_false hbf
        refine iteT ⟨_, rfl, _, rfl, (by show 1 ≤ sizeLine; decide), fun c hc => ?_⟩
        have se : Same Hd _ := same_upd (o := .lst [.ref q]) hc
        have ce : upd Hd c (.lst [.ref q]) c = some (.lst [.ref q]) := upd_same
        generalize upd Hd c (.lst [.ref q]) = He at se ce
        have alen : (erefs A).length = A.length := List.length_map ..
        refine ⟨pl, c, _, _, rfl, rfl, se _ _ gd.hl, ce, ?_, fun c2 hc2 => ?_⟩
        · rw [alen]
          exact Nat.le_trans (show A.length + 1 ≤ 1000 by omega) (by decide)
        have sf : Same He _ := same_upd (o := .lst (erefs A ++ [.ref q])) hc2
        have cf : upd He c2 (.lst (erefs A ++ [.ref q])) c2 = some (.lst (erefs (A ++ [(q, a, b)]))) := by
          rw [upd_same]
          unfold erefs
          rw [List.map_append] <;> rfl
        generalize upd He c2 (.lst (erefs A ++ [.ref q])) = Hf at sf cf
        have gf := (gd.ext se).ext sf
        refine ⟨_, rfl, .inl ⟨nl, _, rfl, SqL.of gf.hn, fun tn htn => ?_⟩⟩
        have sg : Same Hf _ := same_upd (o := .tup ((names L).map V.str)) htn
        have tg : upd Hf tn (.tup ((names L).map V.str)) tn = some (.tup ((names L).map V.str)) := upd_same
        generalize upd Hf tn (.tup ((names L).map V.str)) = Hg at sg tg
        have gg := gf.ext sg
        have sdg := (se.trans sf).trans sg
        have elsN : ∀ {H' : Hp}, Same Hd H' → ElsAt H' (A ++ [(q, a, b)]) := fun s z hz => by
          rcases List.mem_append.mp hz with h | h
          · exact s _ _ (gd.els z h)
          · rw [List.mem_singleton.mp h]
            exact s _ _ qd
        have entN : ents (A ++ [(q, a, b)]) = ents A ++ [(a, b)] := by
          unfold ents
          rw [List.map_append] <;> rfl
        refine ⟨c2, tn, A ++ [(q, a, b)], names L, rfl, sg _ _ cf, elsN sdg, (by rw [List.length_append, List.length_singleton]; omega), SqT.of tg, nl4, fun Hh r Z sh _ eh nz cz => ⟨(by show 0 ≤ sizeLine; decide), fun e he => ?_⟩⟩
        have si : Same Hh _ := same_upd (o := .lst []) he
        have ei : upd Hh e (.lst []) e = some (.lst []) := upd_same
        generalize upd Hh e (.lst []) = Hi at si ei
        have sgi := sh.trans si
        have gi := gg.ext sgi
        have sdi := sdg.trans sgi
        have shZ : SeqAt.shaped (.list ((Z.map (·.2)).map dN)) = true := shp_Ns fun z hz y hy => by
          rw [cz] at hz
          exact so y ((orders_ord hz).2.2 y hy)
        refine ⟨.list ((Z.map (·.2)).map dN), .list [], .lst (SqL.of (si _ _ eh)) (dp_NtsF (nz.ext si)), .lst (SqL.of ei) .nil, shZ, shp_strs (ys := []) (fun _ h => (by cases h)), _, rfl, ?_⟩
        rw [eqv_nilL]
        by_cases zn : (Z.map (·.2)).map dN = []
        · rw [decide_eq_true zn]
          exact iteF ⟨A, _, _, rfl, gi, ea, by omega, by omega⟩
        · rw [decide_eq_false zn]
          have one : ordersN (ents (A ++ [(q, a, b)])) (names L) ≠ [] := fun z => zn (by rw [cz, z]; rfl)
          have memN : ∀ e ∈ ents (A ++ [(q, a, b)]), e.1 ∈ names L ∧ e.2 ∈ names L ∧ e.1 ≠ e.2 := fun e he => by
            rw [entN] at he
            rcases List.mem_append.mp he with h | h
            · exact ea.mem e h
            · rw [List.mem_singleton.mp h]
              exact ⟨ain, bin, ab⟩
          have eaN : P1e L (A ++ [(q, a, b)]) := ⟨by
            rw [entN, List.nodup_append]
            exact ⟨ea.en, List.nodup_cons.mpr ⟨List.not_mem_nil, List.nodup_nil⟩, fun x hx y hy z => nin (by rw [← List.mem_singleton.mp hy, ← z]; exact hx)⟩, memN, orders_free one fun e he => (memN e he).2.2⟩
          exact iteT ⟨_, rfl, .inl ⟨rfl, _, SqL.of gi.hl⟩, _, rfl, pl, _, _, rfl, rfl, gi.hl, small1000 (by rw [alen]; omega), A ++ [(q, a, b)], _, _, rfl, gi.app (z := (q, a, b)) (sdi _ _ qd), eaN, by rw [List.length_append, List.length_singleton]; omega, by omega⟩
    · obtain ⟨A, x5, x6, rfl, ga, ea, la, lj⟩ := qq
      have a3 : A.length ≤ 3 := by omega
      have a12 : A.length ≤ 12 := by omega
      have po : PolOk (ents A) (names L) := ⟨ea.mem, cyc_free ea.fr 4 _ fun y hy => hy, by unfold ents; rw [List.length_map]; exact a12⟩
      refine ⟨_, rfl, t, n, S, L, rfl, ga.dr, ok, fun Hb p M sb Wb eM => ?_⟩
      have u : Pu n m S L M A x0 := ⟨ok, eM, m2, m4, nm, po, ea.en, a3, xin⟩
      have no := u.no
      have nML := u.nML
      have poM : PolOk (ents A) (names M) := by rw [nML]; exact po
      have gb' := ga.ext sb
      refine ⟨_, rfl, _, rfl, pl, A, rfl, gb'.hl, gb'.els, ea.en, a12, fun Hc dp sc' _ ec => ?_⟩
      have gc := gb'.ext sc'
      have Wc := Wb.ext sc'
      refine ⟨_, rfl, fun r dx hr0 hdx ne => ?_⟩
      have s0' : Same Hc (upd (upd Hc dx (.own r)) r (.ins (c_Replica K) dx [])) := fun b v e => by
        rw [upd_ne (ne_of_none e hr0), upd_ne (ne_of_none e hdx)]
        exact e
      refine ⟨r, dx, p, dp, s0, n, S, M, ents A, x0, rfl, Wc.ext s0', u.okM, s0' _ _ ec, poM, ea.en, u.st.1, u.st.2, s0' _ _ gc.hs, xin, upd_same, fun Hd dp' ar ap o hdp har R => ⟨rfl, ?_⟩⟩
      have B := born_new Wc u.okM poM u.st.1 u.st.2 hr0 (none_back s0' har) (fun b v hb e => o b v hb (s0' _ _ e)) R
      have har' : Hc ar = none := none_back s0' har
      generalize eq0 : newRep dx p dp' s0 ar ap (ents A) x0 = q0 at B R
      have q0ar : q0.ar = ar := by rw [← eq0]; rfl
      refine ⟨(by show 0 ≤ sizeLine; decide), fun al hal => ⟨_, _, rfl, ?_⟩⟩
      have se : Same Hd _ := same_upd (o := .lst []) hal
      have ee : upd Hd al (.lst []) al = some (.lst (([] : List Str).map V.str)) := upd_same
      generalize upd Hd al (.lst []) = He at se ee
      have Be := B.ext se
      have halc : Hc al = none := none_back B.same hal
      have gdc : Gd K TT H Hc t pl s0 p n S L M A x0 [(nl, names L)] := ⟨gc.kp, gc.tab, gc.dr, gc.hl, gc.els, gc.hs, Wc, fun z hz => by rw [List.mem_singleton.mp hz]; exact gc.hn⟩
      have nn : ∀ {b : Addr} {v : HO} {c : Addr}, Hc c = none → Hc b = some v → b ≠ c := fun h e z => by rw [z, h] at e; cases e
      have sO : Same Hc (off2 (off2 He r q0.ar) al al) := fun b v e => off2_some.mpr ⟨nn halc e, nn halc e, off2_some.mpr ⟨nn hr0 e, by rw [q0ar]; exact nn har' e, Be.same _ _ e⟩⟩
      have z0 : One1 K TT sc H He st t pl s0 p n S L M A x0 [(nl, names L)] r q0 al [] := ⟨gdc.ext sO, gc.stt.ext sO, Be.at_, ee, (fun z => by rw [z, B.at_.ar] at hal; cases hal), Like.born B (fun _ => Iff.rfl) rfl poM⟩
      have qy0 : q0.ys = [] := B.ey
      clear B Be R sO gdc gc gb' ga eq0 o har har' hdp q0ar
      have mn : (nl, names L) ∈ [(nl, names L)] := List.mem_cons_self
      refine ⟨_, rfl, nl, _, rfl, .inl (SqL.of (z0.all.ls _ mn)), _, rfl, by omega, by rw [hm]; omega, ?_⟩
      refine for_range (fun j σ H' => ∃ (q : Rep) (ys : List Str) (x5 x10 : Option V), σ = [some (.ref st), some (.ref t), some (.ref nl), some (.ref s0), some (.ref pl), x5, x6, some (.ref p), some (.ref r), some (.ref al), x10, none, none, none, none] ∧ One1 K TT sc H H' st t pl s0 p n S L M A x0 [(nl, names L)] r q al ys ∧ q.ys = ys) ⟨q0, [], _, _, rfl, z0, qy0⟩ (fun j σ Hf hj qq => ?_) fun σ Hf qq => ?_
      · obtain ⟨q, ys, x5, x10, rfl, zf, qy⟩ := qq
        refine ⟨_, rfl, _, rfl, st, nl, (names L).map V.str, rfl, nne, zf.st', zf.all.ls _ mn, notSt_strs _, fun Hg kg stg x hx => ?_⟩
        obtain ⟨y, yin, rfl⟩ := List.mem_map.mp hx
        have zg := zf.keep kg stg
        have yM : y ∈ names M := by rw [nML]; exact yin
        have aM : Arr (names L) ys := by rw [← nML, ← qy]; exact zg.k1.ar
        refine ⟨_, rfl, _, rfl, al, _, rfl, .inl (SqL.of zg.hal), rfl, strs_flat _, _, rfl, ?_⟩
        rw [inV_strs]
        by_cases hin : y ∈ ys
        · rw [decide_eq_true hin]
          refine iteT ⟨_, rfl, _, rfl, r, q, y, n, S, M, rfl, zg.a1, (by rw [zg.k1.p]; exact zg.all.wd), u.okM.chgs.nd, yM, (by rw [qy]; exact hin), ⟨true, rfl, iteF ?_⟩⟩
          have tq := zg.k1.told u
          rw [qy] at tq
          refine ⟨_, rfl, _, rfl, _, rfl, _, rfl, _, rfl, t, pl, r, s0, al, A, q, n, S, L, x0, ys, rfl, zg.all.dr, ok, zg.all.hl, zg.all.els, u.eo, zg.a1, zg.all.hs, u.st.1, u.st.2, zg.hal, no, aM, qy, tq.1, tq.2.1, tq.2.2, fun Hh sh => ⟨true, rfl, iteF ?_⟩⟩
          exact ⟨q, ys, _, _, rfl, zg.ext sh, qy⟩
        · rw [decide_eq_false hin]
          have aN : Arr (names L) (ys ++ [y]) := aM.snoc yin hin
          refine iteF ⟨_, rfl, .inl ⟨rfl, _, SqL.of zg.hal⟩, _, rfl, al, _, _, rfl, rfl, zg.hal, small1000 (by rw [List.length_map]; have := aM.l4 no; omega), ?_⟩
          have zh0 := zg.app (zs := ys ++ [y])
          rw [List.map_append] at zh0
          generalize eHh : upd Hg al (.lst (ys.map V.str ++ [V.str y])) = Hh
          have zh : One1 K TT sc H Hh st t pl s0 p n S L M A x0 [(nl, names L)] r q al (ys ++ [y]) := by rw [← eHh]; exact zh0
          clear zh0 eHh
          have hnq : y ∉ q.ys := by rw [qy]; exact hin
          refine ⟨_, rfl, r, q.dx, _, rfl, zh.a1.ob, no_rep (by decide +kernel), _, rfl, r, q, y, n, S, M, rfl, zh.a1, zh.w u, yM, hnq, fun Hi ap' rc' kr R' => ?_⟩
          have zi := zh.recv kr R' yM hnq
          have qyN : (q.next M y ap' rc').ys = ys ++ [y] := by
            show q.ys ++ [y] = ys ++ [y]
            rw [qy]
          have tq := zi.k1.told u
          rw [qyN] at tq
          refine ⟨_, rfl, _, rfl, _, rfl, _, rfl, pl, al, A, ys ++ [y], rfl, zi.all.hl, zi.all.els, u.eo, .inl (SqL.of zi.hal), aN.l4 no, aN.so no, aN.fr no, fun Hk ln sk _ ek => ?_⟩
          have zk := zi.ext sk
          refine ⟨t, s0, ln, n, S, L, x0, lineN (ents A) 4 (ys ++ [y]), rfl, zk.all.dr, ok, zk.all.hs, u.st.1, u.st.2, ek, line_len _ _ _, fun y' hy' => aN.sub y' (line_mem _ 4 _ hy'), fun Hl rl sl el => ?_⟩
          have zl := zk.ext sl
          have rcl := zl.a1.rc
          rw [tq.2.1] at rcl
          refine ⟨_, _, dp_T rcl, dp_T el, shp_T _, shp_T _, false, congrArg V.bl (by rw [eqv_shp (shp_T _)] <;> rfl), iteF ?_⟩
          refine ⟨_, rfl, _, rfl, _, rfl, _, rfl, _, rfl, t, pl, r, s0, al, A, q.next M y ap' rc', n, S, L, x0, ys ++ [y], rfl, zl.all.dr, ok, zl.all.hl, zl.all.els, u.eo, zl.a1, zl.all.hs, u.st.1, u.st.2, zl.hal, no, aN, qyN, tq.1, tq.2.1, tq.2.2, fun Hm sm => ⟨true, rfl, iteF ?_⟩⟩
          exact ⟨_, ys ++ [y], _, _, rfl, zl.ext sm, qyN⟩
      · obtain ⟨q, ys, x5, x10, rfl, zf, qy⟩ := qq
        have aM : Arr (names L) ys := by rw [← nML, ← qy]; exact zf.k1.ar
        have gf : Gd K TT H Hf t pl s0 p n S L M A x0 [(al, ys), (nl, names L)] := zf.all.add zf.hal
        have stf := zf.st'
        clear zf
        have ma : (al, ys) ∈ [(al, ys), (nl, names L)] := List.mem_cons_self
        have mn : (nl, names L) ∈ [(al, ys), (nl, names L)] := List.mem_cons_of_mem _ List.mem_cons_self
        refine ⟨_, rfl, _, rfl, pl, A, rfl, gf.hl, gf.els, ea.en, a12, fun Hg dp2 sg _ eg => ?_⟩
        have gg := gf.ext sg
        refine ⟨_, rfl, .inl ⟨al, _, rfl, SqL.of (gg.ls _ ma), fun tn htn => ?_⟩⟩
        have sh : Same Hg _ := same_upd (o := .tup (ys.map V.str)) htn
        have th : upd Hg tn (.tup (ys.map V.str)) tn = some (.tup (ys.map V.str)) := upd_same
        generalize upd Hg tn (.tup (ys.map V.str)) = Hh at sh th
        have gh := gg.ext sh
        refine ⟨p, dp2, tn, n, S, M, ents A, ys, rfl, gh.wd, u.okM, sh _ _ eg, poM, ea.en, th, aM.nd, (fun y hy => by rw [nML]; exact aM.sub y hy), aM.l4 no, fun Hi si => ?_⟩
        have gi := gh.ext si
        refine ⟨_, rfl, _, rfl, pl, al, A, ys, rfl, gi.hl, gi.els, u.eo, .inl (SqL.of (gi.ls _ ma)), aM.l4 no, aM.nd, aM.so no, aM.fr no, fun Hj sj => ⟨rfl, _, rfl, ?_⟩⟩
        rw [decide_eq_true rfl]
        refine iteF ?_
        have gj := gi.ext sj
        have stj := (((stf.ext sg).ext sh).ext si).ext sj
        have nlen : (names L).length = m := by
          rw [nm, List.length_take]
          have : allNames.length = 4 := by decide
          omega
        have u0 : Pu n m S L L A x0 := ⟨ok, rfl, m2, m4, nm, po, ea.en, a3, xin⟩
        refine ⟨_, rfl, nl, _, rfl, .inl (SqL.of (gj.ls _ mn)), _, _, rfl, rfl, _, rfl, ?_⟩
        dsimp only
        rw [hm, nlen]
        by_cases lt4 : ((m : Nat) : Int) < 4
        · rw [decide_eq_true lt4]
          refine iteT ⟨(by show 0 ≤ sizeLine; decide), fun c hc => ?_⟩
          have sa : Same Hj _ := same_upd (o := .lst []) hc
          have ca : upd Hj c (.lst []) c = some (.lst (erefs [])) := upd_same
          generalize upd Hj c (.lst []) = Ha at sa ca
          have gA := gj.ext sa
          refine ⟨_, rfl, .inl ⟨nl, _, rfl, SqL.of (gA.ls _ mn), fun tq htq => ?_⟩⟩
          have sb' : Same Ha _ := same_upd (o := .tup ((names L).map V.str)) htq
          have tb' : upd Ha tq (.tup ((names L).map V.str)) tq = some (.tup ((names L).map V.str)) := upd_same
          generalize upd Ha tq (.tup ((names L).map V.str)) = HB at sb' tb'
          have gB := gA.ext sb'
          refine ⟨c, tq, [], names L, rfl, sb' _ _ ca, (fun z hz => by cases hz), (by decide), SqT.of tb', nl4, fun Hk ro Z sk _ ek nz cz => ⟨ro, rfl, ⟨_, SqL.of ek⟩, fun D hD => ?_⟩⟩
          have gk := gB.ext sk
          have stk := ((stj.ext sa).ext sb').ext sk
          have zm : (nrefs Z).length = Z.length := nrefs_len Z
          have z256 : Z.length ≤ 256 := by rw [nts_len cz]; exact orders_256 _ nl4
          have zin : ∀ z ∈ Z, Arr (names L) z.2 := fun z hz => by
            have hz' : z.2 ∈ ordersN (ents []) (names L) := by rw [← cz]; exact List.mem_map.mpr ⟨z, hz, rfl⟩
            have := orders_ord hz'
            exact ⟨this.1, this.2.2⟩
          refine lc_it (walk_list (K := K) (a := ro) (xs := nrefs Z)) (fun i H' => ∃ Y : Aws, Same Hk H' ∧ H' D = some (.lst (wrefs Y)) ∧ EvAt H' Y ∧ wcont Y = (Z.take i).map (fun z => (z.2, workN (ents A) z.2))) ⟨[], same_upd hD, upd_same, (fun z hz => by cases hz), rfl⟩ (fun i H' _ ⟨_, z, _⟩ => SqL.of (z _ _ ek)) (fun i x H5 H5' hi inv yy => ?_) (fun H5 inv => ?_)
          · obtain ⟨Y, s5, d5, v5, c5⟩ := inv
            obtain ⟨rfl, hx⟩ := yy
            obtain ⟨hiZ, rfl⟩ := nts_at hx
            have mem : Z[i] ∈ Z := List.getElem_mem hiZ
            have az := zin _ mem
            have g5 := gk.ext s5
            have tz := (nz _ mem).ext s5
            refine ⟨rfl, tyes (iteT ⟨_, rfl, _, rfl, _, rfl, pl, Z[i].1, A, Z[i].2, rfl, g5.hl, g5.els, u.eo, .inr tz.sq, az.l4 no, az.nd, az.so no, az.fr no, fun H6 s6 => ⟨(by show 2 ≤ sizeLine; decide), fun q hq => ?_⟩⟩)⟩
            have s7 : Same H6 _ := same_upd (o := .tup [.ref Z[i].1, .int (workN (ents A) Z[i].2)]) hq
            have q7 : upd H6 q (.tup [.ref Z[i].1, .int (workN (ents A) Z[i].2)]) q = some (.tup [.ref Z[i].1, .int (workN (ents A) Z[i].2)]) := upd_same
            generalize upd H6 q (.tup [.ref Z[i].1, .int (workN (ents A) Z[i].2)]) = H7 at s7 q7
            have s57 := s6.trans s7
            have d7 := s57 _ _ d5
            have tn : ∀ b ys, H7 b = some (.tup ys) → b ≠ D := fun b ys z q => by rw [q, d7] at z; cases z
            have la' : Y.length ≤ i := by
              have := congrArg List.length c5
              unfold wcont at this
              rw [List.length_map, List.length_map, List.length_take] at this
              omega
            refine ⟨wrefs Y, d7, small1000 (by unfold wrefs; rw [List.length_map]; omega), Y ++ [(q, Z[i].1, Z[i].2, workN (ents A) Z[i].2)], fun b v z => ?_, ?_, fun z hz2 => ?_, ?_⟩
            · rw [upd_ne (ne_of_none z hD)]
              exact s57 _ _ (s5 _ _ z)
            · rw [upd_same]
              unfold wrefs
              rw [List.map_append] <;> rfl
            · rcases List.mem_append.mp hz2 with h | h
              · obtain ⟨b1, b2⟩ := (v5.ext s57) z h
                exact ⟨(upd_ne (tn _ _ b1)).trans b1, b2.off d7⟩
              · obtain rfl := List.mem_singleton.mp h
                exact ⟨(upd_ne (tn _ _ q7)).trans q7, (tz.ext s57).off d7⟩
            · unfold wcont at c5 ⊢
              rw [List.map_append, c5, List.take_add_one, List.getElem?_eq_getElem hiZ, Option.toList_some, List.map_append] <;> rfl
          · obtain ⟨Y, s5, d5, v5, c5⟩ := inv
            rw [zm, List.take_length] at c5
            have cY : wcont Y = (allowN [] 4 (names M)).map (fun o => (o, workN (ents A) o)) := by
              rw [c5, nML, nm, every_eq m2 (by omega), ← nm, ← show ordersN (ents []) (names L) = ordersN [] (names L) from rfl, ← cz, List.map_map] <;> rfl
            have g5 := gk.ext s5
            have st5' := stk.ext s5
            have alne : allowN [] 4 (names M) ≠ [] := by rw [nML, nm]; exact allow_ne m2 (by omega)
            have ylen : Y.length = (allowN [] 4 (names M)).length := by
              have := congrArg List.length cY
              unfold wcont at this
              rw [List.length_map, List.length_map] at this
              exact this
            have y0 : 0 < Y.length := by rw [ylen]; exact List.length_pos_iff.mpr alne
            have yso : ∀ z ∈ wcont Y, ∀ y ∈ z.1, PyData.strOk y = true := fun z hz y hy => by
              rw [c5] at hz
              obtain ⟨z', hz', rfl⟩ := List.mem_map.mp hz
              exact (zin z' hz').so no y hy
            have ym : (wrefs Y).length = Y.length := List.length_map ..
            have at0 : (wrefs Y)[0]? = some (V.ref Y[0].1) := by unfold wrefs; rw [List.getElem?_map, List.getElem?_eq_getElem y0] <;> rfl
            refine ⟨_, rfl, D, _, ((0 : Nat) : Int), _, rfl, rfl, SqL.of d5, atI_nat at0, ?_⟩
            refine ⟨_, rfl, D, rfl, ⟨_, SqL.of d5⟩, ?_⟩
            refine for_it (walk_list (K := K) (a := D) (xs := wrefs Y)) (fun j σ H' => ∃ (i : Nat) (y : Addr × Addr × List Str × Nat) (x13 : Option V), σ = [some (.ref st), some (.ref t), some (.ref nl), some (.ref s0), some (.ref pl), x5, x6, some (.ref p), some (.ref r), some (.ref al), x10, some (.ref D), some (.ref y.1), x13, none] ∧ Same H5 H' ∧ Y[i]? = some y ∧ i ≤ j ∧ ∀ j', j' < j → wkAt Y i ≥ wkAt Y j' ∧ (j' < i → wkAt Y i > wkAt Y j')) ⟨0, Y[0], _, rfl, Same.refl _, List.getElem?_eq_getElem y0, Nat.le_refl _, fun j' h => absurd h (Nat.not_lt_zero _)⟩ (fun j σ H' _ ⟨_, _, _, _, z, _⟩ => SqL.of (z _ _ d5)) (fun j x σ H6 H6' hj inv yy => ?_) (fun σ H6 inv => ?_)
            · obtain ⟨i, y, x13, rfl, s6, hy, ij, best⟩ := inv
              obtain ⟨rfl, hx⟩ := yy
              have hjY : j < Y.length := by rw [← ym]; exact hj
              unfold wrefs at hx
              rw [List.getElem?_map, List.getElem?_eq_getElem hjY] at hx
              obtain rfl := (Option.some.inj hx).symm
              have v6 := v5.ext s6
              have e1 : wkAt Y i = ((y.2.2.2 : Nat) : Int) := by unfold wkAt; rw [hy]
              have e2 : wkAt Y j = ((Y[j].2.2.2 : Nat) : Int) := by unfold wkAt; rw [List.getElem?_eq_getElem hjY]
              refine ⟨_, rfl, Y[j].1, _, ((1 : Nat) : Int), _, rfl, rfl, SqT.of (v6 _ (List.getElem_mem hjY)).1, atI_nat rfl, _, rfl, y.1, _, ((1 : Nat) : Int), _, rfl, rfl, SqT.of (v6 _ (List.mem_of_getElem? hy)).1, atI_nat rfl, _, _, rfl, rfl, _, rfl, ?_⟩
              by_cases gt : ((Y[j].2.2.2 : Nat) : Int) > ((y.2.2.2 : Nat) : Int)
              · rw [decide_eq_true gt]
                refine iteT ⟨_, rfl, j, Y[j], _, rfl, s6, List.getElem?_eq_getElem hjY, Nat.le_succ _, fun j' h => ?_⟩
                by_cases e : j' = j
                · subst e
                  exact ⟨Int.le_refl _, fun z => absurd z (Nat.lt_irrefl _)⟩
                · have b1 := (best j' (by omega)).1
                  exact ⟨by omega, fun _ => by omega⟩
              · rw [decide_eq_false gt]
                refine iteF ⟨i, y, _, rfl, s6, hy, by omega, fun j' h => ?_⟩
                by_cases e : j' = j
                · subst e
                  exact ⟨by omega, fun z => absurd z (by omega)⟩
                · exact best j' (by omega)
            · obtain ⟨i, y, x13, rfl, s6, hy, ij, best⟩ := inv
              rw [ym] at best
              have top : TopAt (wkAt Y) Y.length i := best
              have g6 := g5.ext s6
              have st6 := st5'.ext s6
              have v6 := v5.ext s6
              refine ⟨_, rfl, _, rfl, pl, A, rfl, g6.hl, g6.els, ea.en, a12, fun H7 dp3 s7 _ e7 => ?_⟩
              have g7 := g6.ext s7
              refine ⟨p, dp3, n, S, M, ents A, rfl, g7.wd, u.okM, e7, poM, ea.en, fun H8 Z8 s8 a8 c8 => fun l9 hl9 => ?_⟩
              have ewc : wcont Z8 = wcont Y := c8.trans cY.symm
              have s9 : Same H8 _ := same_upd (o := .lst (wrefs Z8)) hl9
              have e9 : upd H8 l9 (.lst (wrefs Z8)) l9 = some (.lst (wrefs Z8)) := upd_same
              generalize upd H8 l9 (.lst (wrefs Z8)) = H9 at s9 e9
              have s69 := (s7.trans s8).trans s9
              have d9 := s69 _ _ (s6 _ _ d5)
              have dz := dp_Aws (K := K) (a8.ext s9)
              rw [ewc] at dz
              refine ⟨_, rfl, _, _, .lst (SqL.of e9) dz, .lst (SqL.of d9) (dp_Evs (v6.ext s69)), shp_Aws yso, shp_Aws yso, false, congrArg V.bl (by rw [eqv_shp (shp_Aws yso)] <;> rfl), iteF ?_⟩
              have g9 := g6.ext s69
              refine ⟨_, rfl, _, rfl, pl, A, rfl, g9.hl, g9.els, ea.en, a12, fun H10 dp4 s10 _ e10 => ?_⟩
              have g10 := g9.ext s10
              refine ⟨p, dp4, n, S, M, ents A, rfl, g10.wd, u.okM, e10, poM, ea.en, g10.tab, alne, fun H11 Z11 i11 z11 e11 t11 a11 c11 hz11 top11 => ?_⟩
              have ew11 : wcont Z11 = wcont Y := c11.trans cY.symm
              have zl : Z11.length = Y.length := by
                have := congrArg List.length ew11
                unfold wcont at this
                rw [List.length_map, List.length_map] at this
                exact this
              rw [zl] at top11
              have hi11 : i11 < Y.length := by rw [← zl]; exact (List.getElem?_eq_some_iff.mp hz11).1
              have hiY : i < Y.length := (List.getElem?_eq_some_iff.mp hy).1
              have eii : i11 = i := top_one (wk_cont ew11) hi11 hiY top11 top
              have ezy : z11.2.2 = y.2.2 := by
                have e := congrArg (fun l => l[i]?) ew11
                unfold wcont at e
                rw [List.getElem?_map, List.getElem?_map, ← eii, hz11, eii, hy] at e
                exact Option.some.inj e
              have v11 := (v6.ext (s69.trans s10)).exn e11
              have dz := dp_Aw1 (K := K) a11 (List.mem_of_getElem? hz11)
              rw [ezy] at dz
              have ys1 : ∀ y' ∈ y.2.2.1, PyData.strOk y' = true := yso y.2.2 (List.mem_map.mpr ⟨y, List.mem_of_getElem? hy, rfl⟩)
              refine ⟨_, rfl, _, _, dz, dp_Ev1 v11 (List.mem_of_getElem? hy), shp_Aw ys1, shp_Aw ys1, false, congrArg V.bl (by rw [eqv_shp (shp_Aw ys1)] <;> rfl), iteF ?_⟩
              have g11 := g10.exn e11 t11
              have st11 := ((st6.ext s69).ext s10).exn e11
              exact ⟨_, rfl, _, rfl, _, rfl, _, rfl, st, t, pl, s0, n, m, S, L, A, x0, rfl, st11, t11, g11.dr, u0, g11.hl, g11.els, g11.hs, fun H12 kp tb => kk _ (g11.kp.trans kp) tb⟩
        · rw [decide_eq_false lt4]
          exact iteF ⟨_, rfl, _, rfl, _, rfl, _, rfl, st, t, pl, s0, n, m, S, L, A, x0, rfl, stj, gj.tab, gj.dr, u0, gj.hl, gj.els, gj.hs, fun H12 kp tb => kk _ (gj.kp.trans kp) tb⟩
end
end OP
namespace OP
open PySem PySem.Spec PyProof.Rows GenW L2 LamX
theorem rg3 : ∀ k : Nat, k < 25 → ((3 : Int) ≠ 0 ∧ (3 : Int).natAbs < 1073741824 ∧ Builtin.Range.small 0 (k : Int) 3 = true ∧ Builtin.Range.rangeSize 0 (k : Int) 3 = ((Builtin.Range.rangeSize 0 (k : Int) 3).toNat : Int)) := by decide +kernel
theorem rg3' {j : Int} (h0 : 0 ≤ j) (h : j < 25) : ∃ n, RgC 0 j 3 n := by
  obtain ⟨k, rfl⟩ := nat_of h0
  exact ⟨_, rg3 k (by omega)⟩
section
variable {P : Program} {w : World} {K : PySem.W.Frag} {mg : Str → Option Value} {base : Heap}
def spLaw (K : PySem.W.Frag) (TT : List (Addr × Str)) : Sp := fun vs H Q _ => ∃ (a : Addr) (ns : List Int), vs = [.ref a] ∧ SqL K H a (ns.map V.int) ∧ Tabs TT H ∧ ∀ H', Q (.bl true) H'
theorem sc_law : FnScope ["_law_script", "_law_by"] ["_law_script"] (defScope s_law) := ⟨rfl, rfl, rfl, by decide +kernel, rfl, by decide +kernel, by decide +kernel⟩
theorem fn_law (T : Txt K mg) {Pt Ph : Addr} {TT : List (Addr × Str)} (LT : LamTab K mg base Pt) (hmT : (Pt, lamQ) ∈ TT) (huT : ∀ q ∈ TT, q.1 = Pt → q.2 = lamQ) (LH : LamTabH K mg base Ph) (hmH : (Ph, hardQ) ∈ TT) (huH : ∀ q ∈ TT, q.1 = Ph → q.2 = hardQ) {fd : FuncData} (FL : Fun K "law" "law" s_law (a_law K) fd) : FnOk P w K mg base CX0 16 (a_law K) fd ["_law_script"] (spLaw K TT) := by
  have GR : ∀ sc, Ok P w K mg base (a__law_one_right K) ["_law_state"] 15 (spRight K sc TT) := fun sc => ok_lone T LT hmT huT LH hmH huH
  refine FL.ok sc_law (fun vs H Q E h => ?_) (fun cdv A outer s0 H vs Q E hr h => ?_)
  · obtain ⟨a, ns, rfl, _⟩ := h
    rfl
  · obtain ⟨a, ns, rfl, ha, tabs, kk⟩ := h
    refine ⟨_, pss_cons (ps_for PassesOwn.never rfl (pi_range3 (by rfl) T.z_range (pa_cons pe_int (pa_cons (pe_callB (call_max2 rfl) (by rfl) T.z_max (by decide +kernel) (pa_cons pe_int (pa_cons (pe_callB (call_min2 rfl) (by rfl) T.z_min (by decide +kernel) (pa_cons pe_int (pa_cons (pe_callB call_len_seq (by rfl) T.z_len PySem.boot_len (pa_cons (pv 0) pa_nil)) pa_nil))) pa_nil))) (pa_cons pe_int pa_nil)))) (pg_name (i := 1) sc_law.nd rfl (Or.inl rfl))
        (pss_one (ps_if (pt_not (pt_val (pe_c (GR a) hr T.g__law_one_right (pa_cons (pe_lst (pa_cons (pv 0) (pa_cons (pv 1) (pa_cons pe_int pa_nil)))) pa_nil)))) (pss_one (ps_ret pe_bl)) pss_nil)))
      (pss_one (ps_ret pe_bl)), ?_⟩
    have hm : (ns.map V.int).length = ns.length := List.length_map ..
    have bd : ∀ z : Int, 0 ≤ z → 0 ≤ (if (if z < 24 then z else 24) > 1 then (if z < 24 then z else 24) else 1) ∧ (if (if z < 24 then z else 24) > 1 then (if z < 24 then z else 24) else 1) < 25 := fun z hz => by
      constructor
      · split
        · split <;> omega
        · omega
      · split
        · split <;> omega
        · omega
    obtain ⟨b1, b2⟩ := bd ((ns.map V.int).length : Int) (by omega)
    obtain ⟨n, rg⟩ := rg3' b1 b2
    refine ⟨_, rfl, a, _, rfl, .inl ha, _, _, rfl, _, _, rfl, 0, _, 3, n, rfl, rg, ?_⟩
    refine for_rangeC (fun i σ H' => (∃ v1, σ = [some (.ref a), v1]) ∧ SqL K H' a (ns.map V.int) ∧ Tabs TT H') ⟨⟨none, rfl⟩, ha, tabs⟩ (fun i σ H' _ q => ?_) fun σ H' q => ?_
    · obtain ⟨⟨v1, rfl⟩, ha', t'⟩ := q
      refine ⟨_, rfl, _, rfl, (by show 3 ≤ sizeLine; decide), fun st hst => ?_⟩
      have s1 : Same H' _ := same_upd (o := .lst [.ref a, .int (0 + (i : Nat) * 3), .int 0]) hst
      refine ⟨st, rfl, ⟨ns, _, _, upd_same, Same.seq s1 ha', by omega, by omega⟩, t'.ext s1, fun H2 k2 t2 => ⟨true, rfl, iteF ?_⟩⟩
      exact ⟨⟨_, rfl⟩, kp_sq k2 (Same.seq s1 ha'), t2⟩
    · exact kk H'
end
end OP
namespace OP
open PySem PySem.Spec PyProof.Rows L2 LamX
theorem law_at {w : World} {K : PySem.W.Frag} {h : Heap} {mg : Str → Option Value} {f : Addr} (X : K.In h) (G : h.Ns mainGlobals mg) (hfa : mg ("law" : Str) = some (.ref f)) (s : SaysO h K) : LawAtS PySem.Challenge.rw_orderpairs_k11_whole_replicas w K CX0 16 63 "_law_script" mg f h := by
  have T := txt_of X G s
  have e := hfa.symm.trans T.g_law
  obtain rfl : f = a_law K := Value.ref.inj (Option.some.inj e)
  have ps : (("_law_sets", none) : He.Defn) ∈ tf := List.mem_cons_self
  have ph : (("hardest", none) : He.Defn) ∈ tf := List.mem_cons_of_mem _ List.mem_cons_self
  obtain ⟨fd, FS⟩ := T.f__law_sets
  obtain ⟨oc, od, kV, doc, pm, an, cdv, ct, osl, rfl, lk, hcd⟩ := FS.ex
  obtain ⟨c, rfl⟩ := He.codeIn_ref hcd
  have ec : He.codeOf K ("_law_sets", none) = c := He.codeOf_eq lk rfl
  obtain ⟨fdh, FH⟩ := T.f_hardest
  obtain ⟨och, odh, kVh, doch, pmh, anh, cdvh, cth, oslh, rfl, lkh, hcdh⟩ := FH.ex
  obtain ⟨ch, rfl⟩ := He.codeIn_ref hcdh
  have ech : He.codeOf K ("hardest", none) = ch := He.codeOf_eq lkh rfl
  obtain ⟨fdl, FL⟩ := T.f_law
  obtain ⟨oc2, od2, kV2, doc2, pm2, an2, cdv2, ct2, osl2, rfl, lk2, hcd2⟩ := id FL.ex
  have ne : (He.cT K ("_law_sets", none)).2 ≠ (He.cT K ("hardest", none)).2 := of_decide_eq_true (s.ex 133)
  refine ⟨PySem.W.fnOf "law" "law" (defArgs s_law) (defBody s_law) (defScope s_law) .none kV2 doc2 pm2 an2 cdv2 ct2, tf.map (He.cT K), spLaw K [((He.cT K ("_law_sets", none)).2, lamQ), ((He.cT K ("hardest", none)).2, hardQ)], fun p hp => ?_, fun p hp => ?_, fun p hp => ?_, fun s v => .of_eq rfl, fun H a ns _ _ hH hS => ⟨a, ns, rfl, hS, fun q hq => ?_, fun _ => rfl⟩, fun base X' G' hT => ?_⟩
  · obtain ⟨d, hd, rfl⟩ := List.mem_map.mp hp
    exact s.empty d hd
  · obtain ⟨d, hd, rfl⟩ := List.mem_map.mp hp
    exact s.out d hd
  · obtain ⟨d, hd, rfl⟩ := List.mem_map.mp hp
    exact PySem.W.codeHd_of_K X (s.hd d hd)
  · rcases List.mem_cons.mp hq with rfl | hq
    · exact TabS.nil (hH _ (List.mem_map.mpr ⟨_, ps, rfl⟩))
    · obtain rfl := List.mem_singleton.mp hq
      exact TabS.nil (hH _ (List.mem_map.mpr ⟨_, ph, rfl⟩))
  · refine fn_law T (Pt := (He.cT K ("_law_sets", none)).2) (Ph := (He.cT K ("hardest", none)).2) ⟨⟨oc, od, kV, doc, pm, an, ct, osl, c, lk, hcd, ?_⟩, FS.kp⟩ List.mem_cons_self (fun q hq e => ?_) ⟨⟨och, odh, kVh, doch, pmh, anh, cth, oslh, ch, lkh, hcdh, ?_⟩, FH.kp⟩ (List.mem_cons_of_mem _ List.mem_cons_self) (fun q hq e => ?_) FL
    · have z := hT (He.cT K ("_law_sets", none)) (List.mem_map.mpr ⟨_, ps, rfl⟩)
      have e1 : (He.cT K ("_law_sets", none)).1 = c := ec
      rw [e1] at z
      exact z
    · rcases List.mem_cons.mp hq with rfl | hq
      · rfl
      · obtain rfl := List.mem_singleton.mp hq
        exact absurd e.symm ne
    · have z := hT (He.cT K ("hardest", none)) (List.mem_map.mpr ⟨_, ph, rfl⟩)
      have e1 : (He.cT K ("hardest", none)).1 = ch := ech
      rw [e1] at z
      exact z
    · rcases List.mem_cons.mp hq with rfl | hq
      · exact absurd e ne
      · obtain rfl := List.mem_singleton.mp hq
        rfl
end OP
open PySem PySem.W PySem.Calls PyProof.Rows
theorem PySem.Challenge.cw_orderpairs_k11_whole_replicas_holds : PySem.Challenge.rw_orderpairs_k11_whole_replicas.Holds := by
  w_on; o_law
  refine HandSHeadRun.head_any (r := OpenLaw.row PySem.Challenge.rw_orderpairs_k11_whole_replicas) (q := view (OpenLaw.row PySem.Challenge.rw_orderpairs_k11_whole_replicas).prog [83]) (H := OP.hookO) (ob := OP.ob) (M := 30000) (loose := OP.loose) (d := HandSHeadRun.topDef (OpenLaw.row PySem.Challenge.rw_orderpairs_k11_whole_replicas).prog 83) (kwd := []) OP.ob_eq
    (by kernel_rfl) (fun s => by kernel_rfl) OP.run (by kernel_rfl) (by kernel_rfl) (by kernel_rfl) (by rfl) (by first | assumption | decide +kernel) (by decide +kernel) ⟨rfl, rfl, rfl, rfl, rfl, by decide +kernel⟩ ?hw ?hc
  case hw => w_witness2
  case hc =>
    refine LamX.walk_ofTsE (l := PySem.Challenge.rw_orderpairs_k11_whole_replicas) (n := 63) (k := 16) (x := "_law_script") (CX := fun _ => L2.CX0) rfl (by decide) (by kernel_rfl) ⟨rfl, by decide, by decide⟩ ?F (fun _ _ _ _ _ z => z)
    intro w mg fa h Y G hmg0
    obtain ⟨K, KX, c⟩ := Y
    have hmg : mg ("law" : PySem.Str) = some (.ref fa) := by
      have e : (HandSHeadRun.topDef (OpenLaw.row PySem.Challenge.rw_orderpairs_k11_whole_replicas).prog 83).name = ("law" : PySem.Str) := by kernel_rfl
      rw [← e]
      exact hmg0
    exact ⟨K, KX, OP.law_at KX G hmg c⟩
