import PyProof.Rows.All
import Wide.All
import OpenK.AllK
import Wide.FinOn
import KE.KStateDown
import HandS.ForMost
import HandS.ForExc
import HandS.Defaults
import HandS.Wide
import HandS.IsInst
import HandS.Property
import HandS.ClsMeth
import HandS.TupAny
import HandS.TupSets
import HandS.SetKeys
import HandS.OwnEq
import HandS.Strs
import HandS.Conv
import HandS.Flow
import HandS.DictComp
import HandS.HeadHook1
import HandS.HeadHook2
import HandS.HeadNt
import HandS.GenBody
import HandS.GenYield
import HandS.GenCall
import HandS.GenList
import PyProof.ForAny
import KE.SortKeyHeap
import KE.KSortKey
import HandS.Lambda
import HandS.SortKw
import HandS.Set
import HandS.SetFor
import HandS.Walk
import HandS.List
import KE.KEqDict
import HandS.Style
import HandS.Deep
import HandS.Head0
import HandS.Head1
import HandS.Head2
import HandS.HeadEnd
import HandS.HeadHook3
import HandS.HeadHook4
import HandS.HeadWalk
import HandS.EndTab
import HandS.NestedK
import PySem.Challenge.RW_orderpairs_k31_whole_worlds
set_option Elab.async false
set_option linter.all false
set_option maxRecDepth 100000
set_option maxHeartbeats 0
namespace OP
open PySem PySem.Spec PyProof.Rows L2
def top (i : Nat) : Stmt := PySem.Challenge.pw_orderpairs_k31_whole_worlds.main.body.getD i (.Pass ⟨0, 0, 0, 0⟩)
abbrev s_Put_init : Stmt := inClass (top 10) 0
abbrev a_Put_init (K : PySem.W.Frag) : Addr := He.ma K (He.ga K "Put") "__init__"
abbrev s_Put_eq : Stmt := inClass (top 10) 1
abbrev a_Put_eq (K : PySem.W.Frag) : Addr := He.ma K (He.ga K "Put") "__eq__"
abbrev s_Put_slots : Stmt := inClass (top 10) 2
abbrev a_Put_slots (K : PySem.W.Frag) : Addr := He5.wf K (He.ga K "Put") "property" "slots"
abbrev s_Put_apply : Stmt := inClass (top 10) 3
abbrev a_Put_apply (K : PySem.W.Frag) : Addr := He.ma K (He.ga K "Put") "apply"
abbrev s_Move_init : Stmt := inClass (top 11) 0
abbrev a_Move_init (K : PySem.W.Frag) : Addr := He.ma K (He.ga K "Move") "__init__"
abbrev s_Move_eq : Stmt := inClass (top 11) 1
abbrev a_Move_eq (K : PySem.W.Frag) : Addr := He.ma K (He.ga K "Move") "__eq__"
abbrev s_Move_slots : Stmt := inClass (top 11) 2
abbrev a_Move_slots (K : PySem.W.Frag) : Addr := He5.wf K (He.ga K "Move") "property" "slots"
abbrev s_Move_apply : Stmt := inClass (top 11) 3
abbrev a_Move_apply (K : PySem.W.Frag) : Addr := He.ma K (He.ga K "Move") "apply"
abbrev s_Add_init : Stmt := inClass (top 12) 0
abbrev a_Add_init (K : PySem.W.Frag) : Addr := He.ma K (He.ga K "Add") "__init__"
abbrev s_Add_eq : Stmt := inClass (top 12) 2
abbrev a_Add_eq (K : PySem.W.Frag) : Addr := He.ma K (He.ga K "Add") "__eq__"
abbrev s_Add_slots : Stmt := inClass (top 12) 3
abbrev a_Add_slots (K : PySem.W.Frag) : Addr := He5.wf K (He.ga K "Add") "property" "slots"
abbrev s_Add_apply : Stmt := inClass (top 12) 4
abbrev a_Add_apply (K : PySem.W.Frag) : Addr := He.ma K (He.ga K "Add") "apply"
abbrev s_AddSlot_init : Stmt := inClass (top 13) 0
abbrev a_AddSlot_init (K : PySem.W.Frag) : Addr := He.ma K (He.ga K "AddSlot") "__init__"
abbrev s_AddSlot_eq : Stmt := inClass (top 13) 1
abbrev a_AddSlot_eq (K : PySem.W.Frag) : Addr := He.ma K (He.ga K "AddSlot") "__eq__"
abbrev s_AddSlot_slots : Stmt := inClass (top 13) 2
abbrev a_AddSlot_slots (K : PySem.W.Frag) : Addr := He5.wf K (He.ga K "AddSlot") "property" "slots"
abbrev s_AddSlot_apply : Stmt := inClass (top 13) 3
abbrev a_AddSlot_apply (K : PySem.W.Frag) : Addr := He.ma K (He.ga K "AddSlot") "apply"
abbrev s_Raise_init : Stmt := inClass (top 14) 0
abbrev a_Raise_init (K : PySem.W.Frag) : Addr := He.ma K (He.ga K "Raise") "__init__"
abbrev s_Raise_eq : Stmt := inClass (top 14) 1
abbrev a_Raise_eq (K : PySem.W.Frag) : Addr := He.ma K (He.ga K "Raise") "__eq__"
abbrev s_Raise_slots : Stmt := inClass (top 14) 2
abbrev a_Raise_slots (K : PySem.W.Frag) : Addr := He5.wf K (He.ga K "Raise") "property" "slots"
abbrev s_Raise_apply : Stmt := inClass (top 14) 3
abbrev a_Raise_apply (K : PySem.W.Frag) : Addr := He.ma K (He.ga K "Raise") "apply"
abbrev s_Lower_init : Stmt := inClass (top 15) 0
abbrev a_Lower_init (K : PySem.W.Frag) : Addr := He.ma K (He.ga K "Lower") "__init__"
abbrev s_Lower_eq : Stmt := inClass (top 15) 1
abbrev a_Lower_eq (K : PySem.W.Frag) : Addr := He.ma K (He.ga K "Lower") "__eq__"
abbrev s_Lower_slots : Stmt := inClass (top 15) 2
abbrev a_Lower_slots (K : PySem.W.Frag) : Addr := He5.wf K (He.ga K "Lower") "property" "slots"
abbrev s_Lower_apply : Stmt := inClass (top 15) 3
abbrev a_Lower_apply (K : PySem.W.Frag) : Addr := He.ma K (He.ga K "Lower") "apply"
abbrev s_If_init : Stmt := inClass (top 16) 0
abbrev a_If_init (K : PySem.W.Frag) : Addr := He.ma K (He.ga K "If") "__init__"
abbrev s_If_eq : Stmt := inClass (top 16) 1
abbrev a_If_eq (K : PySem.W.Frag) : Addr := He.ma K (He.ga K "If") "__eq__"
abbrev s_If_slots : Stmt := inClass (top 16) 2
abbrev a_If_slots (K : PySem.W.Frag) : Addr := He5.wf K (He.ga K "If") "property" "slots"
abbrev s_If_apply : Stmt := inClass (top 16) 3
abbrev a_If_apply (K : PySem.W.Frag) : Addr := He.ma K (He.ga K "If") "apply"
abbrev s_is_number : Stmt := top 17
abbrev a_is_number (K : PySem.W.Frag) : Addr := He.ga K "is_number"
abbrev s_is_store : Stmt := top 18
abbrev a_is_store (K : PySem.W.Frag) : Addr := He.ga K "is_store"
abbrev s_check_slot : Stmt := top 19
abbrev a_check_slot (K : PySem.W.Frag) : Addr := He.ga K "check_slot"
abbrev s_check_value : Stmt := top 20
abbrev a_check_value (K : PySem.W.Frag) : Addr := He.ga K "check_value"
abbrev s_check_store : Stmt := top 21
abbrev a_check_store (K : PySem.W.Frag) : Addr := He.ga K "check_store"
abbrev s_replaced : Stmt := top 22
abbrev a_replaced (K : PySem.W.Frag) : Addr := He.ga K "replaced"
abbrev s_World_init : Stmt := inClass (top 29) 0
abbrev a_World_init (K : PySem.W.Frag) : Addr := He.ma K (He.ga K "World") "__init__"
abbrev s_World_eq : Stmt := inClass (top 29) 1
abbrev a_World_eq (K : PySem.W.Frag) : Addr := He.ma K (He.ga K "World") "__eq__"
abbrev s_World_slots : Stmt := inClass (top 29) 2
abbrev a_World_slots (K : PySem.W.Frag) : Addr := He5.wf K (He.ga K "World") "property" "slots"
abbrev s_World_stores : Stmt := inClass (top 29) 3
abbrev a_World_stores (K : PySem.W.Frag) : Addr := He5.wf K (He.ga K "World") "property" "stores"
abbrev s_World_names : Stmt := inClass (top 29) 4
abbrev a_World_names (K : PySem.W.Frag) : Addr := He5.wf K (He.ga K "World") "property" "names"
abbrev s_World_change : Stmt := inClass (top 29) 5
abbrev a_World_change (K : PySem.W.Frag) : Addr := He.ma K (He.ga K "World") "change"
abbrev s_World_end : Stmt := inClass (top 29) 6
abbrev a_World_end (K : PySem.W.Frag) : Addr := He.ma K (He.ga K "World") "end"
abbrev s_World_sets : Stmt := inClass (top 29) 7
abbrev a_World_sets (K : PySem.W.Frag) : Addr := He.ma K (He.ga K "World") "sets"
abbrev s_is_known : Stmt := top 30
abbrev a_is_known (K : PySem.W.Frag) : Addr := He.ga K "is_known"
abbrev s_is_order : Stmt := top 31
abbrev a_is_order (K : PySem.W.Frag) : Addr := He.ga K "is_order"
abbrev s_is_store_of : Stmt := top 32
abbrev a_is_store_of (K : PySem.W.Frag) : Addr := He.ga K "is_store_of"
abbrev s_are_initial_stores : Stmt := top 33
abbrev a_are_initial_stores (K : PySem.W.Frag) : Addr := He.ga K "are_initial_stores"
abbrev s_check_changes : Stmt := top 34
abbrev a_check_changes (K : PySem.W.Frag) : Addr := He.ga K "check_changes"
abbrev s_is_name : Stmt := top 35
abbrev a_is_name (K : PySem.W.Frag) : Addr := He.ga K "is_name"
abbrev s_uses_only : Stmt := top 36
abbrev a_uses_only (K : PySem.W.Frag) : Addr := He.ga K "uses_only"
abbrev s_one_larger : Stmt := top 37
abbrev a_one_larger (K : PySem.W.Frag) : Addr := He.ga K "one_larger"
abbrev s__law_cell_at : Stmt := top 39
abbrev a__law_cell_at (K : PySem.W.Frag) : Addr := He.ga K "_law_cell_at"
abbrev s__law_draw : Stmt := top 40
abbrev a__law_draw (K : PySem.W.Frag) : Addr := He.ga K "_law_draw"
abbrev s__law_number : Stmt := top 41
abbrev a__law_number (K : PySem.W.Frag) : Addr := He.ga K "_law_number"
abbrev s__law_next : Stmt := top 42
abbrev a__law_next (K : PySem.W.Frag) : Addr := He.ga K "_law_next"
abbrev s__law_pick : Stmt := top 43
abbrev a__law_pick (K : PySem.W.Frag) : Addr := He.ga K "_law_pick"
abbrev s__law_change : Stmt := top 44
abbrev a__law_change (K : PySem.W.Frag) : Addr := He.ga K "_law_change"
abbrev s__law_made : Stmt := top 45
abbrev a__law_made (K : PySem.W.Frag) : Addr := He.ga K "_law_made"
abbrev s__law_after : Stmt := top 46
abbrev a__law_after (K : PySem.W.Frag) : Addr := He.ga K "_law_after"
abbrev s__law_drawn : Stmt := top 47
abbrev a__law_drawn (K : PySem.W.Frag) : Addr := He.ga K "_law_drawn"
abbrev s__law_world : Stmt := top 48
abbrev a__law_world (K : PySem.W.Frag) : Addr := He.ga K "_law_world"
abbrev s__law_sets : Stmt := top 49
abbrev a__law_sets (K : PySem.W.Frag) : Addr := He.ga K "_law_sets"
abbrev s__law_end : Stmt := top 51
abbrev a__law_end (K : PySem.W.Frag) : Addr := He.ga K "_law_end"
abbrev s__law_places : Stmt := top 55
abbrev a__law_places (K : PySem.W.Frag) : Addr := He.ga K "_law_places"
abbrev s__law_one_right : Stmt := top 56
abbrev a__law_one_right (K : PySem.W.Frag) : Addr := He.ga K "_law_one_right"
abbrev s_law : Stmt := top 57
abbrev a_law (K : PySem.W.Frag) : Addr := He.ga K "law"
abbrev c_Put (K : PySem.W.Frag) : Addr := He.ga K "Put"
abbrev c_Move (K : PySem.W.Frag) : Addr := He.ga K "Move"
abbrev c_Add (K : PySem.W.Frag) : Addr := He.ga K "Add"
abbrev c_AddSlot (K : PySem.W.Frag) : Addr := He.ga K "AddSlot"
abbrev c_Raise (K : PySem.W.Frag) : Addr := He.ga K "Raise"
abbrev c_Lower (K : PySem.W.Frag) : Addr := He.ga K "Lower"
abbrev c_If (K : PySem.W.Frag) : Addr := He.ga K "If"
abbrev c_World (K : PySem.W.Frag) : Addr := He.ga K "World"
abbrev c_Change (K : PySem.W.Frag) : Addr := He.ga K "Change"
/-- the facts that an own class must keep so that isinstance looks at its instances -/
structure Own (K : PySem.W.Frag) (C : Addr) : Prop where
  cl : Cls K C
  ha : PySem.W.findIn K (.ref C) "__class__" = some (some (.builtin "object.__class__"))
  hn : PySem.W.specialIn K (.builtin "object.__class__") "__get__" = some (some (.builtin "getset_descriptor.__get__"))
  htk : PySem.W.takesIn K (.builtin "object.__class__") = some true
  hm : PySem.W.mroIn K C (.type "object") = some true
theorem Own.ty {K : PySem.W.Frag} {C : Addr} (o : Own K C) {H : Hp} {a dx : Addr} {fs : List (Str × V)} (e : H a = some (.ins C dx fs)) : TyX K H (.ref a) (.ref C) := .base (.ins e o.cl o.ha o.hn o.htk o.hm)
/-- what the top has left -/
structure Txt (K : PySem.W.Frag) (mg : Str → Option Value) : Prop where
  f_Put_init : ∃ fd, Fun K "__init__" "Put.__init__" s_Put_init (a_Put_init K) fd
  f_Put_eq : ∃ fd, Fun K "__eq__" "Put.__eq__" s_Put_eq (a_Put_eq K) fd
  f_Put_slots : ∃ fd, Fun K "slots" "Put.slots" s_Put_slots (a_Put_slots K) fd
  f_Put_apply : ∃ fd, Fun K "apply" "Put.apply" s_Put_apply (a_Put_apply K) fd
  f_Move_init : ∃ fd, Fun K "__init__" "Move.__init__" s_Move_init (a_Move_init K) fd
  f_Move_eq : ∃ fd, Fun K "__eq__" "Move.__eq__" s_Move_eq (a_Move_eq K) fd
  f_Move_slots : ∃ fd, Fun K "slots" "Move.slots" s_Move_slots (a_Move_slots K) fd
  f_Move_apply : ∃ fd, Fun K "apply" "Move.apply" s_Move_apply (a_Move_apply K) fd
  f_Add_init : ∃ fd, Fun K "__init__" "Add.__init__" s_Add_init (a_Add_init K) fd
  f_Add_eq : ∃ fd, Fun K "__eq__" "Add.__eq__" s_Add_eq (a_Add_eq K) fd
  f_Add_slots : ∃ fd, Fun K "slots" "Add.slots" s_Add_slots (a_Add_slots K) fd
  f_Add_apply : ∃ fd, Fun K "apply" "Add.apply" s_Add_apply (a_Add_apply K) fd
  f_AddSlot_init : ∃ fd, Fun K "__init__" "AddSlot.__init__" s_AddSlot_init (a_AddSlot_init K) fd
  f_AddSlot_eq : ∃ fd, Fun K "__eq__" "AddSlot.__eq__" s_AddSlot_eq (a_AddSlot_eq K) fd
  f_AddSlot_slots : ∃ fd, Fun K "slots" "AddSlot.slots" s_AddSlot_slots (a_AddSlot_slots K) fd
  f_AddSlot_apply : ∃ fd, Fun K "apply" "AddSlot.apply" s_AddSlot_apply (a_AddSlot_apply K) fd
  f_Raise_init : ∃ fd, Fun K "__init__" "Raise.__init__" s_Raise_init (a_Raise_init K) fd
  f_Raise_eq : ∃ fd, Fun K "__eq__" "Raise.__eq__" s_Raise_eq (a_Raise_eq K) fd
  f_Raise_slots : ∃ fd, Fun K "slots" "Raise.slots" s_Raise_slots (a_Raise_slots K) fd
  f_Raise_apply : ∃ fd, Fun K "apply" "Raise.apply" s_Raise_apply (a_Raise_apply K) fd
  f_Lower_init : ∃ fd, Fun K "__init__" "Lower.__init__" s_Lower_init (a_Lower_init K) fd
  f_Lower_eq : ∃ fd, Fun K "__eq__" "Lower.__eq__" s_Lower_eq (a_Lower_eq K) fd
  f_Lower_slots : ∃ fd, Fun K "slots" "Lower.slots" s_Lower_slots (a_Lower_slots K) fd
  f_Lower_apply : ∃ fd, Fun K "apply" "Lower.apply" s_Lower_apply (a_Lower_apply K) fd
  f_If_init : ∃ fd, Fun K "__init__" "If.__init__" s_If_init (a_If_init K) fd
  f_If_eq : ∃ fd, Fun K "__eq__" "If.__eq__" s_If_eq (a_If_eq K) fd
  f_If_slots : ∃ fd, Fun K "slots" "If.slots" s_If_slots (a_If_slots K) fd
  f_If_apply : ∃ fd, Fun K "apply" "If.apply" s_If_apply (a_If_apply K) fd
  f_is_number : ∃ fd, Fun K "is_number" "is_number" s_is_number (a_is_number K) fd
  f_is_store : ∃ fd, Fun K "is_store" "is_store" s_is_store (a_is_store K) fd
  f_check_slot : ∃ fd, Fun K "check_slot" "check_slot" s_check_slot (a_check_slot K) fd
  f_check_value : ∃ fd, Fun K "check_value" "check_value" s_check_value (a_check_value K) fd
  f_check_store : ∃ fd, Fun K "check_store" "check_store" s_check_store (a_check_store K) fd
  f_replaced : ∃ fd, Fun K "replaced" "replaced" s_replaced (a_replaced K) fd
  f_World_init : ∃ fd, Fun K "__init__" "World.__init__" s_World_init (a_World_init K) fd
  f_World_eq : ∃ fd, Fun K "__eq__" "World.__eq__" s_World_eq (a_World_eq K) fd
  f_World_slots : ∃ fd, Fun K "slots" "World.slots" s_World_slots (a_World_slots K) fd
  f_World_stores : ∃ fd, Fun K "stores" "World.stores" s_World_stores (a_World_stores K) fd
  f_World_names : ∃ fd, Fun K "names" "World.names" s_World_names (a_World_names K) fd
  f_World_change : ∃ fd, Fun K "change" "World.change" s_World_change (a_World_change K) fd
  f_World_end : ∃ fd, Fun K "end" "World.end" s_World_end (a_World_end K) fd
  f_World_sets : ∃ fd, Fun K "sets" "World.sets" s_World_sets (a_World_sets K) fd
  f_is_known : ∃ fd, Fun K "is_known" "is_known" s_is_known (a_is_known K) fd
  f_is_order : ∃ fd, Fun K "is_order" "is_order" s_is_order (a_is_order K) fd
  f_is_store_of : ∃ fd, Fun K "is_store_of" "is_store_of" s_is_store_of (a_is_store_of K) fd
  f_are_initial_stores : ∃ fd, Fun K "are_initial_stores" "are_initial_stores" s_are_initial_stores (a_are_initial_stores K) fd
  f_check_changes : ∃ fd, Fun K "check_changes" "check_changes" s_check_changes (a_check_changes K) fd
  f_is_name : ∃ fd, Fun K "is_name" "is_name" s_is_name (a_is_name K) fd
  f_uses_only : ∃ fd, Fun K "uses_only" "uses_only" s_uses_only (a_uses_only K) fd
  f_one_larger : ∃ fd, Fun K "one_larger" "one_larger" s_one_larger (a_one_larger K) fd
  f__law_cell_at : ∃ fd, Fun K "_law_cell_at" "_law_cell_at" s__law_cell_at (a__law_cell_at K) fd
  f__law_draw : ∃ fd, Fun K "_law_draw" "_law_draw" s__law_draw (a__law_draw K) fd
  f__law_number : ∃ fd, Fun K "_law_number" "_law_number" s__law_number (a__law_number K) fd
  f__law_next : ∃ fd, Fun K "_law_next" "_law_next" s__law_next (a__law_next K) fd
  f__law_pick : ∃ fd, Fun K "_law_pick" "_law_pick" s__law_pick (a__law_pick K) fd
  f__law_change : ∃ fd, Fun K "_law_change" "_law_change" s__law_change (a__law_change K) fd
  f__law_made : ∃ fd, Fun K "_law_made" "_law_made" s__law_made (a__law_made K) fd
  f__law_after : ∃ fd, Fun K "_law_after" "_law_after" s__law_after (a__law_after K) fd
  f__law_drawn : ∃ fd, Fun K "_law_drawn" "_law_drawn" s__law_drawn (a__law_drawn K) fd
  f__law_world : ∃ fd, Fun K "_law_world" "_law_world" s__law_world (a__law_world K) fd
  f__law_sets : ∃ fd, Fun K "_law_sets" "_law_sets" s__law_sets (a__law_sets K) fd
  f__law_end : ∃ fd, Fun K "_law_end" "_law_end" s__law_end (a__law_end K) fd
  f__law_places : ∃ fd, Fun K "_law_places" "_law_places" s__law_places (a__law_places K) fd
  f__law_one_right : ∃ fd, Fun K "_law_one_right" "_law_one_right" s__law_one_right (a__law_one_right K) fd
  f_law : ∃ fd, Fun K "law" "law" s_law (a_law K) fd
  g_Change : mg "Change" = some (.ref (He.ga K "Change"))
  g_Put : mg "Put" = some (.ref (He.ga K "Put"))
  g_Move : mg "Move" = some (.ref (He.ga K "Move"))
  g_Add : mg "Add" = some (.ref (He.ga K "Add"))
  g_AddSlot : mg "AddSlot" = some (.ref (He.ga K "AddSlot"))
  g_Raise : mg "Raise" = some (.ref (He.ga K "Raise"))
  g_Lower : mg "Lower" = some (.ref (He.ga K "Lower"))
  g_If : mg "If" = some (.ref (He.ga K "If"))
  g_is_number : mg "is_number" = some (.ref (He.ga K "is_number"))
  g_is_store : mg "is_store" = some (.ref (He.ga K "is_store"))
  g_check_slot : mg "check_slot" = some (.ref (He.ga K "check_slot"))
  g_check_value : mg "check_value" = some (.ref (He.ga K "check_value"))
  g_check_store : mg "check_store" = some (.ref (He.ga K "check_store"))
  g_replaced : mg "replaced" = some (.ref (He.ga K "replaced"))
  g_World : mg "World" = some (.ref (He.ga K "World"))
  g_is_known : mg "is_known" = some (.ref (He.ga K "is_known"))
  g_is_order : mg "is_order" = some (.ref (He.ga K "is_order"))
  g_is_store_of : mg "is_store_of" = some (.ref (He.ga K "is_store_of"))
  g_are_initial_stores : mg "are_initial_stores" = some (.ref (He.ga K "are_initial_stores"))
  g_check_changes : mg "check_changes" = some (.ref (He.ga K "check_changes"))
  g_is_name : mg "is_name" = some (.ref (He.ga K "is_name"))
  g_uses_only : mg "uses_only" = some (.ref (He.ga K "uses_only"))
  g_one_larger : mg "one_larger" = some (.ref (He.ga K "one_larger"))
  g__law_cell_at : mg "_law_cell_at" = some (.ref (He.ga K "_law_cell_at"))
  g__law_draw : mg "_law_draw" = some (.ref (He.ga K "_law_draw"))
  g__law_number : mg "_law_number" = some (.ref (He.ga K "_law_number"))
  g__law_next : mg "_law_next" = some (.ref (He.ga K "_law_next"))
  g__law_pick : mg "_law_pick" = some (.ref (He.ga K "_law_pick"))
  g__law_change : mg "_law_change" = some (.ref (He.ga K "_law_change"))
  g__law_made : mg "_law_made" = some (.ref (He.ga K "_law_made"))
  g__law_after : mg "_law_after" = some (.ref (He.ga K "_law_after"))
  g__law_drawn : mg "_law_drawn" = some (.ref (He.ga K "_law_drawn"))
  g__law_world : mg "_law_world" = some (.ref (He.ga K "_law_world"))
  g__law_sets : mg "_law_sets" = some (.ref (He.ga K "_law_sets"))
  g__law_end : mg "_law_end" = some (.ref (He.ga K "_law_end"))
  g__law_places : mg "_law_places" = some (.ref (He.ga K "_law_places"))
  g__law_one_right : mg "_law_one_right" = some (.ref (He.ga K "_law_one_right"))
  g_law : mg "law" = some (.ref (He.ga K "law"))
  i_MOST_SLOTS : ∃ t, mg "MOST_SLOTS" = some (.int 3 t)
  i_MOST_LETTERS : ∃ t, mg "MOST_LETTERS" = some (.int 8 t)
  i_MOST_STORES : ∃ t, mg "MOST_STORES" = some (.int 8 t)
  i_LEAST_CHANGES : ∃ t, mg "LEAST_CHANGES" = some (.int 2 t)
  i_MOST_CHANGES : ∃ t, mg "MOST_CHANGES" = some (.int 4 t)
  letters : ∃ t, mg "LETTERS" = some (.str "abcdefghijklmnopqrstuvwxyz" t)
  z_isinstance : mg "isinstance" = none
  z_int : mg "int" = none
  z_bool : mg "bool" = none
  z_tuple : mg "tuple" = none
  z_list : mg "list" = none
  z_dict : mg "dict" = none
  z_str : mg "str" = none
  z_set : mg "set" = none
  z_len : mg "len" = none
  z_all : mg "all" = none
  z_any : mg "any" = none
  z_sorted : mg "sorted" = none
  z_max : mg "max" = none
  z_min : mg "min" = none
  z_range : mg "range" = none
  o_Put : Own K (c_Put K)
  mk_Put : Mk K (c_Put K) (a_Put_init K)
  n_Put_slot : NoAttr K (c_Put K) "slot"
  n_Put_value : NoAttr K (c_Put K) "value"
  m_Put_eq : Meth K (c_Put K) "__eq__" (a_Put_eq K)
  m_Put_apply : Meth K (c_Put K) "apply" (a_Put_apply K)
  p_Put_slots : PropOf K (c_Put K) "slots" (He.ma K (c_Put K) "slots") (a_Put_slots K)
  o_Move : Own K (c_Move K)
  mk_Move : Mk K (c_Move K) (a_Move_init K)
  n_Move_slot : NoAttr K (c_Move K) "slot"
  n_Move_source : NoAttr K (c_Move K) "source"
  m_Move_eq : Meth K (c_Move K) "__eq__" (a_Move_eq K)
  m_Move_apply : Meth K (c_Move K) "apply" (a_Move_apply K)
  p_Move_slots : PropOf K (c_Move K) "slots" (He.ma K (c_Move K) "slots") (a_Move_slots K)
  o_Add : Own K (c_Add K)
  mk_Add : Mk K (c_Add K) (a_Add_init K)
  n_Add_slot : NoAttr K (c_Add K) "slot"
  n_Add_value : NoAttr K (c_Add K) "value"
  m_Add_eq : Meth K (c_Add K) "__eq__" (a_Add_eq K)
  m_Add_apply : Meth K (c_Add K) "apply" (a_Add_apply K)
  p_Add_slots : PropOf K (c_Add K) "slots" (He.ma K (c_Add K) "slots") (a_Add_slots K)
  o_AddSlot : Own K (c_AddSlot K)
  mk_AddSlot : Mk K (c_AddSlot K) (a_AddSlot_init K)
  n_AddSlot_slot : NoAttr K (c_AddSlot K) "slot"
  n_AddSlot_source : NoAttr K (c_AddSlot K) "source"
  m_AddSlot_eq : Meth K (c_AddSlot K) "__eq__" (a_AddSlot_eq K)
  m_AddSlot_apply : Meth K (c_AddSlot K) "apply" (a_AddSlot_apply K)
  p_AddSlot_slots : PropOf K (c_AddSlot K) "slots" (He.ma K (c_AddSlot K) "slots") (a_AddSlot_slots K)
  o_Raise : Own K (c_Raise K)
  mk_Raise : Mk K (c_Raise K) (a_Raise_init K)
  n_Raise_slot : NoAttr K (c_Raise K) "slot"
  n_Raise_value : NoAttr K (c_Raise K) "value"
  m_Raise_eq : Meth K (c_Raise K) "__eq__" (a_Raise_eq K)
  m_Raise_apply : Meth K (c_Raise K) "apply" (a_Raise_apply K)
  p_Raise_slots : PropOf K (c_Raise K) "slots" (He.ma K (c_Raise K) "slots") (a_Raise_slots K)
  o_Lower : Own K (c_Lower K)
  mk_Lower : Mk K (c_Lower K) (a_Lower_init K)
  n_Lower_slot : NoAttr K (c_Lower K) "slot"
  n_Lower_value : NoAttr K (c_Lower K) "value"
  m_Lower_eq : Meth K (c_Lower K) "__eq__" (a_Lower_eq K)
  m_Lower_apply : Meth K (c_Lower K) "apply" (a_Lower_apply K)
  p_Lower_slots : PropOf K (c_Lower K) "slots" (He.ma K (c_Lower K) "slots") (a_Lower_slots K)
  o_If : Own K (c_If K)
  mk_If : Mk K (c_If K) (a_If_init K)
  n_If_slot : NoAttr K (c_If K) "slot"
  n_If_value : NoAttr K (c_If K) "value"
  n_If_inner : NoAttr K (c_If K) "inner"
  m_If_eq : Meth K (c_If K) "__eq__" (a_If_eq K)
  m_If_apply : Meth K (c_If K) "apply" (a_If_apply K)
  p_If_slots : PropOf K (c_If K) "slots" (He.ma K (c_If K) "slots") (a_If_slots K)
  o_World : Own K (c_World K)
  mk_World : Mk K (c_World K) (a_World_init K)
  n_World_width : NoAttr K (c_World K) "width"
  n_World_starts : NoAttr K (c_World K) "starts"
  n_World_made : NoAttr K (c_World K) "made"
  m_World_eq : Meth K (c_World K) "__eq__" (a_World_eq K)
  m_World_change : Meth K (c_World K) "change" (a_World_change K)
  m_World_end : Meth K (c_World K) "end" (a_World_end K)
  m_World_sets : Meth K (c_World K) "sets" (a_World_sets K)
  p_World_slots : PropOf K (c_World K) "slots" (He.ma K (c_World K) "slots") (a_World_slots K)
  p_World_stores : PropOf K (c_World K) "stores" (He.ma K (c_World K) "stores") (a_World_stores K)
  p_World_names : PropOf K (c_World K) "names" (He.ma K (c_World K) "names") (a_World_names K)
  k_Put : PySem.W.kitOne K (.ref (c_Put K)) (.ref (c_Change K)) = some true
  kIf_Put : PySem.W.kitOne K (.ref (c_Put K)) (.ref (c_If K)) = some false
  k_Move : PySem.W.kitOne K (.ref (c_Move K)) (.ref (c_Change K)) = some true
  kIf_Move : PySem.W.kitOne K (.ref (c_Move K)) (.ref (c_If K)) = some false
  k_Add : PySem.W.kitOne K (.ref (c_Add K)) (.ref (c_Change K)) = some true
  kIf_Add : PySem.W.kitOne K (.ref (c_Add K)) (.ref (c_If K)) = some false
  k_AddSlot : PySem.W.kitOne K (.ref (c_AddSlot K)) (.ref (c_Change K)) = some true
  kIf_AddSlot : PySem.W.kitOne K (.ref (c_AddSlot K)) (.ref (c_If K)) = some false
  k_Raise : PySem.W.kitOne K (.ref (c_Raise K)) (.ref (c_Change K)) = some true
  kIf_Raise : PySem.W.kitOne K (.ref (c_Raise K)) (.ref (c_If K)) = some false
  k_Lower : PySem.W.kitOne K (.ref (c_Lower K)) (.ref (c_Change K)) = some true
  kIf_Lower : PySem.W.kitOne K (.ref (c_Lower K)) (.ref (c_If K)) = some false
  k_If : PySem.W.kitOne K (.ref (c_If K)) (.ref (c_Change K)) = some true
  kIf_If : PySem.W.kitOne K (.ref (c_If K)) (.ref (c_If K)) = some true
  modulus : ∃ u, ClX.CRead K (c_Change K) (.type "type") ∧ ClX.CVal K (c_Change K) (.type "type") "MODULUS" (.int 8) u
/-- the def at f keeps the promise sp, by level k; how it binds; that it stays -/
structure Ok (P : Program) (w : World) (K : PySem.W.Frag) (mg : Str → Option Value) (base : Heap) (f : Addr) (ps : List Str) (k : Nat) (sp : Sp) : Prop where
  ex : ∃ fd, FnOk P w K mg base CX0 k f fd ps sp ∧ Binds K fd ps []
  kp : PySem.W.keepIn K (.ref f) = true
section
variable {P : Program} {w : World} {K : PySem.W.Frag} {mg : Str → Option Value} {base : Heap}
theorem ok_of {x qual : Str} {st : Stmt} {f : Addr} {N ps : List Str} {k : Nat} {sp : Sp} (F : ∃ fd, Fun K x qual st f fd) (S : FnScope N ps (defScope st))
    (hb : ∀ (kV doc pm : Value) (an : Option Addr) (cdv ct : Value) (us : List Value), us.length = ps.length → bindArgs (PySem.W.fnOf x qual (defArgs st) (defBody st) (defScope st) .none kV doc pm an cdv ct) ⟨us, []⟩ = pure (ps.zip us))
    (len : ∀ vs H Q E, sp vs H Q E → vs.length = ps.length)
    (body : ∀ (cdv : Value) (A : Around) (outer : List Env) (s : Shared) (H : Hp) (vs : List V) (Q : VK) (E : XK), Room k (A.deeper (envOfC qual (defScope st) s.heap.objs.size f cdv)) → sp vs H Q E →
      ∃ t, PSs (cxOf CX0 P w K mg base N qual (defScope st) f cdv A outer s H E).nox (defBody st) t ∧ t { nx := fun _ H' => Q .non H', rt := Q } (start N vs) H) : Ok P w K mg base f ps (k + 1) sp := by
  obtain ⟨fd, F⟩ := F
  exact ⟨⟨fd, F.ok S len body, F.binds hb⟩, F.kp⟩
theorem Ok.mono {f : Addr} {ps : List Str} {j k : Nat} {sp : Sp} (O : Ok P w K mg base f ps j sp) (h : j ≤ k) : Ok P w K mg base f ps k sp := by
  obtain ⟨⟨fd, G, b⟩, kp⟩ := O
  exact ⟨⟨fd, G.mono h, b⟩, kp⟩
end
section
variable {X : Cx} {x : Str} {p pos apos : Pos} {e o : Expr} {es : List Expr} {t : TA} {ta : TE} {f C : Addr} {ps : List Str} {k : Nat} {sp : Sp}
/-- f(e, ..) -/
theorem pe_c (O : Ok X.prog X.w X.K X.mg X.base f ps k sp) (hr : Room k X.A) (hm : X.mg x = some (.ref f)) (ha : PA X (e :: es) t) (hg : Gl X x := by rfl) (hdb : (x == ("__debug__" : Str)) = false := by decide)
    (he : starEach (e :: es) X.env = (false, eval e X.env) :: starEach es X.env := by rfl) (hpl : (backTo pos (starEach es X.env)).any (·.1) = false := by rfl) :
    PE X (.Call (.Name x p) (e :: es) [] pos) (tCall sp [] E0 t) := by
  obtain ⟨⟨fd, G, b⟩, kp⟩ := O
  exact pe_call G hr hg hm kp b .nil pass0 ha hdb he hpl
/-- C(e, ..) -/
theorem pe_mkc (M : Mk X.K C f) (O : Ok X.prog X.w X.K X.mg X.base f ps k sp) (hr : Room (k + 1) X.A) (hm : X.mg x = some (.ref C)) (ha : PA X (e :: es) t) (hg : Gl X x := by rfl) (hdb : (x == ("__debug__" : Str)) = false := by decide)
    (he : starEach (e :: es) X.env = (false, eval e X.env) :: starEach es X.env := by rfl) (hpl : (backTo pos (starEach es X.env)).any (·.1) = false := by rfl) :
    PE X (.Call (.Name x p) (e :: es) [] pos) (tMake C sp [] E0 t) := by
  obtain ⟨⟨fd, G, b⟩, kp⟩ := O
  exact pe_make M G hr hg hm b .nil pass0 ha hdb he hpl
/-- e.f, a property -/
theorem pe_pr {q : Addr} {nm : Str} (he : PE X e ta) (c : Own X.K C) (hp : PropOf X.K C nm q f) (O : Ok X.prog X.w X.K X.mg X.base f ps k sp) (hr : Room (k + 1) X.A) (hab : attributeBase e nm X.env (eval e X.env) = eval e X.env := by rfl) :
    PE X (.Attribute e nm pos) (tProp C sp [] E0 ta) := by
  obtain ⟨⟨fd, G, b⟩, kp⟩ := O
  exact pe_prop he c.cl hp G hr b .nil pass0 hab
/-- any of some readings -/
theorem pe_any {ι : Sort _} {t : ι → TE} (h : ∀ i, PE X e (t i)) : PE X e (fun σ H Q => ∃ i, t i σ H Q) := ⟨fun pins s σ H Q I ⟨i, q⟩ => (h i).run pins s σ H Q I q⟩
end
/-- C.f, the class a name of the module, its constant known -/
theorem pe_cv {C : Addr} {f x : Str} {v : V} {u : Value} {p pos : Pos} {X : Cx} (K' : PySem.W.Frag) (cr : ClX.CRead K' C (.type "type")) (cv : ClX.CVal K' C (.type "type") f v u) (hm : X.mg x = some (.ref C)) (hK : X.K = K' := by rfl) (hg : Gl X x := by rfl) (hdb : (x == ("__debug__" : Str)) = false := by decide)
    (hb : attributeBase (.Name x p) f X.env (eval (.Name x p) X.env) = eval (.Name x p) X.env := by rfl) : PE X (.Attribute (.Name x p) f pos) (tC v) := by
  subst hK
  refine ⟨fun pins s σ H Q I h => ?_⟩
  exact (ClX.pe_cval (pe_glob (v := .ref C) hg hm rfl hdb) hb).run pins s σ H Q I ⟨C, _, v, u, rfl, cr, cv, h⟩
theorem _root_.L2.Same.tp {K : PySem.W.Frag} {H H' : Hp} {a : Addr} {xs : List V} (e : Same H H') (h : SqT K H a xs) : SqT K H' a xs := SqT.ext h e
theorem same_upd {H : Hp} {p : Addr} {o : HO} (h : H p = none) : Same H (upd H p o) := fun b u e => by rw [upd_ne (ne_of_none e h)]; exact e
theorem _root_.L2.Same.push {H H1 : Hp} {p : Addr} {o : HO} (s : Same H H1) (h : H1 p = none) : Same H (L2.upd H1 p o) := s.trans (same_upd h)
end OP
namespace OP
open PySem PySem.Spec PyProof.Rows L2
/-- the list at D grows, all that stood before stands -/
def Grow (H1 : Hp) (D : Addr) (acc : List V) (H : Hp) : Prop := Same H1 H ∧ H D = some (.lst acc)
theorem Grow.start {H1 : Hp} {D : Addr} (hD : H1 D = none) : Grow H1 D [] (upd H1 D (.lst [])) := ⟨same_upd hD, upd_same⟩
theorem Grow.step {H1 H H4 : Hp} {D : Addr} {acc : List V} {y : V} (hD : H1 D = none) (g : Grow H1 D acc H) (s : Same H H4) : H4 D = some (.lst acc) ∧ Grow H1 D (acc ++ [y]) (upd H4 D (.lst (acc ++ [y]))) :=
  ⟨s _ _ g.2, fun b o e => by rw [upd_ne (ne_of_none e hD)]; exact s _ _ (g.1 _ _ e), upd_same⟩
theorem tyes {σ : L2.St} {H : Hp} {Q : Bool → Hp → Prop} (h : Q true H) : tYes σ H Q := h
/-- a comprehension's turns -/
def LcOk (J : It) (g : TG) (tt : TT) (te : TE) (vs : List Nat) (σ : L2.St) (H1 : Hp) (D : Addr) (Qd : Hp → Prop) : Prop :=
  ∃ W : Nat → Nat → Hp → Prop, (∃ m, W 0 m (upd H1 D (.lst []))) ∧ ∀ i m H, W i m H → (J.stop i H ∧ Qd H) ∨ (J.go i H ∧ ∃ Nx : Hp → Prop, (∀ H', Nx H' → ∃ m', m' < m ∧ W (i + 1) m' H') ∧
    ∀ x H', J.yld i H x H' → g x (wipe σ vs) H' fun σ2 H2 => wipe σ2 vs = wipe σ vs ∧ tt σ2 H2 fun b H3 => if b = true then te σ2 H3 fun y H4 => ∃ acc, H4 D = some (.lst acc) ∧ acc.length < sizeLine ∧ Nx (upd H4 D (.lst (acc ++ [y]))) else Nx H3)
/-- what each item of the list is, at the heap H -/
def Each (Rel : Nat → V → Hp → Prop) (acc : List V) (H : Hp) : Prop := ∀ k y, acc[k]? = some y → Rel k y H
section
variable {K : PySem.W.Frag} {a D : Addr} {xs : List V} {te : TE} {j : Nat} {σ : L2.St} {H1 : Hp} {Qd : Hp → Prop} {Rel : Nat → V → Hp → Prop}
theorem each_snoc {acc : List V} {y : V} {H H' : Hp} (mono : ∀ k y H H', Same H H' → Rel k y H → Rel k y H') (h : Each Rel acc H) (s : Same H H') (hy : Rel acc.length y H') : Each Rel (acc ++ [y]) H' := fun k z e => by
  by_cases hk : k < acc.length
  · rw [List.getElem?_append_left hk] at e
    exact mono _ _ _ _ s (h k z e)
  · have hl : k < (acc ++ [y]).length := (List.getElem?_eq_some_iff.mp e).1
    rw [List.length_append, List.length_singleton] at hl
    have ek : k = acc.length := by omega
    subst ek
    rw [List.getElem?_append_right (Nat.le_refl _), Nat.sub_self] at e
    cases e
    exact hy
theorem each_upd {acc : List V} {H : Hp} {o : HO} (mono : ∀ k y H, Rel k y H → Rel k y (upd H D o)) (h : Each Rel acc H) : Each Rel acc (upd H D o) := fun k z e => mono k z H (h k z e)
/-- over a tuple: each item's element, by Rel -/
theorem lcT (hD : H1 D = none) (hq : SqT K H1 a xs) (hsz : xs.length ≤ 1000) (mono : ∀ k y H H', (∀ b o, b ≠ D → H b = some o → H' b = some o) → Rel k y H → Rel k y H')
    (hs : ∀ (i : Nat) x H (Qe : VK), xs[i]? = some x → Same H1 H → (∀ y H', Same H H' → Rel i y H' → Qe y H') → te ((wipe σ [j]).set j (some x)) H Qe)
    (hd : ∀ acc H, Same H1 H → H D = some (.lst acc) → acc.length = xs.length → Each Rel acc H → Qd H)
    (hw : ∀ x, wipe ((wipe σ [j]).set j (some x)) [j] = wipe σ [j] := by intro _; rfl) : LcOk (Itt K a) (gName j) tYes te [j] σ H1 D Qd := by
  refine lc_tup (K := K) (a := a) (xs := xs) (fun i H => ∃ acc, Grow H1 D acc H ∧ acc.length = i ∧ Each Rel acc H) ⟨[], Grow.start hD, rfl, fun k y e => by simp at e⟩ (fun i H _ ⟨acc, g, _⟩ => g.1.tp hq) (fun i x H hx ⟨acc, g, hl, hE⟩ => ⟨hw x, ?_⟩) (fun H ⟨acc, g, hl, hE⟩ => hd acc H g.1 g.2 hl hE)
  refine tyes (iteT ?_)
  refine hs i x H _ hx g.1 fun y H' s' hy => ?_
  obtain ⟨e1, g2⟩ := g.step (y := y) hD s'
  have hlt : i < xs.length := (List.getElem?_eq_some_iff.mp hx).1
  refine ⟨acc, e1, small1000 (by omega), _, g2, by rw [List.length_append, List.length_singleton, hl], ?_⟩
  have m2 : ∀ k y H H', Same H H' → Rel k y H → Rel k y H' := fun k y H H' s => mono k y H H' fun b o _ e => s b o e
  have hE2 := each_snoc (y := y) m2 hE s' (by rw [hl]; exact hy)
  exact fun k z e => mono k z H' _ (fun b o hb eb => by rw [upd_ne hb]; exact eb) (hE2 k z e)
theorem lcL (hD : H1 D = none) (hq : SqL K H1 a xs) (hsz : xs.length ≤ 1000) (mono : ∀ k y H H', (∀ b o, b ≠ D → H b = some o → H' b = some o) → Rel k y H → Rel k y H')
    (hs : ∀ (i : Nat) x H (Qe : VK), xs[i]? = some x → Same H1 H → (∀ y H', Same H H' → Rel i y H' → Qe y H') → te ((wipe σ [j]).set j (some x)) H Qe)
    (hd : ∀ acc H, Same H1 H → H D = some (.lst acc) → acc.length = xs.length → Each Rel acc H → Qd H)
    (hw : ∀ x, wipe ((wipe σ [j]).set j (some x)) [j] = wipe σ [j] := by intro _; rfl) : LcOk (Itl K a) (gName j) tYes te [j] σ H1 D Qd := by
  refine lc_list (K := K) (a := a) (xs := xs) (fun i H => ∃ acc, Grow H1 D acc H ∧ acc.length = i ∧ Each Rel acc H) ⟨[], Grow.start hD, rfl, fun k y e => by simp at e⟩ (fun i H _ ⟨acc, g, _⟩ => Same.seq g.1 hq) (fun i x H hx ⟨acc, g, hl, hE⟩ => ⟨hw x, ?_⟩) (fun H ⟨acc, g, hl, hE⟩ => hd acc H g.1 g.2 hl hE)
  refine tyes (iteT ?_)
  refine hs i x H _ hx g.1 fun y H' s' hy => ?_
  obtain ⟨e1, g2⟩ := g.step (y := y) hD s'
  have hlt : i < xs.length := (List.getElem?_eq_some_iff.mp hx).1
  refine ⟨acc, e1, small1000 (by omega), _, g2, by rw [List.length_append, List.length_singleton, hl], ?_⟩
  have m2 : ∀ k y H H', Same H H' → Rel k y H → Rel k y H' := fun k y H H' s => mono k y H H' fun b o _ e => s b o e
  have hE2 := each_snoc (y := y) m2 hE s' (by rw [hl]; exact hy)
  exact fun k z e => mono k z H' _ (fun b o hb eb => by rw [upd_ne hb]; exact eb) (hE2 k z e)
/-- the same where each element is a value known beforehand -/
theorem lcT_map (ys : List V) (hD : H1 D = none) (hq : SqT K H1 a xs) (hsz : xs.length ≤ 1000) (hy : ys.length = xs.length)
    (hs : ∀ (i : Nat) x y H (Qe : VK), xs[i]? = some x → ys[i]? = some y → Same H1 H → (∀ H', Same H H' → Qe y H') → te ((wipe σ [j]).set j (some x)) H Qe)
    (hd : ∀ H, Same H1 H → H D = some (.lst ys) → Qd H)
    (hw : ∀ x, wipe ((wipe σ [j]).set j (some x)) [j] = wipe σ [j] := by intro _; rfl) : LcOk (Itt K a) (gName j) tYes te [j] σ H1 D Qd := by
  refine lcT (Rel := fun k y _ => ys[k]? = some y) hD hq hsz (fun _ _ _ _ _ h => h) (fun i x H Qe hx s k => ?_) (fun acc H s e hl hE => ?_) hw
  · have hi : i < ys.length := by rw [hy]; exact (List.getElem?_eq_some_iff.mp hx).1
    exact hs i x ys[i] H Qe hx (List.getElem?_eq_getElem hi) s fun H' s' => k _ H' s' (List.getElem?_eq_getElem hi)
  · have : acc = ys := List.ext_getElem? fun k => by
      cases q : acc[k]? with
      | some y => exact (hE k y q).symm
      | none => exact (List.getElem?_eq_none_iff.mpr (by rw [hy, ← hl]; exact List.getElem?_eq_none_iff.mp q)).symm
    rw [this] at e
    exact hd H s e
theorem lcL_map (ys : List V) (hD : H1 D = none) (hq : SqL K H1 a xs) (hsz : xs.length ≤ 1000) (hy : ys.length = xs.length)
    (hs : ∀ (i : Nat) x y H (Qe : VK), xs[i]? = some x → ys[i]? = some y → Same H1 H → (∀ H', Same H H' → Qe y H') → te ((wipe σ [j]).set j (some x)) H Qe)
    (hd : ∀ H, Same H1 H → H D = some (.lst ys) → Qd H)
    (hw : ∀ x, wipe ((wipe σ [j]).set j (some x)) [j] = wipe σ [j] := by intro _; rfl) : LcOk (Itl K a) (gName j) tYes te [j] σ H1 D Qd := by
  refine lcL (Rel := fun k y _ => ys[k]? = some y) hD hq hsz (fun _ _ _ _ _ h => h) (fun i x H Qe hx s k => ?_) (fun acc H s e hl hE => ?_) hw
  · have hi : i < ys.length := by rw [hy]; exact (List.getElem?_eq_some_iff.mp hx).1
    exact hs i x ys[i] H Qe hx (List.getElem?_eq_getElem hi) s fun H' s' => k _ H' s' (List.getElem?_eq_getElem hi)
  · have : acc = ys := List.ext_getElem? fun k => by
      cases q : acc[k]? with
      | some y => exact (hE k y q).symm
      | none => exact (List.getElem?_eq_none_iff.mpr (by rw [hy, ← hl]; exact List.getElem?_eq_none_iff.mp q)).symm
    rw [this] at e
    exact hd H s e
end
/-- len of a list or tuple, the written part by its name -/
def rLn (K : PySem.W.Frag) : List V → Hp → VK → Prop := fun xs H Q => ∃ p ys, xs = [V.ref p] ∧ (SqL K H p ys ∨ SqT K H p ys) ∧ Q (.int ys.length) H
theorem call_ln {X : Cx} (K : PySem.W.Frag) (hK : X.K = K := by rfl) : CallR X (.builtin "len") (rLn K) := by
  subst hK
  exact call_len_seq
/-- all([True, ..]) -/
theorem all_true (n : Nat) : (List.replicate n true).all id = true := by
  induction n with
  | zero => rfl
  | succ n ih => rw [List.replicate_succ, List.all_cons, ih]; rfl
theorem map_rep (n : Nat) : (List.replicate n true).map V.bl = List.replicate n (V.bl true) := by rw [List.map_replicate]
theorem rep_at {n i : Nat} {x y : V} (h : (List.replicate n x)[i]? = some y) : y = x := by
  obtain ⟨hl, e⟩ := List.getElem?_eq_some_iff.mp h
  rw [List.getElem_replicate] at e
  exact e.symm
theorem ints_at {ns : List Int} {i : Nat} {x : V} (h : (ns.map V.int)[i]? = some x) : ∃ n, ns[i]? = some n ∧ x = .int n := by
  rw [List.getElem?_map] at h
  cases e : ns[i]? with
  | none => rw [e] at h; cases h
  | some n => rw [e] at h; exact ⟨n, rfl, (Option.some.inj h).symm⟩
end OP
namespace OP
open PySem PySem.Spec PyProof.Rows L2
section
variable {P : Program} {w : World} {K : PySem.W.Frag} {mg : Str → Option Value} {base : Heap}
theorem kit_int {K : PySem.W.Frag} : PySem.W.kitOne K (.type "int") (.type "int") = some true := kit_ty (by decide +kernel)
theorem kit_int_bool {K : PySem.W.Frag} : PySem.W.kitOne K (.type "int") (.type "bool") = some false := kit_ty (by decide +kernel)
theorem kit_tup {K : PySem.W.Frag} : PySem.W.kitOne K (.type "tuple") (.type "tuple") = some true := kit_ty (by decide +kernel)
/-- is_number(n, a, b) of ints -/
def spIsNumber : Sp := fun vs H Q _ => ∃ n a b : Int, vs = [.int n, .int a, .int b] ∧ Q (.bl (decide (a ≤ n) && decide (n ≤ b))) H
theorem scIN : FnScope ["value", "least", "most"] ["value", "least", "most"] (defScope s_is_number) := ⟨rfl, rfl, rfl, by decide +kernel, rfl, by decide +kernel, by decide +kernel⟩
theorem ok_is_number (T : Txt K mg) : Ok P w K mg base (a_is_number K) ["value", "least", "most"] 1 spIsNumber := by
  refine ok_of T.f_is_number scIN (fun _ _ _ _ _ _ us hl => match us, hl with | [_, _, _], _ => rfl) (fun vs H Q E h => ?_) (fun cdv A outer s H vs Q E hr h => ?_)
  · obtain ⟨n, a, b, rfl, _⟩ := h
    rfl
  · obtain ⟨n, a, b, rfl, k⟩ := h
    refine ⟨_, pss_one (ps_ret (pe_and (pe_callB call_isi (by rfl) T.z_isinstance (by decide +kernel) (pa_cons (pv 0) (pa_cons (pe_bltn (v := .ty "int") (by rfl) T.z_int (by decide +kernel) rfl) pa_nil)))
      (pe_and (pe_not (pe_callB call_isi (by rfl) T.z_isinstance (by decide +kernel) (pa_cons (pv 0) (pa_cons (pe_bltn (v := .ty "bool") (by rfl) T.z_bool (by decide +kernel) rfl) pa_nil))))
      (pe_one (pe_chain op_le op_le (pv 1) (pv 0) (pv 2)))))), ?_⟩
    refine ⟨_, rfl, _, _, _, _, true, rfl, .ty "int", .base (.int n), kit_int, true, rfl, iteT ?_⟩
    refine ⟨_, rfl, _, _, _, _, false, rfl, .ty "bool", .base (.int n), kit_int_bool, false, rfl, true, rfl, iteT ?_⟩
    refine ⟨_, rfl, _, rfl, _, _, rfl, rfl, _, rfl, ?_⟩
    by_cases h1 : a ≤ n
    · rw [decide_eq_true h1] at k ⊢
      refine iteT ⟨_, rfl, _, _, rfl, rfl, ?_⟩
      exact k
    · rw [decide_eq_false h1] at k ⊢
      exact iteF k
/-- a store: its values -/
structure StoreOk (xs : List Int) : Prop where
  lo : 1 ≤ xs.length
  hi : xs.length ≤ 3
  each : ∀ x ∈ xs, 0 ≤ x ∧ x ≤ 7
def spIsStore : Sp := fun vs H Q _ => ∃ (a : Addr) (xs : List Int), vs = [.ref a] ∧ H a = some (.tup (xs.map V.int)) ∧ StoreOk xs ∧ ∀ H', Same H H' → Q (.bl true) H'
theorem scIS : FnScope ["store", "value"] ["store"] (defScope s_is_store) := ⟨rfl, rfl, rfl, by decide +kernel, rfl, by decide +kernel, by decide +kernel⟩
theorem ok_is_store (T : Txt K mg) : Ok P w K mg base (a_is_store K) ["store"] 2 spIsStore := by
  have GN : Ok P w K mg base (a_is_number K) _ 1 spIsNumber := ok_is_number T
  obtain ⟨t3, m3⟩ := T.i_MOST_SLOTS
  obtain ⟨u8, cr, cv⟩ := T.modulus
  refine ok_of T.f_is_store scIS (fun _ _ _ _ _ _ us hl => match us, hl with | [_], _ => rfl) (fun vs H Q E h => ?_) (fun cdv A outer s H vs Q E hr h => ?_)
  · obtain ⟨a, xs, rfl, _⟩ := h
    rfl
  · obtain ⟨a, xs, rfl, ha, ⟨lo, hi, each⟩, k⟩ := h
    refine ⟨_, pss_cons (ps_if (PW.pt (pw_or (pt_not (pt_val (pe_callB call_isi (by rfl) T.z_isinstance (by decide +kernel) (pa_cons (pv 0) (pa_cons (pe_bltn (v := .ty "tuple") (by rfl) T.z_tuple (by decide +kernel) rfl) pa_nil)))))
        (pw_or1 (pt_not (pt_chain op_le op_le pe_int (pe_callB call_len_seq (by rfl) T.z_len PySem.boot_len (pa_cons (pv 0) pa_nil)) (pe_glob (v := .int 3) (by rfl) m3 ⟨_, rfl⟩))))))
        (pss_one (ps_ret pe_bl)) pss_nil)
      (pss_one (ps_ret (pe_callB (cr_all rfl) (by rfl) T.z_all (by decide +kernel) (pa_cons (pe_lc (own := [("value", 1)]) (g := gName 1) (tt := tYes) rfl scIS.nd (pi_tup (pv 0)) (blkOk_by (own := [("value", 1)]) (N := ["store", "value"]) (sc := defScope s_is_store) (by decide +kernel))
        (fun _ _ _ _ _ => pg_name (i := 1) scIS.nd rfl (Or.inl rfl)) (fun _ _ _ _ _ => pts_nil)
        (fun _ _ _ _ _ => pe_c GN hr T.g_is_number (pa_cons (pv 1) (pa_cons pe_int (pa_cons (pe_op op_sub (pe_cv K cr cv T.g_Change) pe_int) pa_nil))))) pa_nil)))), ?_⟩
    have hl : (xs.map V.int).length = xs.length := List.length_map ..
    refine ⟨_, rfl, _, _, _, _, true, rfl, .ty "tuple", .base (.tup ha), kit_tup, true, rfl, iteF ?_⟩
    refine ⟨_, rfl, a, _, rfl, .inr (SqT.of ha), _, _, rfl, rfl, true, ?_, iteT ⟨_, _, rfl, rfl, true, ?_, iteF ?_⟩⟩
    · rw [hl]
      exact congrArg V.bl (decide_eq_true (by omega))
    · rw [hl]
      exact congrArg V.bl (decide_eq_true (by omega))
    refine ⟨_, rfl, a, rfl, ⟨_, SqT.of ha⟩, fun D hD => ?_⟩
    refine lcT_map (K := K) (a := a) (xs := xs.map V.int) (List.replicate xs.length (.bl true)) hD (SqT.of ha) (by rw [hl]; omega) (by rw [hl, List.length_replicate]) (fun i x y H' Qe hx hy s1 kk => ?_) fun H' s1 e => ?_
    · obtain ⟨n, hn, rfl⟩ := ints_at hx
      obtain rfl := rep_at hy
      obtain ⟨b1, b2⟩ := each n (List.mem_of_getElem? hn)
      refine ⟨_, rfl, _, _, rfl, rfl, n, 0, 7, rfl, ?_⟩
      rw [decide_eq_true b1, decide_eq_true b2]
      exact kk H' (Same.refl _)
    · refine ⟨D, List.replicate xs.length true, rfl, ?_, ?_⟩
      · rw [map_rep]
        exact SqL.of e
      · rw [all_true]
        exact k H' s1
end
end OP
namespace OP
open PySem PySem.Spec PyProof.Rows L2
section
variable {P : Program} {w : World} {K : PySem.W.Frag} {mg : Str → Option Value} {base : Heap}
def spCheck (most : Int) : Sp := fun vs H Q _ => ∃ n : Int, vs = [.int n] ∧ 0 ≤ n ∧ n ≤ most ∧ Q .non H
theorem scCS : FnScope ["slot"] ["slot"] (defScope s_check_slot) := ⟨rfl, rfl, rfl, by decide +kernel, rfl, by decide +kernel, by decide +kernel⟩
theorem ok_check_slot (T : Txt K mg) : Ok P w K mg base (a_check_slot K) ["slot"] 2 (spCheck 2) := by
  have GN : Ok P w K mg base (a_is_number K) _ 1 spIsNumber := ok_is_number T
  obtain ⟨t3, m3⟩ := T.i_MOST_SLOTS
  refine ok_of T.f_check_slot scCS (fun _ _ _ _ _ _ us hl => match us, hl with | [_], _ => rfl) (fun vs H Q E h => ?_) (fun cdv A outer s H vs Q E hr h => ?_)
  · obtain ⟨n, rfl, _⟩ := h
    rfl
  · obtain ⟨n, rfl, b1, b2, k⟩ := h
    refine ⟨_, pss_one (ps_if (pt_not (pt_val (pe_c GN hr T.g_is_number (pa_cons (pv 0) (pa_cons pe_int (pa_cons (pe_op op_sub (pe_glob (v := .int 3) (by rfl) m3 ⟨_, rfl⟩) pe_int) pa_nil)))))) (pss_one ps_never) pss_nil), ?_⟩
    refine ⟨_, rfl, _, _, rfl, rfl, n, 0, 2, rfl, true, ?_, iteF k⟩
    rw [decide_eq_true b1, decide_eq_true b2] <;> rfl
theorem scCV : FnScope ["value"] ["value"] (defScope s_check_value) := ⟨rfl, rfl, rfl, by decide +kernel, rfl, by decide +kernel, by decide +kernel⟩
theorem ok_check_value (T : Txt K mg) : Ok P w K mg base (a_check_value K) ["value"] 2 (spCheck 7) := by
  have GN : Ok P w K mg base (a_is_number K) _ 1 spIsNumber := ok_is_number T
  obtain ⟨u8, cr, cv⟩ := T.modulus
  refine ok_of T.f_check_value scCV (fun _ _ _ _ _ _ us hl => match us, hl with | [_], _ => rfl) (fun vs H Q E h => ?_) (fun cdv A outer s H vs Q E hr h => ?_)
  · obtain ⟨n, rfl, _⟩ := h
    rfl
  · obtain ⟨n, rfl, b1, b2, k⟩ := h
    refine ⟨_, pss_one (ps_if (pt_not (pt_val (pe_c GN hr T.g_is_number (pa_cons (pv 0) (pa_cons pe_int (pa_cons (pe_op op_sub (pe_cv K cr cv T.g_Change) pe_int) pa_nil)))))) (pss_one ps_never) pss_nil), ?_⟩
    refine ⟨_, rfl, _, _, rfl, rfl, n, 0, 7, rfl, true, ?_, iteF k⟩
    rw [decide_eq_true b1, decide_eq_true b2] <;> rfl
/-- check_store(store, slots) of a store that has all the slots -/
def spCheckStore (K : PySem.W.Frag) : Sp := fun vs H Q _ => ∃ (a l : Addr) (xs ss : List Int), vs = [.ref a, .ref l] ∧ H a = some (.tup (xs.map V.int)) ∧ StoreOk xs ∧ SqL K H l (ss.map V.int) ∧ ss.length ≤ 1000 ∧ (∀ n ∈ ss, n < (xs.length : Int)) ∧ ∀ H', Same H H' → Q .non H'
theorem scCSt : FnScope ["store", "slots", "slot"] ["store", "slots"] (defScope s_check_store) := ⟨rfl, rfl, rfl, by decide +kernel, rfl, by decide +kernel, by decide +kernel⟩
theorem ok_check_store (T : Txt K mg) : Ok P w K mg base (a_check_store K) ["store", "slots"] 3 (spCheckStore K) := by
  have GS : Ok P w K mg base (a_is_store K) _ 2 spIsStore := ok_is_store T
  refine ok_of T.f_check_store scCSt (fun _ _ _ _ _ _ us hl => match us, hl with | [_, _], _ => rfl) (fun vs H Q E h => ?_) (fun cdv A outer s H vs Q E hr h => ?_)
  · obtain ⟨a, l, xs, ss, rfl, _⟩ := h
    rfl
  · obtain ⟨a, l, xs, ss, rfl, ha, ok, hl, hz, hlt, k⟩ := h
    refine ⟨_, pss_one (ps_if (PW.pt (pw_or (pt_not (pt_val (pe_c GS hr T.g_is_store (pa_cons (pv 0) pa_nil))))
      (pw_or1 (pt_not (pt_val (pe_callB (cr_all rfl) (by rfl) T.z_all (by decide +kernel) (pa_cons (pe_lc (own := [("slot", 2)]) (g := gName 2) (tt := tYes) rfl scCSt.nd (pi_list (pv 1)) (blkOk_by (own := [("slot", 2)]) (N := ["store", "slots", "slot"]) (sc := defScope s_check_store) (by decide +kernel))
        (fun _ _ _ _ _ => pg_name (i := 2) scCSt.nd rfl (Or.inl rfl)) (fun _ _ _ _ _ => pts_nil)
        (fun _ _ _ _ _ => pe_cmpR op_lt (pv 2) (pe_callB (call_ln K) (by rfl) T.z_len PySem.boot_len (pa_cons (pv 0) pa_nil)) (nomark _))) pa_nil))))))) (pss_one ps_never) pss_nil), ?_⟩
    refine ⟨_, rfl, a, xs, rfl, ha, ok, fun H1 s1 => ⟨true, rfl, iteF ?_⟩⟩
    refine ⟨_, rfl, l, rfl, ⟨_, s1.seq hl⟩, fun D hD => ?_⟩
    have hm : (ss.map V.int).length = ss.length := List.length_map ..
    refine lcL_map (K := K) (a := l) (xs := ss.map V.int) (List.replicate ss.length (.bl true)) hD (s1.seq hl) (by rw [hm]; exact hz) (by rw [hm, List.length_replicate]) (fun i x y H' Qe hx hy s2 kk => ?_) fun H' s2 e => ?_
    · obtain ⟨n, hn, rfl⟩ := ints_at hx
      obtain rfl := rep_at hy
      refine ⟨_, rfl, _, rfl, a, _, rfl, .inr (SqT.of (s2 _ _ (s1 _ _ ha))), _, _, rfl, rfl, ?_⟩
      show Qe (.bl (decide (n < ((xs.map V.int).length : Int)))) H'
      rw [List.length_map, decide_eq_true (hlt n (List.mem_of_getElem? hn))]
      exact kk H' (Same.refl _)
    · refine ⟨D, List.replicate ss.length true, rfl, ?_, true, ?_, iteF (k H' (s1.trans s2))⟩
      · rw [map_rep]
        exact SqL.of e
      · rw [all_true]
/-- replaced(store, slot, value) -/
def spReplaced : Sp := fun vs H Q _ => ∃ (a : Addr) (xs : List Int) (i : Nat) (n : Int), vs = [.ref a, .int i, .int n] ∧ H a = some (.tup (xs.map V.int)) ∧ xs.length ≤ 3 ∧ i < xs.length ∧ ∀ r H', Same H H' → H' r = some (.tup ((xs.set i n).map V.int)) → Q (.ref r) H'
theorem set_cut {xs : List Int} {i : Nat} {n : Int} (h : i < xs.length) : xs.set i n = xs.take i ++ n :: xs.drop (i + 1) := List.set_eq_take_append_cons_drop.trans (if_pos h)
theorem cut_lo {xs : List Int} {i : Nat} (h : i < xs.length) : cutV (xs.map V.int) none (some (i : Int)) = (xs.take i).map V.int := by
  unfold cutV
  rw [HT.sIx_none, HT.sIx_nat, List.length_map, List.drop_zero, Nat.sub_zero, List.map_take, Nat.min_eq_left (Nat.le_of_lt h)]
theorem cut_hi {xs : List Int} {i : Nat} (h : i ≤ xs.length) : cutV (xs.map V.int) (some (i : Int)) none = (xs.drop i).map V.int := by
  unfold cutV
  rw [HT.sIx_none, HT.sIx_nat, List.length_map, Nat.min_eq_left h, List.map_drop, List.take_of_length_le]
  rw [List.length_drop, List.length_map]
  exact Nat.le_refl _
theorem scRe : FnScope ["store", "slot", "value"] ["store", "slot", "value"] (defScope s_replaced) := ⟨rfl, rfl, rfl, by decide +kernel, rfl, by decide +kernel, by decide +kernel⟩
theorem ok_replaced (T : Txt K mg) : Ok P w K mg base (a_replaced K) ["store", "slot", "value"] 1 spReplaced := by
  refine ok_of T.f_replaced scRe (fun _ _ _ _ _ _ us hl => match us, hl with | [_, _, _], _ => rfl) (fun vs H Q E h => ?_) (fun cdv A outer s H vs Q E hr h => ?_)
  · obtain ⟨a, xs, i, n, rfl, _⟩ := h
    rfl
  · obtain ⟨a, xs, i, n, rfl, ha, h3, hi, k⟩ := h
    refine ⟨_, pss_one (ps_ret (pe_op op_catA (pe_op op_catA (pe_slice sl_tupA (pv 0) po_none (po_some (pv 1))) (pe_tup (pa_cons (pv 2) pa_nil))) (pe_slice sl_tupA (pv 0) (po_some (pe_op op_add (pv 1) pe_int)) po_none))), ?_⟩
    refine ⟨_, rfl, _, rfl, i, rfl, a, _, rfl, SqT.of ha, fun q => ?_, fun _ p hp => ?_⟩
    · rw [HT.sIx_nat, List.length_map, Nat.min_eq_left (Nat.le_of_lt hi)] at q
      omega
    rw [cut_lo hi]
    have s1 : Same H _ := same_upd (o := .tup ((xs.take i).map V.int)) hp
    refine ⟨_, rfl, (by show 1 ≤ sizeLine; decide), fun t ht => ?_⟩
    have s2 := s1.push (o := .tup [V.int n]) ht
    have hp2 : upd (upd H p (.tup ((xs.take i).map V.int))) t (.tup [V.int n]) p = some (.tup ((xs.take i).map V.int)) := by rw [upd_ne (ne_of_none upd_same ht)]; exact upd_same
    have e1 : ((xs.take i).map V.int).length + [V.int n].length ≤ sizeLine := by
      rw [List.length_map, List.length_take]
      exact Nat.le_trans (show _ ≤ 4 from by simp; omega) (by decide)
    have fin : ∀ (r : Addr) (H3 : Hp), Same H H3 → H3 r = some (.tup ((xs.take i ++ [n]).map V.int)) → tSl (rSlA K) (tVar 0) (tPart (tOp (rI0 fun i j => .int (i + j)) (tVar 1) (tC (.int 1)))) tNoPart (start ["store", "slot", "value"] [.ref a, .int i, .int n]) H3 (fun y H4 => rCatA K (.ref r) y H4 Q) := by
      intro r H3 s3 e3
      refine ⟨_, rfl, _, rfl, _, _, rfl, rfl, _, rfl, a, _, rfl, SqT.of (s3 _ _ ha), fun q => ?_, fun _ p2 hp2' => ?_⟩
      · have q1 := q.1
        rw [show ((i : Int) + 1) = ((i + 1 : Nat) : Int) from rfl, HT.sIx_nat, List.length_map] at q1
        omega
      rw [show ((i : Int) + 1) = ((i + 1 : Nat) : Int) from rfl, cut_hi (Nat.succ_le_of_lt hi)]
      have e4 : upd H3 p2 (.tup ((xs.drop (i + 1)).map V.int)) r = some (.tup ((xs.take i ++ [n]).map V.int)) := by rw [upd_ne (ne_of_none e3 hp2')]; exact e3
      have s4 := s3.push (o := .tup ((xs.drop (i + 1)).map V.int)) hp2'
      refine ⟨r, p2, _, _, rfl, rfl, SqT.of e4, SqT.of upd_same, ?_, fun z => ?_, fun _ z => ?_, fun _ _ p3 hp3 => ?_⟩
      · rw [List.length_map, List.length_map, List.length_append, List.length_take, List.length_drop]
        exact Nat.le_trans (show _ ≤ 10 from by simp; omega) (by decide)
      · have := congrArg List.length z
        simp at this
      · refine k r _ s4 ?_
        have z2 : xs.drop (i + 1) = [] := List.map_eq_nil_iff.mp z
        rw [set_cut hi, show xs.take i ++ n :: xs.drop (i + 1) = xs.take i ++ [n] by rw [z2]]
        exact e4
      · refine k p3 _ (s4.push hp3) ?_
        rw [upd_same, set_cut hi, ← List.map_append, List.append_assoc] <;> rfl
    refine ⟨p, t, _, _, rfl, rfl, SqT.of hp2, SqT.of upd_same, e1, fun z => ?_, fun _ z => ?_, fun _ _ p3 hp3 => ?_⟩
    · have z2 : xs.take i = [] := List.map_eq_nil_iff.mp z
      exact fin t _ s2 (by rw [z2]; exact upd_same)
    · cases z
    · refine fin p3 _ (s2.push hp3) ?_
      rw [upd_same, List.map_append] <;> rfl
end
end OP
namespace OP
open PySem PySem.Spec PyProof.Rows GenW L2
/-! a for in a generator's body: what it hands out stands in ys -/
def tGFor (wi : TI) (g : TG) (tb : TGn) : TGn := fun D ys σ H => wi σ H fun J H1 => ∃ W : Nat → Nat → List V → L2.St → Hp → Prop, (∃ m, W 0 m ys σ H1) ∧ ∀ i m ys σ H, W i m ys σ H →
  (J.stop i H ∧ D.nx ys σ H) ∨ (J.go i H ∧ ∃ N : List V → L2.St → Hp → Prop, (∀ ys' σ' H', N ys' σ' H' → ∃ m', m' < m ∧ W (i + 1) m' ys' σ' H') ∧
    ∀ x H', J.yld i H x H' → g x σ H' fun σ2 H2 => tb { D with nx := N, ct := N, bk := D.nx } ys σ2 H2)
section
variable {X : Cx}
theorem gs_for {tg iter : Expr} {body : List Stmt} {pos : Pos} {wi : TI} {g : TG} {tb : TGn} (hp : PassesOwn (model X.prog X.w) X.A X.env X.xe) (hc : X.calm = true) (hi : PI X tg iter wi) (hg : PG X tg g) (hb : GSs X body tb)
    (hs : ∀ x, foldedSetIterable iter X.env x = pure x := by intro _; rfl) : GS X (.For tg iter body [] pos) (tGFor wi g tb) := by
  refine ⟨fun A S ip R n ys s₀ c fs K J gd lv s σ H D gc hn k hI ht => ?_⟩
  obtain ⟨acc, cc, r, I⟩ := hI
  rw [exec_For]
  refine seg_bind_wrap (wpAny_standAt ?_)
  refine seg_bind_wrap ?_
  rw [gc.over]
  refine wpAny_mono (hi.run _ s σ H _ I ht) (fun v s1 h1 => ?_) fun x s' hx => k.exc n s₀ x s' hx
  refine seg_bind_wrap (wpAny_of_eq (hs v) ?_)
  refine seg_bind_wrap (wpAny_standAt ?_)
  refine seg_bind_wrap (wpAny_holding ?_)
  rw [gc.over]
  refine wpAny_mono h1 (fun itv s2 h2 => ?_) fun x s' hx => k.exc n s₀ x s' hx
  obtain ⟨it, fp, tn, Jt, H2, rfl, I2, T, st2, f2, W, ⟨m0, w0⟩, turn⟩ := h2
  show Seg _ _ _ _ n s₀ c ((runOwn (.forLoop tg (.ref it) body [] X.env) X.env).wrap K J gd lv) fs s2
  refine seg_call fun p => ?_
  -- the iterator's objects: apart from the consumer's list, from all else
  have hSfp : ∀ b ∈ fp, S ≠ b := fun b hb => (f2 b hb).2.2.2.2.2 (S, lstObj acc cc) (List.mem_append_right _ List.mem_cons_self)
  have stat : ∀ {H' : Hp} (ac : Array Value) (cn : Nat), (∀ b ∈ fp, H' b = none) → ∀ b ∈ fp, FpOk X ((S, lstObj ac cn) :: ip) H' b := fun {H'} ac cn hz b hb => by
    obtain ⟨_, q1, q2, q3, q4, q5⟩ := f2 b hb
    refine ⟨hz b hb, q1, q2, q3, q4, fun q hq => ?_⟩
    rcases List.mem_append.mp hq with z | z
    · exact q5 q (List.mem_append_left _ z)
    · rcases List.mem_cons.mp z with z | z
      · rw [z]; exact hSfp b hb
      · exact q5 q (List.mem_append_right _ (List.mem_cons_of_mem _ z))
  have gl := fun (kk : Result → Sem PySem.Fin) => gc_loop (k := kk) (c' := .forLoop tg (.ref it) body [] X.env) (l := lv []) (kp := []) (p := p) gc rfl rfl
  have loop : ∀ (m n i : Nat) (ys : List V) (s₀ s : Shared) (σ : L2.St) (H : Hp), n + ys.length = sizeLine → W i m ys σ H → GI X S ip ys σ H s → tn i s.heap → (∀ b ∈ fp, H b = none) →
      Seg (model X.prog X.w) A R (GY X S) n s₀ (.forLoop tg (.ref it) body [] X.env) ((model X.prog X.w).den (.forLoop tg (.ref it) body [] X.env))
        (.ret (fun r => ((match r with | .ok f => (.pure f : Sem Flow) | .error e => .raise e).onRaise (cameBack X.env)).wrap K J gd lv) none (gd false) (lv []) c p [] :: fs) s := by
    intro m
    induction m using Nat.strongRecOn with
    | ind m ih =>
      intro n i ys s₀ s σ H hn w hI hst hfr
      have ee : ∀ (n : Nat) (s₀ : Shared) (x : Value) (s' : Shared), X.xe x s' → Seg (model X.prog X.w) A R (GY X S) n s₀ (.forLoop tg (.ref it) body [] X.env)
          ((do noteFrame x X.env; theTreesLotGoes x : Sem Unit).bind fun _ => .raise x)
          (.ret (fun r => ((match r with | .ok f => (.pure f : Sem Flow) | .error e => .raise e).onRaise (cameBack X.env)).wrap K J gd lv) none (gd false) (lv []) c p [] :: fs) s' := fun n s₀ x s' hx => by
        rw [Sem.bind_eq_wrap]
        refine seg_wrap ?_
        rw [(gl _).over]
        refine wpAny_bind (wpAny_mono (hp x s' hx) (fun _ s'' hcb => wpAny_theTreesLotGoes ?_) fun y s'' hcb => ?_)
        · exact seg_leaf (.error x) (seg_cameBack gc k hcb)
        · exact seg_leaf (.error y) (seg_cameBack gc k hcb)
      show Seg _ A R _ n s₀ _ ((forTurn tg (.ref it) body [] X.env).onRaise (fun x => do noteFrame x X.env; theTreesLotGoes x)) _ s
      rw [Sem.onRaise_eq_wrap]
      unfold forTurn
      refine seg_bind_wrap (wpAny_standAt ?_)
      refine seg_bind_wrap (wpAny_onRaise ?_)
      rw [(gl _).over]
      obtain ⟨acc, cc, r, I⟩ := hI
      rcases turn i m ys σ H w with ⟨stop, qn⟩ | ⟨go, N, hN, step⟩
      · refine wpAny_mono (T.done X rfl rfl rfl hc i _ s σ H X.xe I (stat acc cc hfr) hst stop) (fun r4 s4 h4 => ?_) fun x s' hx => wpAny_standAt (ee n s₀ x s' hx)
        obtain ⟨rfl, I4⟩ := h4
        refine seg_again rfl ?_
        show Seg _ A R _ n s₀ _ (leafOf (.ok .next)) _ s4
        exact seg_leaf (.ok .next) (k.ok n ys s₀ s4 .next hn ⟨σ, H, ⟨acc, cc, r, I4⟩, qn⟩)
      · refine wpAny_mono (T.item X rfl rfl rfl hc i _ s σ H X.xe I (stat acc cc hfr) hst go) (fun r4 s4 h4 => ?_) fun x s' hx => wpAny_standAt (ee n s₀ x s' hx)
        obtain ⟨u, rfl, h4⟩ := h4
        refine seg_bind_wrap ?_
        rw [(gl _).over]
        refine wpAny_mono h4 (fun _ s5 h5 => ?_) fun x s' hx => ee n s₀ x s' hx
        obtain ⟨x, H5, I5, r5, y5, st5, fr5⟩ := h5
        have I5' := I5.pinned (stat acc cc fr5) (T.obj _ _ st5)
        refine seg_bind_wrap ?_
        rw [(gl _).over]
        refine wpAny_mono (hg.run _ s5 σ H5 x u _ I5' r5 (step x H5 y5)) (fun _ s6 h6 => ?_) fun x s' hx => ee n s₀ x s' hx
        obtain ⟨σ6, H6, I6, q6⟩ := h6
        rw [Sem.bind_eq_wrap', Sem.wrap_wrap]
        have hip : ∀ q ∈ ip ++ pinsAt fp s5.heap, q.1 ≠ S := fun q hq => by
          rcases List.mem_append.mp hq with z | z
          · exact gc.ip q z
          · exact fun e => hSfp q.1 (of_pinsAt z).1 e.symm
        refine hb.run A S (ip ++ pinsAt fp s5.heap) R n ys s₀ _ _ _ _ _ _ s6 σ6 H6 { D with nx := N, ct := N, bk := D.nx } ⟨gc.pn, hip, gc.apart, (gl _).over, (gl _).split, (gl _).guard, rfl⟩ hn
          ⟨fun n' ys' s₀' s7 f hn' hs7 => ?_, fun n' s₀' x s7 hx => ?_⟩ ⟨acc, cc, r, I6⟩ q6
        · have unp : ∀ {σ7 : L2.St} {H7 : Hp}, GI X S (ip ++ pinsAt fp s5.heap) ys' σ7 H7 s7 → GI X S ip ys' σ7 H7 s7 ∧ tn (i + 1) s7.heap ∧ ∀ b ∈ fp, H7 b = none := fun {σ7 H7} ⟨ac, cn, rv, I7⟩ => by
            refine ⟨⟨ac, cn, rv, I7.pins_of fun q hq => I7.pin q (List.mem_append_right _ ?_)⟩, ?_, ?_⟩
            · rcases List.mem_cons.mp hq with z | z
              · rw [z]; exact List.mem_cons_self
              · exact List.mem_cons_of_mem _ (List.mem_append_left _ z)
            · exact T.keep _ _ _ st5 fun b hb o e => (I7.pin (b, o) (List.mem_append_right _ (List.mem_cons_of_mem _ (List.mem_append_right _ (mem_pinsAt hb e))))).1
            · intro b hb
              obtain ⟨o, e, d⟩ := T.obj _ _ st5 b hb
              exact (I7.pin (b, o) (List.mem_append_right _ (List.mem_cons_of_mem _ (List.mem_append_right _ (mem_pinsAt hb e))))).2.1
          cases f with
          | next =>
            obtain ⟨σ7, H7, I7, n7⟩ := hs7
            obtain ⟨m', hm, w7⟩ := hN ys' σ7 H7 n7
            obtain ⟨I7', t7, f7⟩ := unp I7
            exact seg_again rfl (ih m' hm n' (i + 1) ys' s₀' s7 σ7 H7 hn' w7 I7' t7 f7)
          | cont =>
            obtain ⟨σ7, H7, I7, n7⟩ := hs7
            obtain ⟨m', hm, w7⟩ := hN ys' σ7 H7 n7
            obtain ⟨I7', t7, f7⟩ := unp I7
            exact seg_again rfl (ih m' hm n' (i + 1) ys' s₀' s7 σ7 H7 hn' w7 I7' t7 f7)
          | brk =>
            obtain ⟨σ7, H7, I7, n7⟩ := hs7
            exact seg_leaf (.ok .next) (k.ok n' ys' s₀' s7 .next hn' ⟨σ7, H7, (unp I7).1, n7⟩)
          | ret v =>
            obtain ⟨z, σ7, H7, I7, rz, n7⟩ := hs7
            exact seg_leaf (.ok (.ret v)) (k.ok n' ys' s₀' s7 (.ret v) hn' ⟨z, σ7, H7, (unp I7).1, rz, n7⟩)
        · exact ee n' s₀' x s7 hx
  exact loop m0 n 0 ys s₀ s2 σ H2 hn w0 ⟨acc, cc, r, I2⟩ st2 fun b hb => (f2 b hb).1
end
end OP
namespace OP
open PySem PySem.Spec PyProof.Rows L2
theorem vals_each : ∀ {xs : List V} {us : List Value}, Vals xs us → PySem.W.EachIs (fun (u : Value) (x : V) => RelV x u) us xs
  | _, _, .nil => .nil
  | _, _, .cons r t => .cons r (vals_each t)
theorem each_vals : ∀ {us : List Value} {xs : List V}, PySem.W.EachIs (fun (u : Value) (x : V) => RelV x u) us xs → Vals xs us
  | _, _, .nil => .nil
  | _, _, .cons r t => .cons r (each_vals t)
/-- each key that is out is the key of its item -/
def KeysAt (K : PySem.W.Frag) (keyOf : V → PyData) (H : Hp) (ys : List V) (xs : List V) : Prop := PySem.W.EachIs (fun y x => Dp K H y (keyOf x)) ys xs
mutual
theorem Dp_mono {K : PySem.W.Frag} {H H' : Hp} (e : Same H H') : ∀ (d : PyData) (v : V), Dp K H v d → Dp K H' v d
  | .none, _, h => by cases h; exact .non
  | .bool b, _, h => by cases h; exact .bl b
  | .int i, _, h => by cases h; exact .int i
  | .str x, _, h => by cases h; exact .str x
  | .list ds, _, h => by
    cases h with
    | lst a b => exact .lst (e.seq a) (DpAll_mono e ds _ b)
  | .tuple ds, _, h => by
    cases h with
    | tup a b => exact .tup (SqT.ext a e) (DpAll_mono e ds _ b)
  | .dict _, _, h => by cases h
theorem DpAll_mono {K : PySem.W.Frag} {H H' : Hp} (e : Same H H') : ∀ (ds : List PyData) (vs : List V), DpAll K H vs ds → DpAll K H' vs ds
  | [], _, h => by cases h; exact .nil
  | d :: ds, _, h => by
    cases h with
    | cons a b => exact .cons (Dp_mono e d _ a) (DpAll_mono e ds _ b)
end
section
variable {X : Cx} {pins : List (Addr × Obj)} {σ : L2.St} {H : Hp} {s : Shared}
/-- the heap without the object at k -/
theorem freed_none (h : Heap) (k : Addr) : (h.update k fun o => { o with data := .freed }).get? k = none := by
  unfold Heap.get? Heap.update
  cases e : h.objs[k]? with
  | none =>
    have q : (h.objs.modify k fun o => { o with data := .freed })[k]? = none := by simp [Array.getElem?_modify, e]
    simp only [q]
  | some o =>
    have q : (h.objs.modify k fun o => { o with data := .freed })[k]? = some { o with data := .freed } := by simp [Array.getElem?_modify, e]
    simp only [q]
/-- an object that only the call knows (kS, pinned) is written; what it held is told anew -/
theorem repin {kS : Addr} {o o' : Obj} {h2 : Heap} {t2 : Nat} (I : Inv X ((kS, o) :: pins) σ H s) (hk : ∀ b u, b ≠ kS → s.heap.get? b = some u → h2.get? b = some u) (ho : h2.get? kS = some o') (hd : ∀ v, o'.data ≠ .cell v)
    (hy : X.s_0.heap.objs.size ≤ kS) (hc : ∀ x c, X.env.cells.lookup x = some c → c ≠ kS) (hp : ∀ p ∈ X.pn ++ pins, p.1 ≠ kS) : Inv X ((kS, o') :: pins) σ H { s with heap := h2, toks := t2 } := by
  obtain ⟨_, n0, nl, nf, _⟩ := I.pin (kS, o) (List.mem_append_right _ List.mem_cons_self)
  have J : Inv X pins σ H { s with heap := h2, toks := t2 } := (ClX.unpin I).turned hk n0 nl (.inr hy) hc hp
  refine J.pins_of fun p hp' => ?_
  rcases List.mem_cons.mp hp' with e | e
  · rw [e]
    exact ⟨ho, n0, nl, nf, hd⟩
  · exact J.pin p (List.mem_append_right _ e)
/-- sorted(xs, key=f): f's call gives each item its key, and leaves all that stands -/
theorem sorted_by {l f : Addr} {fo : Obj} {xs : List V} {Q : VK} {E : Value → Shared → Prop} (keyOf : V → PyData) (I : Inv X pins σ H s) (hx : SqL X.K H l xs) (hfo : (f, fo) ∈ pins) (hal : PySem.W.AllAlike (xs.map keyOf)) (hsk : PySem.W.Sortable (xs.map keyOf))
    (hu : ∀ d, d ∈ xs.map keyOf → X.A.in1.in1.units + d.depth < cLine)
    (turn : ∀ (i : Nat) (x : V) (u : Value) (pins' : List (Addr × Obj)) (H' : Hp) (s' : Shared), xs[i]? = some x → Same H H' → Inv X pins' σ H' s' → (f, fo) ∈ pins' → RelV x u →
      wpAny (model X.prog X.w) X.A.in1.in1 (call (.ref f) [u]) (EP X pins' σ fun y H2 => Same H' H2 ∧ Dp X.K H2 y (keyOf x)) (fun _ _ => False) s')
    (h : ∀ a H', H' a = none → Same H H' → Q (.ref a) (upd H' a (.lst (xs.mergeSort (PySem.W.dataLe false keyOf))))) :
    wpAny (model X.prog X.w) X.A (call (.builtin "sorted") [.ref l] [(Str.ofString "key", .ref f)]) (EP X pins σ Q) E s := by
  obtain ⟨its, rv, hl, hz⟩ := I.list hx
  have hzi : its.length ≤ sizeLine := by rw [← rv.length]; exact hz
  refine PySem.W.sorted_of_sort hl.isList hzi (ksk_s1 _ _) (fun a => ksk_l1 _ _) fun E' => ?_
  rw [ksk_t1]
  have old : ∀ b o, s.heap.get? b = some o → (PySem.W.sortingHeap (PySem.W.copyHeap s.heap its) (s.heap.objs.size + 1) its).get? b = some o := fun b o e => PySem.W.sorting_copy_old e
  have hcp := PySem.W.copyHeap_at s.heap its
  unfold ksk_tree
  refine wpAny_bind (listItems_at hcp rfl ?_)
  refine wpAny_bind (listUpdate_at hcp rfl ?_ (by rw [List.size_toArray]; exact hzi) (Nat.zero_le _))
  obtain ⟨e1, ho1⟩ : ∃ e1, ((PySem.W.copyHeap s.heap its).update (s.heap.objs.size + 1) (Obj.mapSeq fun _ => (#[] : Array Value))).get? (s.heap.objs.size + 1) = some (seqObj "list" #[] e1) := ⟨_, get?_update_seq hcp fun _ => #[]⟩
  refine wpAny_bind (seqEpoch_at ho1 rfl ?_)
  refine wpAny_bind (wpAny_newTuple ?_ (by show its.length ≤ _; exact hzi))
  refine wpAny_bind (wpAny_newList ?_ (Nat.zero_le _))
  refine wpAny_holding ?_
  generalize hA : s.heap.objs.size + 1 = a at *
  have hszc : (PySem.W.copyHeap s.heap its).objs.size = s.heap.objs.size + 2 := by
    unfold PySem.W.copyHeap
    rw [size_push', Heap.size_update, size_push']
  generalize hK : (((PySem.W.copyHeap s.heap its).update a (Obj.mapSeq fun _ => (#[] : Array Value))).push (seqObj "tuple" its.toArray 0)).objs.size = kS
  have hKv : kS = s.heap.objs.size + 3 := by rw [← hK, size_push', Heap.size_update, hszc]
  have hka : kS ≠ a := by omega
  show wpAny _ _ _ _ _ { s with heap := PySem.W.sortingHeap (PySem.W.copyHeap s.heap its) a its }
  have na0 : (PySem.W.sortingHeap (PySem.W.copyHeap s.heap its) a its).get? a = some (seqObj "list" #[] e1) := Heap.get?_push_of_some _ (Heap.get?_push_of_some _ ho1)
  have nk0 : (PySem.W.sortingHeap (PySem.W.copyHeap s.heap its) a its).get? kS = some (seqObj "list" #[] 0) := by
    rw [← hK]
    exact Heap.get?_push_size _ rfl
  -- the emptied copy and the keys' list are pinned
  have younger : ∀ q : Addr, s.heap.objs.size ≤ q → X.s_0.heap.objs.size ≤ q ∧ q ≠ X.env.locals ∧ (∀ x c, X.env.cells.lookup x = some c → c ≠ q) ∧ ∀ p ∈ X.pn ++ pins, p.1 ≠ q := fun q hq => by
    refine ⟨Nat.le_trans I.sz hq, Nat.ne_of_gt (Nat.lt_of_lt_of_le I.lt hq), fun x c e z => ?_, fun p hp z => ?_⟩
    · obtain ⟨v, q2⟩ := I.cell x c e
      exact Nat.lt_irrefl _ (Nat.lt_of_lt_of_le q2.lt (z ▸ hq))
    · exact Nat.lt_irrefl _ (Nat.lt_of_lt_of_le (Heap.lt_size (I.pin p hp).1) (z ▸ hq))
  have ya := younger a (by omega)
  have yk := younger kS (by omega)
  have I0 := ClX.pin_new (t' := s.toks) I old (show s.heap.objs.size ≤ a by omega) na0 (fun v q => by cases q)
  have I1 : Inv X ((kS, seqObj "list" #[] 0) :: (a, seqObj "list" #[] e1) :: pins) σ H { s with heap := PySem.W.sortingHeap (PySem.W.copyHeap s.heap its) a its } := by
    refine I0.pins_of fun p hp => ?_
    rcases List.mem_cons.mp hp with e | e
    · rw [e]
      exact ⟨nk0, I.hok.fresh (by omega), yk.2.1, I.nofs (by omega), fun v q => by cases q⟩
    · exact I0.pin p (List.mem_append_right _ e)
  have hpk : ∀ p ∈ X.pn ++ (a, seqObj "list" #[] e1) :: pins, p.1 ≠ kS := fun p hp => by
    rcases List.mem_append.mp hp with z | z
    · exact yk.2.2.2 p (List.mem_append_left _ z)
    · rcases List.mem_cons.mp z with z | z
      · rw [z]; exact hka.symm
      · exact yk.2.2.2 p (List.mem_append_right _ z)
  unfold ksk_rest
  refine wpAny_bind (wpAny_rule ?_)
  rw [List.forIn_toArray]
  refine wpAny_bind (ksk_fold (fun i s1 => ∃ H1 kA n ys, Inv X ((kS, seqObj "list" kA n) :: (a, seqObj "list" #[] e1) :: pins) σ H1 s1 ∧ Same H H1 ∧ Vals ys kA.toList ∧ KeysAt X.K keyOf H1 ys (xs.take i)) its 0 _ ⟨_, #[], 0, [], I1, Same.refl _, .nil, .nil⟩ ?step ?done)
  case step =>
    rintro j u s1 hj ⟨H1, kA, n, ys, J, sm, ry, ky⟩
    rw [Nat.zero_add] at ky
    obtain ⟨x, hxj, rx⟩ : ∃ x, xs[j]? = some x ∧ RelV x u := by
      have hlt : j < xs.length := by rw [rv.length]; exact (List.getElem?_eq_some_iff.mp hj).1
      obtain ⟨u', e1, e2⟩ := rv.get (List.getElem?_eq_getElem hlt)
      rw [hj] at e1
      cases e1
      exact ⟨_, List.getElem?_eq_getElem hlt, e2⟩
    refine wpAny_bind (wpAny_attempt (wpAny_mono (turn j x u _ H1 s1 hxj sm J (List.mem_cons_of_mem _ (List.mem_cons_of_mem _ hfo)) rx) (fun v s2 hv => ?_) fun _ _ z => z.elim))
    obtain ⟨y, H2, J2, ryv, s12, dy⟩ := hv
    have nk2 : s2.heap.get? kS = some (seqObj "list" kA n) := ClX.pin_at J2
    have hsz3 : kA.size < xs.length := by
      have q3 : j < xs.length := (List.getElem?_eq_some_iff.mp hxj).1
      rw [← Array.length_toList, ← ry.length, show ys.length = (xs.take j).length from ky.length, List.length_take, Nat.min_eq_left (Nat.le_of_lt q3)]
      exact q3
    have hsz2 : kA.size ≤ sizeLine := Nat.le_trans (Nat.le_of_lt hsz3) hz
    refine wpAny_bind (listUpdate_at nk2 rfl ?_ hsz2 (by rw [Array.size_push]; omega))
    obtain ⟨c2, hc2⟩ : ∃ c2, (s2.heap.update kS (Obj.mapSeq (·.push v))).get? kS = some (seqObj "list" (kA.push v) c2) := ⟨_, get?_update_seq nk2 (·.push v)⟩
    have J3 := repin (t2 := s2.toks) (h2 := s2.heap.update kS (Obj.mapSeq (·.push v))) J2 (fun b o hb e => (Heap.get?_update_other _ _ (Ne.symm hb)).trans e) hc2 (fun v q => by cases q) yk.1 yk.2.2.1 hpk
    refine wpAny_pure ⟨rfl, H2, kA.push v, c2, ys ++ [y], J3, sm.trans s12, ?_, ?_⟩
    · rw [Array.toList_push]
      exact ry.append (.cons ryv .nil)
    · rw [Nat.zero_add, List.take_add_one, hxj]
      exact PySem.W.each_snoc (R := fun y x => Dp X.K H2 y (keyOf x)) dy (ky.mono fun y' x' q => Dp_mono s12 _ _ q)
  case done =>
    rintro s1 ⟨H1, kA, n, ys, J, sm, ry, ky⟩
    have et : xs.take (0 + its.length) = xs := List.take_of_length_le (by rw [rv.length]; omega)
    rw [et] at ky
    have hks : kA.size = its.length := by
      rw [← Array.length_toList, ← ry.length, ← rv.length]
      exact ky.length
    have nk1 : s1.heap.get? kS = some (seqObj "list" kA n) := ClX.pin_at J
    obtain ⟨na1, Ha, _, hfa, _⟩ := J.pin (a, seqObj "list" #[] e1) (List.mem_append_right _ (List.mem_cons_of_mem _ List.mem_cons_self))
    obtain ⟨_, Hk, _, hfk, _⟩ := J.pin (kS, seqObj "list" kA n) (List.mem_append_right _ List.mem_cons_self)
    refine wpAny_bind (listItems_at nk1 rfl ?_)
    have hkd : PySem.W.EachIs (fun v d => ∃ as, Reads s1.heap v d as) kA.toList (xs.map keyOf) := by
      have go : ∀ {ys : List V} {us : List Value} {xs : List V}, Vals ys us → KeysAt X.K keyOf H1 ys xs → PySem.W.EachIs (fun v d => ∃ as, Reads s1.heap v d as) us (xs.map keyOf) := by
        intro ys us xs r k
        induction k generalizing us with
        | nil => cases r; exact .nil
        | cons d _ ih =>
          cases r with
          | cons rr rt => exact .cons (Dp.reads J _ _ _ d rr) (ih rt)
      exact go ry ky
    have SA := PySem.W.SortsAt.data (prog := X.prog) (w := X.w) (A := X.A.in1.in1) (s := s1) hkd hal hsk hu
    have hlen : kA.toList.length = (xs.map keyOf).length := by rw [Array.length_toList, hks, List.length_map, rv.length]
    refine PySem.W.keyH_end (κ := PySem.W.dataKind s1.heap (xs.map keyOf)) (h₁ := s1.heap.update kS fun o => { o with data := .freed }) (fun b o hb e => ?_) (freed_none _ _) nk1 na1 hka SA hks hzi fun h3 t3 c3 k3 n3 => ⟨rfl, ?_⟩
    · by_cases hbk : b = kS
      · rw [hbk, freed_none] at e
        cases e
      · rw [Heap.get?_update_other _ _ (Ne.symm hbk)] at e
        exact e
    have k4 : ∀ b o, b ≠ a → b ≠ kS → s1.heap.get? b = some o → h3.get? b = some o := fun b o h1 h2 e => k3 b o h1 (by rw [Heap.get?_update_other _ _ (Ne.symm h2)]; exact e)
    have ko : PySem.W.KeyedOut false (xs.map keyOf) its (PySem.W.sortVals (PySem.W.dataKind s1.heap (xs.map keyOf)) false kA.toList its) := ⟨s1.heap, kA.toList, hal, rfl, hkd⟩
    have ev := each_vals (PySem.W.keyedOut_each keyOf ko (vals_each rv))
    have J0 : Inv X pins σ H1 s1 := ClX.unpin (ClX.unpin J)
    have nt : ∀ b u, H1 b = some u → b ≠ a ∧ b ≠ kS := fun b u e => ⟨(fun z => by rw [z, Ha] at e; cases e), (fun z => by rw [z, Hk] at e; cases e)⟩
    refine ⟨.ref a, upd H1 a (.lst (xs.mergeSort (PySem.W.dataLe false keyOf))), ?_, rfl, h a H1 Ha sm⟩
    refine J0.step (g' := s1.gens) (d' := s1.drawn) (ch := [kS, a]) (fun b hb => ?_) (fun b o _ _ hc e _ => k4 b o (fun z => hc (by simp [z])) (fun z => hc (by simp [z])) e)
      (fun b o _ _ hc e _ => ⟨o.slots, k4 b o (fun z => hc (by simp [z])) (fun z => hc (by simp [z])) e⟩) (fun b o hc e n => by rw [upd_ne (fun z => hc (by simp [z]))]; exact n) (fun b o hc e => ⟨o, k4 b o (fun z => hc (by simp [z])) (fun z => hc (by simp [z])) e⟩)
      (fun b zs e => by rw [upd_ne (nt b _ e).1]; exact e) (fun b o u e => by rw [upd_ne (nt b _ e).1]; exact e) (fun b ps e => ⟨#[], by rw [upd_ne (nt b _ e).1, e]; simp⟩) (fun m hm => ?_) (fun b u e => ?_) J0.bare
    · rcases List.mem_cons.mp hb with z | z
      · rw [z]; exact ⟨.inr yk.1, yk.2⟩
      · rw [List.mem_singleton.mp z]; exact ⟨.inr ya.1, ya.2⟩
    · obtain ⟨ob, es, ep, ho, r⟩ := hm
      exact ⟨ob, es, ep, k4 _ ob ya.2.1.symm yk.2.1.symm ho, r⟩
    · by_cases hb : b = a
      · rw [hb, upd_same] at e
        cases e
        rw [hb]
        exact ⟨by rw [List.length_mergeSort]; exact hz, _, c3, ev, n3⟩
      · rw [upd_ne hb] at e
        refine (J0.hok b u e).stay (fun d v hd q => k4 d v ?_ ?_ q) (fun d q => by rw [upd_ne (nt d _ q).1]; exact q) fun d zs q => by rw [upd_ne (nt d _ q).1]; exact q
        · rcases hd with z | z
          · rw [z]; exact hb
          · exact (nt d _ z).1
        · rcases hd with z | z
          · rw [z]; exact (nt b _ e).2
          · exact (nt d _ z).2
end
end OP
namespace OP
open PySem PySem.Spec PyProof.Rows L2 LamX
/-- a lambda of one parameter a: no other name of its own; it may capture -/
structure Lam1 (sc scope : Scope) (a : Str) : Prop where
  kind : scope.kind = .function
  co : scope.isCoroutine = false
  gen : scope.isGenerator = false
  cell : ∀ y ∈ scope.names, y.2 ≠ .cell
  loc : ∀ y ∈ scope.names, y.2 = .local → y.1 = a
  par : scope.names.lookup a = some .local
  free : ∀ y ∈ scope.names, y.2 = .free → sc.names.lookup y.1 = some .cell ∨ sc.names.lookup y.1 = some .free
def lam1B (sc scope : Scope) (a : Str) : Bool := decide (scope.kind = .function) && (!scope.isCoroutine && (!scope.isGenerator && (decide (scope.names.lookup a = some .local) &&
  scope.names.all fun y => !decide (y.2 = .cell) && ((!decide (y.2 = .local) || decide (y.1 = a)) && (!decide (y.2 = .free) || (decide (sc.names.lookup y.1 = some .cell) || decide (sc.names.lookup y.1 = some .free)))))))
theorem lam1_by {sc scope : Scope} {a : Str} (h : lam1B sc scope a = true) : Lam1 sc scope a := by
  unfold lam1B at h
  simp only [Bool.and_eq_true, Bool.or_eq_true, Bool.not_eq_true', decide_eq_true_eq, decide_eq_false_iff_not, List.all_eq_true] at h
  obtain ⟨h1, h2, h3, h4, h5⟩ := h
  refine ⟨h1, h2, h3, fun y hy => (h5 y hy).1, fun y hy e => ?_, h4, fun y hy e => ?_⟩
  · exact (h5 y hy).2.1.elim (fun z => absurd e z) id
  · exact (h5 y hy).2.2.elim (fun z => absurd e z) id
/-- the context of such a lambda's body; nothing is raised there -/
def lamCx1 (X : Cx) (A : Around) (outer : List Env) (s : Shared) (H : Hp) (scope : Scope) (f c' : Addr) : Cx := { lamCx X A outer s H (fun _ _ _ => False) scope f c' with xe := fun _ _ => False }
section
variable {X : Cx} {pins : List (Addr × Obj)} {σ : L2.St} {H : Hp} {s : Shared}
theorem lam1_start {A : Around} {scope : Scope} {a : Str} {f c' : Addr} {j : Nat} {x : V} {u : Value} {g : Heap} {tk : Nat} (I : Inv X pins σ H s) (L : Lam1 X.env.scope scope a) (e0 : Env0 X.prog X.w X.K X.mg X.base A X.stack s H) (hd : A.handled = none)
    (hN : X.N.Nodup) (hj : X.N[j]? = some a) (rx : RelV x u) (hns : g.Ns s.heap.objs.size fun y => [(a, u)].reverse.lookup y) (kp : ∀ b o, s.heap.get? b = some o → g.get? b = some o) :
    Inv (lamCx1 X A X.stack s H scope f c') [] (σ.set j (some x)) H { s with heap := g, toks := tk } := by
  have own : ∀ {y : Str}, scope.names.lookup y = some .free → ∃ c, X.env.cells.lookup y = some c := fun {y} hl => by
    have hy : (y, NameKind.free) ∈ scope.names := PySem.mem_of_lookup hl
    exact (L.free _ hy rfl).elim (fun k => I.ok.has _ (.inl k)) fun k => I.ok.has _ (.inr k)
  have back : ∀ {y : Str} {c : Addr}, (cloFrom X.env.cells scope.names []).lookup y = some c → X.env.cells.lookup y = some c := fun {y c} e => by
    rcases cloFrom_mem (PySem.mem_of_lookup e) with hm | ⟨h1, h2⟩
    · cases hm
    · obtain ⟨c1, hc⟩ := (L.free _ h1 rfl).elim (fun k => I.ok.has _ (.inl k)) fun k => I.ok.has _ (.inr k)
      have hc2 : X.env.cells.lookup y = some c1 := hc
      rw [hc2, show c = c1 from by rw [h2, hc2] <;> rfl]
  have look : ∀ {y : Str}, scope.names.lookup y = some .free → ∃ c, (cloFrom X.env.cells scope.names []).lookup y = some c := fun {y} hl =>
    mem_lookup (cloFrom_has (cells := X.env.cells) (acc := []) (PySem.mem_of_lookup hl))
  have cellK : ∀ {c : Addr} {v : Option Value}, s.heap.IsCell c v → g.IsCell c v := fun {c v} ⟨o, ho, q⟩ => ⟨o, kp _ _ ho, q⟩
  have none0 : ∀ b : Addr, b ∉ (lamCx1 X A X.stack s H scope f c').ex := fun b z => absurd (show b ∈ ([] : List Addr) from z) (by simp)
  have hjl : j < σ.length := by rw [I.len]; exact (List.getElem?_eq_some_iff.mp hj).1
  refine { ok := ?_, os := rfl, bare := e0.bare, base := Un.kept kp, loc := ⟨_, hns, fun i y v e1 e2 e3 => ?_⟩, cell := fun y c e => ?_, free := e0.hok.fresh (Nat.le_refl _), freeC := fun y c e => ?_, pin := fun q hq => absurd (show q ∈ ([] : List (Addr × Obj)) ++ [] from hq) (by simp), hok := e0.hok.kept kp, len := ?_ }
  · refine { mod := e0.mod, kind := L.kind, glob := rfl, blt := rfl, above := Nat.le_refl _, inj := fun y z c q1 q2 => I.ok.inj y z c (back q1) (back q2), has := fun y hy => ?_, cab := fun y c z _ => ?_, hd := (fun _ => hd), frames := (Around.frames_deeper e0.frames), stk := .inr ⟨rfl, rfl⟩, exf := fun b z => absurd z (none0 b), bs := e0.bs, bsz := e0.bsz, noex := fun b _ _ => none0 b, exfs := fun b z => absurd z (none0 b), funs := e0.funs, frf := e0.frf }
    · have hy2 : scope.names.lookup y = some .cell ∨ scope.names.lookup y = some .free := hy
      rcases hy2 with k | k
      · exact absurd rfl (L.cell _ (PySem.mem_of_lookup k))
      · exact look k
    · have z2 : false = true := z
      cases z2
  · have e3' : Vis scope y := e3
    rcases e3' with k | k | k
    · have ya : y = a := L.loc _ (PySem.mem_of_lookup k) rfl
      subst ya
      have hij : i = j := nodup_ix hN e1 hj
      subst hij
      rw [List.getElem?_set_self hjl] at e2
      cases e2
      exact ⟨u, rx, .inl ⟨k, by simp⟩⟩
    · exact absurd rfl (L.cell _ (PySem.mem_of_lookup k))
    · have yna : y ≠ a := fun z => by
        rw [z, L.par] at k
        cases k
      have hij : j ≠ i := fun z => yna (by
        rw [← z] at e1
        have e4 : some y = some a := e1.symm.trans hj
        exact Option.some.inj e4)
      rw [List.getElem?_set_ne hij] at e2
      obtain ⟨m, hn, hl⟩ := I.loc
      have hvis : Vis X.env.scope y := (L.free _ (PySem.mem_of_lookup k) rfl).elim (fun k => .inr (.inl k)) (fun k => .inr (.inr k))
      obtain ⟨u', r, q⟩ := hl i y v e1 e2 hvis
      obtain ⟨c2, h2⟩ := look k
      refine ⟨u', r, .inr ⟨.inr k, c2, h2, ?_⟩⟩
      rcases q with ⟨k', _⟩ | ⟨_, c3, e', z⟩
      · have k2 : X.env.scope.names.lookup y = some .local := k'
        rcases L.free _ (PySem.mem_of_lookup k) rfl with k3 | k3 <;> rw [show X.env.scope.names.lookup y = _ from k3] at k2 <;> cases k2
      · rw [back h2] at e'
        cases e'
        exact cellK z
  · obtain ⟨v, z⟩ := I.cell y c (back e)
    exact ⟨v, cellK z⟩
  · exact I.freeC y c (back e)
  · rw [List.length_set]
    exact I.len
/-- f(u), f such a lambda that the frame X made -/
theorem lam1_call {A : Around} {scope : Scope} {a : Str} {f c' : Addr} {pm ctv : Value} {params : Arguments} {body : Expr} {j k : Nat} {x : V} {u : Value} {Q : VK} {tb : TE} {E : Value → Shared → Prop} (I : Inv X pins σ H s) (L : Lam1 X.env.scope scope a)
    (hf : s.heap.get? f = some (PySem.W.kla_obj "<lambda>" (X.env.qual ++ "<lambda>") params body scope (cloFrom X.env.cells scope.names []) pm c' ctv)) (hc : H c' = some (CodeO c' (X.env.qual ++ "<lambda>")))
    (hbind : bindArgs (PySem.W.kla_fn "<lambda>" (X.env.qual ++ "<lambda>") params body scope (cloFrom X.env.cells scope.names []) pm (.ref c') ctv) ⟨[u], []⟩ = pure [(a, u)])
    (e0 : Env0 X.prog X.w X.K X.mg X.base A X.stack s H) (hr : Room (k + 1) A) (hN : X.N.Nodup) (hj : X.N[j]? = some a) (rx : RelV x u)
    (hbody : Room k (A.deeper (lamEnv X scope s.heap.objs.size f c')) → PE (lamCx1 X A X.stack s H scope f c') body tb) (ht : tb (σ.set j (some x)) H Q) :
    wpAny (model X.prog X.w) A (call (.ref f) [u]) (EP X pins σ Q) E s := by
  obtain ⟨⟨oc, vs, t, hoc, hdc, hvc⟩, _, _⟩ := I.hok c' _ hc
  have rc : codeAny (model X.prog X.w) A (.call (.ref f) ⟨[u], []⟩) (CR CX0 X.stack X.prog X.w H s Q E0) s := by
    refine PySem.W.kla_callFunE hr.depth hf rfl L.co L.gen rfl ⟨c', oc, vs, t, rfl, hoc, hdc, hvc⟩ ?_
    rw [hbind]
    refine wpAny_pure (wpAny_newFunctionEnv L.cell (fun y hy => by rw [List.mem_singleton.mp hy]; exact L.par) (fun g hns hsb => ⟨I.nolimit.fresh _ hsb, ?_⟩) L.kind)
    show codeAny _ _ (.expr body (lamEnv X scope s.heap.objs.size f c')) _ _
    have kp : ∀ b o, s.heap.get? b = some o → g.get? b = some o := fun b o e => hsb.extBut b o (Nat.ne_of_lt (Heap.lt_size e)) (Heap.get?_push_of_some _ e)
    have J := lam1_start (tk := s.toks + [(a, u)].length) (f := f) (c' := c') I L e0 hr.hd hN hj rx hns kp
    refine PySem.W.kla_codeExpr (wpAny_mono ((hbody (hr.deeper _)).run [] _ _ H Q J ht) (fun v s' hq => ?_) fun e s' hq => (show False from hq).elim)
    obtain ⟨y, H', J', rv, q⟩ := hq
    exact ⟨y, H', J'.os, J'.bare, J'.base, J'.hok, rv, q⟩
  refine wpAny_call (codeAny_mono rc fun r s' hq => ?_)
  cases r with
  | error e => exact (show False from hq).elim
  | ok fl =>
    cases fl with
    | ret v => exact I.after hq
    | next => exact False.elim hq
    | brk => exact False.elim hq
    | cont => exact False.elim hq
end
end OP
namespace OP
open PySem PySem.Spec PyProof.Rows L2 LamX
theorem ExtN.sq {K : PySem.W.Frag} {H H' : Hp} {a : Addr} {xs : List V} (e : ExtN H H') (h : SqL K H a xs) : SqL K H' a xs := by
  rcases h with (h | ⟨o, h⟩) | h
  · exact .inl (.inl (e _ _ h fun ps z => by cases z))
  · exact .inl (.inr ⟨o, e _ _ h fun ps z => by cases z⟩)
  · exact .inr h
/-- sorted(e, key=lambda a: body): the keys by body's reading, j the slot that stands for a -/
def tSortLam (K : PySem.W.Frag) (A : Around) (T : List (Addr × Str)) (j : Nat) (tb : TE) (te : TA) : TE := fun σ H Q => te σ H fun ws H1 => ∃ (l : Addr) (xs : List V) (keyOf : V → PyData), ws = [V.ref l] ∧ SqL K H1 l xs ∧ Tabs T H1 ∧
  PySem.W.AllAlike (xs.map keyOf) ∧ PySem.W.Sortable (xs.map keyOf) ∧ (∀ d, d ∈ xs.map keyOf → A.in1.in1.units + d.depth < cLine) ∧
  (∀ (i : Nat) (z : V) (H' : Hp) (Q' : VK), xs[i]? = some z → ExtN H1 H' → (∀ y H2, Same H' H2 → Dp K H2 y (keyOf z) → Q' y H2) → tb (σ.set j (some z)) H' Q') ∧
  ∀ a H', H' a = none → ExtN H1 H' → Tabs T H' → Q (.ref a) (upd H' a (.lst (xs.mergeSort (PySem.W.dataLe false keyOf))))
section
variable {X : Cx}
theorem pe_sortLam {T : List (Addr × Str)} {c P : Addr} {k j : Nat} {a x : Str} {params : Arguments} {e body : Expr} {scope : Scope} {tb : TE} {te : TA} {p lpos kpos pos : Pos} (ha : PA X [e] te) (hg : Gl X x) (hm : X.mg x = none) (hv : bootBuiltins x = some (.builtin "sorted"))
    (TB : TabB X.base X.mg c P) (hcode : X.env.code = .ref c) (hmT : (P, X.env.qual ++ "<lambda>") ∈ T) (hu : ∀ q ∈ T, q.1 = P → q.2 = X.env.qual ++ "<lambda>") (hr : Room (k + 3) X.A) (L : Lam1 X.env.scope scope a) (hdef : defaultsOf params X.env = ([], []))
    (hN : X.N.Nodup) (hj : X.N[j]? = some a) (hbind : ∀ (q : Str) (cl : List (Str × Addr)) (pm cv ctv u : Value), bindArgs (PySem.W.kla_fn "<lambda>" q params body scope cl pm cv ctv) ⟨[u], []⟩ = pure [(a, u)])
    (hbody : ∀ (A : Around) (s : Shared) (H : Hp) (f c' : Addr), Room k (A.deeper (lamEnv X scope s.heap.objs.size f c')) → PE (lamCx1 X A X.stack s H scope f c') body tb)
    (hn : x ≠ "__name__" := by decide) (hdb : (x == ("__debug__" : Str)) = false := by decide)
    (h1 : backTo pos (starEach [e] X.env) = (false, eval e X.env) :: backTo pos (starEach [] X.env) := by rfl) (h2 : (backTo pos (starEach [e] X.env)).any (·.1) = false := by rfl)
    (h3 : (backToKw pos (keywordEach [⟨some (Str.ofString "key"), .Lambda params body scope lpos, kpos⟩] X.env)).all (·.1.isSome) = true := by rfl) (h4 : (backToKw pos (keywordEach [⟨some (Str.ofString "key"), .Lambda params body scope lpos, kpos⟩] X.env)).any (·.1.isNone) = false := by rfl)
    (h5 : (backToKw pos (keywordEach [⟨some (Str.ofString "key"), .Lambda params body scope lpos, kpos⟩] X.env)).filterMap (·.1) = [Str.ofString "key"] := by rfl) :
    PE X (.Call (.Name x p) [e] [⟨some (Str.ofString "key"), .Lambda params body scope lpos, kpos⟩] pos) (tSortLam X.K X.A T j tb te) := by
  refine ⟨fun pins s σ H Q I h => ?_⟩
  refine wpAny_Call_Name_kw (ld_blt I hg hm hv ?_ hn hdb)
  refine PyProof.Rows.callWith_kw (thn (ha.run pos pins s σ H _ I h) fun us s1 hq => ?_) h1 h2 h3 h4
  obtain ⟨vs, H1, I1, r1, l, xs, keyOf, rfl, hx, hT, hal, hsk, hud, hturn, hfin⟩ := hq
  cases r1 with
  | cons ra rb =>
  cases rb
  cases ra
  show wpAny _ _ (evalAll ((do let v ← eval (.Lambda params body scope lpos) X.env; standAt pos; pure v) :: [])) _ _ s1
  refine wpAny_evalAll_cons (wpAny_bind (lam_make2 I1 TB hcode hmT hu hT hdef ?_ fun f c' pm ctv H2 s2 I2 eN T2 hf hfn hfr hco => wpAny_bind (wpAny_standAt (wpAny_pure ?_))))
  · exact fun y hy z => (L.free y hy z).elim (fun k => I1.ok.has _ (.inl k)) fun k => I1.ok.has _ (.inr k)
  refine wpAny_evalAll_nil ?_
  rw [h5]
  show wpAny _ _ (call (.builtin "sorted") [.ref l] [(Str.ofString "key", .ref f)]) _ _ s2
  have hfl : f ≠ X.env.locals := fun z => by
    obtain ⟨m, ⟨ob, es, ep, ho, hcls, hdat, _⟩, _⟩ := I2.loc
    rw [← z, hf] at ho
    cases ho
    have q := hcls
    cases q
  have hff : f ∉ X.fs := fun z => hfr (by
    rcases I2.ok.stk with q | ⟨q, _⟩
    · rw [q]; exact z
    · rw [q]
      obtain ⟨en, h6, h7⟩ := List.mem_filterMap.mp z
      exact List.mem_filterMap.mpr ⟨en, List.mem_cons_of_mem _ h6, h7⟩)
  have I3 : Inv X ((f, PySem.W.kla_obj "<lambda>" (X.env.qual ++ "<lambda>") params body scope (cloFrom X.env.cells scope.names []) pm c' ctv) :: pins) σ H2 s2 := by
    refine I2.pins_of fun q hq => ?_
    rcases List.mem_cons.mp hq with z | z
    · rw [z]
      exact ⟨hf, hfn, hfl, hff, fun v w => by cases w⟩
    · exact I2.pin q (List.mem_append_right _ z)
  refine wpAny_mono (sorted_by (E := X.xe) (Q := Q) keyOf I3 (ExtN.sq eN hx) List.mem_cons_self hal hsk hud (fun i z u pins' H' s' hz sm J hp rz => ?_) fun b H' hb sm => ?_) (fun u s3 hq => ClX.unpinE hq) fun _ _ q => q
  · have hf2 := (J.pin _ (List.mem_append_right _ hp)).1
    refine lam1_call (k := k) J L hf2 (sm _ _ hco) (hbind _ _ _ _ _ _) J.env0.in1.in1 hr.in1.in1 hN hj rz (fun hr2 => hbody _ _ _ _ _ hr2) ?_
    exact hturn i z H' _ hz (eN.trans (ExtN.of sm)) fun y H3 s3 d => ⟨s3, d⟩
  · exact hfin b H' hb (eN.trans (ExtN.of sm)) (T2.ext sm)
end
end OP
namespace OP
open PySem PySem.Spec PyProof.Rows L2
/-- a set that set() has just made -/
abbrev set0 (w : World) : Obj := { cls := .type "set", dict := none, data := .set #[] 0 (.fresh 0 0 (!w.params.followText "set-order")) }
section
variable {P : Program} {w : World} {A : Around} {E : Value → Shared → Prop} {s : Shared}
/-- the set at S takes the items of a walk, one by one; Ph i: what is known of it behind i of them -/
theorem set_takes {I : Addr} {fp wr : List Addr} {G : Array GenState → Array GenState → Prop} {n : Nat} {Pv : Nat → Value → Prop} {St : Nat → Shared → Prop} {R : Result → Shared → Prop}
    (W : WalksS P w A.in1 I fp wr G n Pv St) (S : Addr) (out : S ∉ fp) (Ph : Nat → Heap → Prop) (stays : ∀ i g g', Ph i g → (∀ o, g.get? S = some o → g'.get? S = some o) → Ph i g')
    (add : ∀ i v (s1 : Shared) (Q : Bool → Shared → Prop) (E : Value → Shared → Prop), i < n → Pv i v → Ph i s1.heap → (∀ b g, Heap.SameBut S s1.heap g → Ph (i + 1) g → Q b { s1 with heap := g, toks := s1.toks + 1 }) → wpAny (model P w) A.in1 (setAdd S v) Q E s1) :
    ∀ (k i : Nat) (s : Shared), n - i = k → i ≤ n → St i s → Ph i s.heap → (∀ s1, Moved (S :: wr) G s s1 → Ph n s1.heap → R (.ok (.ret .none)) s1) →
      codeAny (model P w) A (.builtin "set.update.loop" ⟨[.ref S, .ref I], []⟩) R s := by
  have outW : S ∉ wr := fun z => out (W.sub _ z)
  have more : ∀ b ∈ wr, b ∈ S :: wr := fun b z => List.mem_cons_of_mem _ z
  intro k
  induction k with
  | zero =>
    intro i s e1 e2 hst hF hR
    obtain rfl : i = n := by omega
    refine codeAny_builtin F.entry_set_update_loop ?_
    rw [Around.under_plainId F.plain_set_update_loop _]
    show wpAny _ A.in1 (pyNext (.ref I) >>= _) _ _ s
    refine wpAny_bind (W.done s _ _ hst fun s1 hm => ?_)
    show wpAny _ A.in1 (ret Value.none) _ _ s1
    exact wpAny_pure (hR s1 (hm.mono more) (stays _ _ _ hF fun o e => hm.heap S o outW e))
  | succ k ih =>
    intro i s e1 e2 hst hF hR
    have lt : i < n := by omega
    refine codeAny_builtin F.entry_set_update_loop ?_
    rw [Around.under_plainId F.plain_set_update_loop _]
    show wpAny _ A.in1 (pyNext (.ref I) >>= _) _ _ s
    refine wpAny_bind (W.item i s _ _ lt hst fun v s1 hP hst1 hm => ?_)
    show wpAny _ A.in1 (holding [v] (setAdd S v) >>= _) _ _ s1
    refine wpAny_bind (wpAny_holding ?_)
    refine add i v s1 _ _ lt hP (stays _ _ _ hF fun o e => hm.heap S o outW e) fun b g sb hF2 => ?_
    refine wpAny_pure ⟨plainId_quiet F.plain_set_update_loop _, ih (i + 1) _ (by omega) lt (W.frame _ s1 _ _ hst1 (Nat.le_succ _) fun b hb o e => ?_) hF2 fun s2 hm2 hF3 => ?_⟩
    · rw [sb.2 b (fun z : b = S => out (by rw [← z]; exact hb))]
      exact e
    · refine hR s2 (Moved.trans W.gtrans ((hm.mono more).then_heap (Nat.le_succ _) fun b o hb e => ?_) hm2) hF3
      rw [sb.2 b (fun z : b = S => hb (by rw [z]; exact List.mem_cons_self))]
      exact e
theorem set_of_tuple {l : Addr} {items : Array Value} {Q : Value → Shared → Prop} (Ph : Nat → Heap → Prop) (calm : A.handled = none) (hl : s.heap.IsTuple l items) (start : ∀ g, g.get? s.heap.objs.size = some (set0 w) → Ph 0 g)
    (stays : ∀ i g g', Ph i g → (∀ o, g.get? s.heap.objs.size = some o → g'.get? s.heap.objs.size = some o) → Ph i g')
    (add : ∀ i v (A : Around) (s1 : Shared) (Q : Bool → Shared → Prop) (E : Value → Shared → Prop), items[i]? = some v → Ph i s1.heap → (∀ b g, Heap.SameBut s.heap.objs.size s1.heap g → Ph (i + 1) g → Q b { s1 with heap := g, toks := s1.toks + 1 }) → wpAny (model P w) A (setAdd s.heap.objs.size v) Q E s1)
    (h : ∀ (g : Heap) (tk : Nat), Ph items.size g → (∀ b o, s.heap.get? b = some o → g.get? b = some o) → Q (.ref s.heap.objs.size) { s with heap := g, toks := tk }) :
    wpAny (model P w) A (call (.type "set") [.ref l]) Q E s := by
  obtain ⟨c0, tl, q0⟩ := F.called_set.mro
  have q1 := F.called_set.made
  have q2 := F.called_set.sub
  refine wpAny_call (codeAny_of_tree ?_)
  show wpAny _ _ (callAny (.type "set") _) _ _ _
  refine wpAny_pure ⟨Code.quiet_builtin _ (by decide +kernel), codeAny_builtin F.entry_type_call ?_⟩
  rw [Around.under_plain (weight_type_call_type "set" [.ref l] []) rfl]
  have q3 := F.called_set.notType
  have q4 := F.called_set.canCreate
  have q5 := F.typeCall_set_1 (.ref l)
  repeat (any_goals (first | assumption | wp_step))
  refine codeAny_mono (code_set_led1 (.ref l) (E := E) (Q₁ := fun o1 s1 => o1 = .ref s.heap.objs.size ∧ s1 = { s with heap := s.heap.push (set0 w) }) ⟨rfl, rfl⟩) fun r s1 hr => ?_
  cases r with
  | error e => exact hr
  | ok fl =>
    cases fl with
    | ret ob =>
      obtain ⟨rfl, rfl⟩ := hr
      have at0 : (s.heap.push (set0 w)).get? s.heap.objs.size = some (set0 w) := Heap.get?_push_size _ rfl
      have ty0 : Shared.TypeIs { s with heap := s.heap.push (set0 w) } (.ref s.heap.objs.size) "set" := ⟨_, at0, rfl⟩
      have q6 := F.called_set.init.lookup
      have q7 := F.called_set.init.bind (.ref s.heap.objs.size)
      repeat (any_goals (first | assumption | wp_step))
      refine codeAny_mono (codeAny_call_builtin (R := wants (fun r s2 => r = .none ∧ ∃ g tk, s2 = { s with heap := g, toks := tk } ∧ Ph items.size g ∧ ∀ b o, s.heap.get? b = some o → g.get? b = some o) E) F.called_set.init.plain F.entry_set_init (check_set_init_1 ty0 ?_)) fun r2 s2 hr2 => ?_
      · obtain ⟨ol, hol, z1, nl, z2⟩ := hl
        obtain ⟨oc, od, odt, osl⟩ := ol
        simp only at z1 z2
        subst z1; subst z2
        have hol1 : (s.heap.push (set0 w)).get? l = some { cls := .type "tuple", dict := od, data := .seq items nl, slots := osl } := Heap.get?_push_of_some _ hol
        have q8 := F.sub_tuple_set
        have q9 := F.sub_tuple_frozenset
        have qa : (Value.type "tuple" == Value.type "dict") = false := by decide
        have hl1 : (s.heap.push (set0 w)).IsTuple l items := ⟨_, hol1, rfl, nl, rfl⟩
        unfold Builtin.«set.__init__» noKeywords Builtin.Frozenset.updateFrom
        generalize hIt : pyIter = It
        wp_walk
        subst hIt
        refine wpAny_pyIter_tuple hl1 ?_
        refine wpAny_bind (wpAny_runValue ?_)
        have llt : l < s.heap.objs.size := Heap.lt_size hol
        have calm3 : A.in1.in1.in1.handled = none := by simp [calm]
        have lne : l ≠ (s.heap.push (set0 w)).objs.size := by
          rw [Heap.size_push]
          exact Nat.ne_of_lt (Nat.lt_succ_of_lt llt)
        have notin : s.heap.objs.size ∉ [(s.heap.push (set0 w)).objs.size, l] := by
          rw [Heap.size_push]
          simp only [List.mem_cons, List.not_mem_nil, or_false, not_or]
          exact ⟨Nat.ne_of_lt (Nat.lt_succ_self _), Nat.ne_of_gt llt⟩
        refine set_takes ((Walks.tuple calm3 _ l lne items).toS) s.heap.objs.size notin Ph stays (fun i v s3 Q3 E3 _ hv hF k => add i v _ s3 Q3 E3 hv hF k) (items.size - 0) 0 _ (by omega) (Nat.zero_le _)
          ⟨⟨_, Heap.get?_push_size _ rfl, rfl, rfl⟩, (hl1.push _)⟩ (start _ (Heap.get?_push_of_some _ at0)) fun s3 hm hF => ?_
        obtain ⟨g, g2, d2, tk2, os2⟩ := s3
        have eg : g2 = s.gens := hm.gens
        have ed : d2 = s.drawn := hm.drawn
        have eo : os2 = s.os := hm.os
        subst eg; subst ed; subst eo
        show wpAny _ _ _ _ _ _
        refine wpAny_pure ?_
        show wpAny _ _ (ret Value.none) _ _ _
        refine wpAny_pure ⟨rfl, g, tk2, rfl, hF, fun b o e => ?_⟩
        have b0 : b < s.heap.objs.size := Heap.lt_size e
        refine hm.heap b o ?_ (Heap.get?_push_of_some _ (Heap.get?_push_of_some _ e))
        rw [Heap.size_push]
        simp only [List.mem_cons, List.not_mem_nil, or_false, not_or]
        exact ⟨Nat.ne_of_lt b0, Nat.ne_of_lt (Nat.lt_succ_of_lt b0)⟩
      · cases r2 with
        | error e => exact hr2
        | ok f2 =>
          cases f2 with
          | ret v2 =>
            obtain ⟨rfl, g, tk, rfl, hF, kp⟩ := hr2
            repeat (any_goals (first | assumption | wp_step))
            exact h _ _ hF kp
          | _ => exact hr2.elim
    | _ => exact hr.elim
theorem set_of_list {l : Addr} {items : Array Value} {Q : Value → Shared → Prop} (Ph : Nat → Heap → Prop) (calm : A.handled = none) (hl : s.heap.IsList l items) (start : ∀ g, g.get? s.heap.objs.size = some (set0 w) → Ph 0 g)
    (stays : ∀ i g g', Ph i g → (∀ o, g.get? s.heap.objs.size = some o → g'.get? s.heap.objs.size = some o) → Ph i g')
    (add : ∀ i v (A : Around) (s1 : Shared) (Q : Bool → Shared → Prop) (E : Value → Shared → Prop), items[i]? = some v → Ph i s1.heap → (∀ b g, Heap.SameBut s.heap.objs.size s1.heap g → Ph (i + 1) g → Q b { s1 with heap := g, toks := s1.toks + 1 }) → wpAny (model P w) A (setAdd s.heap.objs.size v) Q E s1)
    (h : ∀ (g : Heap) (tk : Nat), Ph items.size g → (∀ b o, s.heap.get? b = some o → g.get? b = some o) → Q (.ref s.heap.objs.size) { s with heap := g, toks := tk }) :
    wpAny (model P w) A (call (.type "set") [.ref l]) Q E s := by
  obtain ⟨c0, tl, q0⟩ := F.called_set.mro
  have q1 := F.called_set.made
  have q2 := F.called_set.sub
  refine wpAny_call (codeAny_of_tree ?_)
  show wpAny _ _ (callAny (.type "set") _) _ _ _
  refine wpAny_pure ⟨Code.quiet_builtin _ (by decide +kernel), codeAny_builtin F.entry_type_call ?_⟩
  rw [Around.under_plain (weight_type_call_type "set" [.ref l] []) rfl]
  have q3 := F.called_set.notType
  have q4 := F.called_set.canCreate
  have q5 := F.typeCall_set_1 (.ref l)
  repeat (any_goals (first | assumption | wp_step))
  refine codeAny_mono (code_set_led1 (.ref l) (E := E) (Q₁ := fun o1 s1 => o1 = .ref s.heap.objs.size ∧ s1 = { s with heap := s.heap.push (set0 w) }) ⟨rfl, rfl⟩) fun r s1 hr => ?_
  cases r with
  | error e => exact hr
  | ok fl =>
    cases fl with
    | ret ob =>
      obtain ⟨rfl, rfl⟩ := hr
      have at0 : (s.heap.push (set0 w)).get? s.heap.objs.size = some (set0 w) := Heap.get?_push_size _ rfl
      have ty0 : Shared.TypeIs { s with heap := s.heap.push (set0 w) } (.ref s.heap.objs.size) "set" := ⟨_, at0, rfl⟩
      have q6 := F.called_set.init.lookup
      have q7 := F.called_set.init.bind (.ref s.heap.objs.size)
      repeat (any_goals (first | assumption | wp_step))
      refine codeAny_mono (codeAny_call_builtin (R := wants (fun r s2 => r = .none ∧ ∃ g tk, s2 = { s with heap := g, toks := tk } ∧ Ph items.size g ∧ ∀ b o, s.heap.get? b = some o → g.get? b = some o) E) F.called_set.init.plain F.entry_set_init (check_set_init_1 ty0 ?_)) fun r2 s2 hr2 => ?_
      · obtain ⟨ol, hol, z1, nl, z2⟩ := hl
        obtain ⟨oc, od, odt, osl⟩ := ol
        simp only at z1 z2
        subst z1; subst z2
        have hol1 : (s.heap.push (set0 w)).get? l = some { cls := .type "list", dict := od, data := .seq items nl, slots := osl } := Heap.get?_push_of_some _ hol
        have q8 := F.sub_list_set
        have q9 := F.sub_list_frozenset
        have qa : (Value.type "list" == Value.type "dict") = false := by decide
        have hl1 : (s.heap.push (set0 w)).IsList l items := ⟨_, hol1, rfl, nl, rfl⟩
        unfold Builtin.«set.__init__» noKeywords Builtin.Frozenset.updateFrom
        generalize hIt : pyIter = It
        wp_walk
        subst hIt
        refine wpAny_pyIter_list hl1 ?_
        refine wpAny_bind (wpAny_runValue ?_)
        have llt : l < s.heap.objs.size := Heap.lt_size hol
        have calm3 : A.in1.in1.in1.handled = none := by simp [calm]
        have lne : l ≠ (s.heap.push (set0 w)).objs.size := by
          rw [Heap.size_push]
          exact Nat.ne_of_lt (Nat.lt_succ_of_lt llt)
        have notin : s.heap.objs.size ∉ [(s.heap.push (set0 w)).objs.size, l] := by
          rw [Heap.size_push]
          simp only [List.mem_cons, List.not_mem_nil, or_false, not_or]
          exact ⟨Nat.ne_of_lt (Nat.lt_succ_self _), Nat.ne_of_gt llt⟩
        refine set_takes ((Walks.list calm3 _ l lne items).toS) s.heap.objs.size notin Ph stays (fun i v s3 Q3 E3 _ hv hF k => add i v _ s3 Q3 E3 hv hF k) (items.size - 0) 0 _ (by omega) (Nat.zero_le _)
          ⟨⟨_, Heap.get?_push_size _ rfl, rfl, rfl⟩, (hl1.push _)⟩ (start _ (Heap.get?_push_of_some _ at0)) fun s3 hm hF => ?_
        obtain ⟨g, g2, d2, tk2, os2⟩ := s3
        have eg : g2 = s.gens := hm.gens
        have ed : d2 = s.drawn := hm.drawn
        have eo : os2 = s.os := hm.os
        subst eg; subst ed; subst eo
        show wpAny _ _ _ _ _ _
        refine wpAny_pure ?_
        show wpAny _ _ (ret Value.none) _ _ _
        refine wpAny_pure ⟨rfl, g, tk2, rfl, hF, fun b o e => ?_⟩
        have b0 : b < s.heap.objs.size := Heap.lt_size e
        refine hm.heap b o ?_ (Heap.get?_push_of_some _ (Heap.get?_push_of_some _ e))
        rw [Heap.size_push]
        simp only [List.mem_cons, List.not_mem_nil, or_false, not_or]
        exact ⟨Nat.ne_of_lt b0, Nat.ne_of_lt (Nat.lt_succ_of_lt b0)⟩
      · cases r2 with
        | error e => exact hr2
        | ok f2 =>
          cases f2 with
          | ret v2 =>
            obtain ⟨rfl, g, tk, rfl, hF, kp⟩ := hr2
            repeat (any_goals (first | assumption | wp_step))
            exact h _ _ hF kp
          | _ => exact hr2.elim
    | _ => exact hr.elim
end
end OP
namespace OP
open PySem PySem.Spec PyProof.Rows L2
theorem nodup_le {α : Type} [DecidableEq α] : ∀ {xs ys : List α}, xs.Nodup → (∀ x ∈ xs, x ∈ ys) → xs.length ≤ ys.length
  | [], _, _, _ => Nat.zero_le _
  | x :: xs, ys, nd, h => by
    obtain ⟨n1, n2⟩ := List.nodup_cons.mp nd
    have hx := h x List.mem_cons_self
    have e := List.length_erase_of_mem hx
    have := nodup_le (ys := ys.erase x) n2 fun z hz => (List.mem_erase_of_ne (fun q => n1 (by rw [← q]; exact hz))).mpr (h z (List.mem_cons_of_mem _ hz))
    have p : 0 < ys.length := List.length_pos_of_mem hx
    rw [List.length_cons]
    omega
section
variable {X : Cx}
/-- set(xs), xs a list of ints -/
def rSetI (K : PySem.W.Frag) (w : World) : List V → Hp → VK → Prop := fun vs H Q => ∃ (l : Addr) (ns : List Int), vs = [V.ref l] ∧ SqL K H l (ns.map V.int) ∧ ns.length < 60 ∧
  ∀ a c, H a = none → c ≤ ns.length → Q (.ref a) (upd H a (SetO w a (fun j => decide (j ∈ ns)) c))
theorem cr_setI (calm : X.calm = true) : CallR X (.type "set") (rSetI X.K X.w) := by
  intro pins s σ H vs us Q I r h
  obtain ⟨l, ns, rfl, hq, hz, q⟩ := h
  rw [Vals.ref1 r]
  obtain ⟨its, rv, pl, _⟩ := I.list hq
  have hlen : its.length = ns.length := by rw [← rv.length, List.length_map]
  refine set_of_list (P := X.prog) (w := X.w) (fun i g => ∃ c, c ≤ i ∧ SetR X.w g s.heap.objs.size (fun j => decide (j ∈ ns.take i)) c) (I.ok.hd calm) pl.isList (fun g e => ⟨0, Nat.le_refl _, setR_new_at e⟩) (fun i g g' ⟨c, hc, R⟩ k => ⟨c, hc, R.at k⟩)
    (fun i v A s1 Q1 E1 hv ⟨c, hc, R⟩ k => ?_) fun g tk ⟨c, hc, R⟩ kp => ?_
  · have hv2 : its[i]? = some v := by simpa using hv
    have hi : i < ns.length := by rw [← hlen]; exact (List.getElem?_eq_some_iff.mp hv2).1
    obtain ⟨u, e1, e2⟩ := rv.get (x := .int ns[i]) (i := i) (by rw [List.getElem?_map, List.getElem?_eq_getElem hi] <;> rfl)
    rw [hv2] at e1
    cases e1
    obtain ⟨t, rfl⟩ := e2
    unfold setAdd
    refine wpAny_holding (wpAny_bind ((intKind X.prog X.w).pyHash (k := ns[i]) (intKind_is _ _ _ _) ?_))
    refine setR_add_hashed (s := { s1 with toks := s1.toks + 1 }) R (by unfold scanBound; omega) fun g sb R2 => k _ g sb ⟨_, ?_, R2.congr fun j => ?_⟩
    · split <;> omega
    · have e : ns.take (i + 1) = ns.take i ++ [ns[i]] := by rw [List.take_add_one, List.getElem?_eq_getElem hi] <;> rfl
      rw [e]
      simp only [List.mem_append, List.mem_singleton, Bool.decide_or]
  · have e : its.toArray.size = ns.length := by rw [List.size_toArray, hlen]
    rw [e] at hc R
    rw [List.take_length] at R
    exact ⟨.ref s.heap.objs.size, _, I.laid (t' := tk) kp (Nat.le_refl _) (setO_new R), rfl, q _ c (I.hok.fresh (Nat.le_refl _)) hc⟩
/-- among these texts -/
def inS (xs : List Str) : Key → Bool
  | .inl _ => false
  | .inr x => decide (x ∈ xs)
/-- set(t), t a tuple of different texts -/
def rSetS (K : PySem.W.Frag) (P : Program) (w : World) : List V → Hp → VK → Prop := fun vs H Q => ∃ (l : Addr) (xs : List Str), vs = [V.ref l] ∧ SqT K H l (xs.map V.str) ∧ xs.length < 60 ∧ xs.Nodup ∧
  ∀ a, H a = none → Q (.ref a) (upd H a (SetK P w a (inS xs) xs.length))
theorem cr_setS (calm : X.calm = true) : CallR X (.type "set") (rSetS X.K X.prog X.w) := by
  intro pins s σ H vs us Q I r h
  obtain ⟨l, xs, rfl, hq, hz, nd, q⟩ := h
  rw [Vals.ref1 r]
  obtain ⟨its, rv, pl, _⟩ := I.tuple hq
  have hlen : its.length = xs.length := by rw [← rv.length, List.length_map]
  refine set_of_tuple (P := X.prog) (w := X.w) (fun i g => i ≤ xs.length ∧ g.SetOf (mixKind X.prog X.w) s.heap.objs.size (inS (xs.take i)) i) (I.ok.hd calm) pl (fun g e => ⟨Nat.zero_le _, ?_⟩) (fun i g g' ⟨hc, R⟩ k => ⟨hc, setOf_at R k⟩)
    (fun i v A s1 Q1 E1 hv ⟨hc, R⟩ k => ?_) fun g tk ⟨hc, R⟩ kp => ?_
  · exact ⟨_, #[], 0, _, e, ⟨rfl, rfl, rfl⟩, rfl, (fun z hz => by simp at hz), (fun z => by cases z <;> simp [inS]), (by decide), (by rfl), rfl⟩
  · have hv2 : its[i]? = some v := by simpa using hv
    have hi : i < xs.length := by rw [← hlen]; exact (List.getElem?_eq_some_iff.mp hv2).1
    obtain ⟨u, e1, e2⟩ := rv.get (x := .str xs[i]) (i := i) (by rw [List.getElem?_map, List.getElem?_eq_getElem hi] <;> rfl)
    rw [hv2] at e1
    cases e1
    have hk : (mixKind X.prog X.w).is (Sum.inr xs[i]) v = true := kV_is (k := Sum.inr xs[i]) e2
    unfold setAdd
    refine wpAny_holding (wpAny_bind ((mixKind X.prog X.w).pyHash hk ?_))
    refine wpAny_setAddHashed_of (s := { s1 with toks := s1.toks + 1 }) hk (key_scan (k := Sum.inr xs[i]) e2) R (by unfold scanBound; omega) fun g sb R2 => k _ g sb ⟨hi, ?_⟩
    have nin : xs[i] ∉ xs.take i := fun z => by
      obtain ⟨m, hm, em⟩ := List.mem_take_iff_getElem.mp z
      have := (List.getElem_inj nd).mp em
      omega
    have e2 : inS (xs.take i) (Sum.inr xs[i]) = false := decide_eq_false nin
    rw [e2] at R2
    have e3 : (fun k' : Key => inS (xs.take i) k' || decide (k' = Sum.inr xs[i])) = inS (xs.take (i + 1)) := funext fun k' => by
      have e : xs.take (i + 1) = xs.take i ++ [xs[i]] := by rw [List.take_add_one, List.getElem?_eq_getElem hi] <;> rfl
      rw [e]
      cases k' with
      | inl n =>
        have z : ¬ ((Sum.inl n : Key) = Sum.inr xs[i]) := fun z => by cases z
        rw [decide_eq_false z] <;> rfl
      | inr x =>
        show (decide (x ∈ xs.take i) || decide ((Sum.inr x : Key) = Sum.inr xs[i])) = decide (x ∈ xs.take i ++ [xs[i]])
        have z : decide ((Sum.inr x : Key) = Sum.inr xs[i]) = decide (x = xs[i]) := decide_eq_decide.mpr ⟨Sum.inr.inj, congrArg _⟩
        rw [z]
        simp only [List.mem_append, List.mem_singleton, Bool.decide_or]
    rw [e3] at R2
    exact R2
  · have e : its.toArray.size = xs.length := by rw [List.size_toArray, hlen]
    rw [e, List.take_length] at R
    exact ⟨.ref s.heap.objs.size, _, I.laid (t' := tk) kp (Nat.le_refl _) (setK_new R), rfl, q _ (I.hok.fresh (Nat.le_refl _))⟩
/-- len(s) of such a set of texts; of a set of tuples -/
def rLenK (P : Program) (w : World) : List V → Hp → VK → Prop := fun vs H Q => ∃ (a : Addr) (S : Key → Bool) (n : Nat), vs = [V.ref a] ∧ H a = some (SetK P w a S n) ∧ n < 1000 ∧ Q (.int n) H
theorem call_lenK : CallR X (.builtin "len") (rLenK X.prog X.w) := by
  intro pins s σ H vs us Q I r h
  obtain ⟨a, S, n, rfl, ha, hn, q⟩ := h
  rw [Vals.ref1 r]
  obtain ⟨o, es, ep, t, ho, hex, hd, _, _, _, hf, e⟩ := setK_get I ha
  exact call_len_set ho hex hd hf (by rw [e]; omega) ⟨.int n, H, I.tok _, ⟨_, by rw [e]⟩, q⟩
def rLenT (P : Program) (w : World) : List V → Hp → VK → Prop := fun vs H Q => ∃ (a : Addr) (L : List (Addr × List Int)), vs = [V.ref a] ∧ H a = some (SetTO P w a L) ∧ ((L.map (·.2)).Nodup → Q (.int L.length) H)
theorem call_lenT : CallR X (.builtin "len") (rLenT X.prog X.w) := by
  intro pins s σ H vs us Q I r h
  obtain ⟨a, L, rfl, ha, q⟩ := h
  rw [Vals.ref1 r]
  have R0 : SetT0 X.prog X.w s.heap a L := (I.hok a _ ha).1
  obtain ⟨es, ep, t, ⟨o, ho, hex, hd⟩, rows, tab, nd, _, _, _, few⟩ := R0.ex
  have e : es.size = L.length := by
    rw [← Array.length_toList, rows]
    unfold rowsOf
    rw [List.length_map]
  have hf : t.fits es.size = true := by
    unfold SetTable.fits SetTable.fill
    rw [tab.dm, tab.sz, e, List.length_map]
    simp
    omega
  exact call_len_set ho hex hd hf (by rw [e]; omega) ⟨.int L.length, H, I.tok _, ⟨_, by rw [e]⟩, q nd⟩
end
end OP
namespace OP
open PySem PySem.Spec PyProof.Rows L2
/-! ### changes that are no If -/
inductive Kind where
  | put | move | add | addslot | rais | lower
deriving DecidableEq
def Kind.src : Kind → Bool
  | .move => true
  | .addslot => true
  | _ => false
def Kind.fld (k : Kind) : Str := if k.src = true then "source" else "value"
def Kind.cls (K : PySem.W.Frag) : Kind → Addr
  | .put => c_Put K
  | .move => c_Move K
  | .add => c_Add K
  | .addslot => c_AddSlot K
  | .rais => c_Raise K
  | .lower => c_Lower K
structure One where
  k : Kind
  s : Nat
  v : Nat
deriving DecidableEq
structure One.Ok (o : One) : Prop where
  s2 : o.s ≤ 2
  v7 : o.v ≤ 7
  v2 : o.k.src = true → o.v ≤ 2
  ne : o.k = .move → o.v ≠ o.s
def One.flds (o : One) : List (Str × V) := [("slot", .int o.s), (o.k.fld, .int o.v)]
def OneAt (K : PySem.W.Frag) (H : Hp) (a : Addr) (o : One) : Prop := ∃ dx, H a = some (.ins (o.k.cls K) dx o.flds)
/-- the two in order, once if they are one -/
def two (a b : Nat) : List Int := if a = b then [(a : Int)] else if a < b then [(a : Int), (b : Int)] else [(b : Int), (a : Int)]
def One.slots (o : One) : List Int := if o.k.src = true then two o.s o.v else [(o.s : Int)]
def One.val (o : One) (xs : List Int) : Int := match o.k with
  | .put => o.v
  | .move => xs.getD o.v 0
  | .add => (xs.getD o.s 0 + o.v) % 8
  | .addslot => (xs.getD o.s 0 + xs.getD o.v 0) % 8
  | .rais => if (o.v : Int) > xs.getD o.s 0 then o.v else xs.getD o.s 0
  | .lower => if (o.v : Int) < xs.getD o.s 0 then o.v else xs.getD o.s 0
def One.app (o : One) (xs : List Int) : List Int := xs.set o.s (o.val xs)
theorem putF2 {f g : Str} {x y : V} (h : f ≠ g) : putF g y (putF f x []) = [(f, x), (g, y)] := by
  show (if f = g then (f, y) :: [] else (f, x) :: putF g y []) = _
  rw [if_neg h] <;> rfl
theorem look1 {f g : Str} {x y : V} : ([(f, x), (g, y)] : List (Str × V)).lookup f = some x := by simp [List.lookup]
theorem look2 {f g : Str} {x y : V} (h : g ≠ f) : ([(f, x), (g, y)] : List (Str × V)).lookup g = some y := by
  have e : (g == f) = false := beq_eq_false_iff_ne.mpr h
  simp [List.lookup, e]
theorem slot_value : ("slot" : Str) ≠ "value" := by decide +kernel
theorem slot_source : ("slot" : Str) ≠ "source" := by decide +kernel
theorem getD_at {xs : List Int} {i : Nat} (h : i < xs.length) : xs[i]? = some (xs.getD i 0) := by rw [List.getD_eq_getElem?_getD, List.getElem?_eq_getElem h] <;> rfl
theorem at_int {xs : List Int} {i : Nat} (h : i < xs.length) : atI (xs.map V.int) (i : Int) = some (.int (xs.getD i 0)) := atI_nat (by rw [List.getElem?_map, getD_at h] <;> rfl)
theorem lt_uniq : ∀ {xs ys : List Int}, xs.Pairwise (· < ·) → ys.Pairwise (· < ·) → (∀ z, z ∈ xs ↔ z ∈ ys) → xs = ys
  | [], [], _, _, _ => rfl
  | [], y :: ys, _, _, h => absurd ((h y).mpr List.mem_cons_self) (by simp)
  | x :: xs, [], _, _, h => absurd ((h x).mp List.mem_cons_self) (by simp)
  | x :: xs, y :: ys, hx, hy, h => by
    obtain ⟨h1, h2⟩ := List.pairwise_cons.mp hx
    obtain ⟨h3, h4⟩ := List.pairwise_cons.mp hy
    have e : x = y := by
      rcases List.mem_cons.mp ((h x).mp List.mem_cons_self) with z | z
      · exact z
      · rcases List.mem_cons.mp ((h y).mpr List.mem_cons_self) with q | q
        · exact q.symm
        · have a := h3 x z
          have b := h1 y q
          omega
    subst e
    rw [lt_uniq h2 h4 fun z => ⟨fun q => ?_, fun q => ?_⟩]
    · rcases List.mem_cons.mp ((h z).mp (List.mem_cons_of_mem _ q)) with r | r
      · have := h1 z q
        omega
      · exact r
    · rcases List.mem_cons.mp ((h z).mpr (List.mem_cons_of_mem _ q)) with r | r
      · have := h3 z q
        omega
      · exact r
theorem two_lt (s v : Nat) : (two s v).Pairwise (· < ·) := by
  unfold two
  split
  · simp
  · split
    · simp; omega
    · simp; omega
theorem two_mem {s v : Nat} {z : Int} : z ∈ two s v ↔ z ∈ [(s : Int), (v : Int)] := by
  unfold two
  split
  · rename_i h
    subst h
    simp
  · split
    · simp
    · simp only [List.mem_cons, List.not_mem_nil, or_false]
      exact or_comm
theorem two_set {s v : Nat} {ns : List Int} (srt : ns.Pairwise (· < ·)) (mem : ∀ z, z ∈ ns ↔ z ∈ [(s : Int), (v : Int)]) : ns = two s v := lt_uniq srt (two_lt s v) fun z => (mem z).trans two_mem.symm
theorem two_perm {s v : Nat} {ns : List Int} (ne : s ≠ v) (pm : ns.Perm [(s : Int), (v : Int)]) (srt : ns.Pairwise (· ≤ ·)) : ns = two s v := by
  have nd : ns.Nodup := pm.nodup_iff.mpr (by simp; omega)
  exact two_set (lt_of_le_nodup ns srt nd) fun z => pm.mem_iff
section
variable {P : Program} {w : World} {K : PySem.W.Frag} {mg : Str → Option Value} {base : Heap}
def spInit (C : Addr) (k : Kind) : Sp := fun vs H Q _ => ∃ (p dx : Addr) (s v : Nat), vs = [.ref p, .int s, .int v] ∧ One.Ok ⟨k, s, v⟩ ∧ H p = some (.ins C dx []) ∧
  ∀ H', (∀ b u, b ≠ p → H b = some u → H' b = some u) → H' p = some (.ins C dx (One.flds ⟨k, s, v⟩)) → Q .non H'
def spSlots (K : PySem.W.Frag) (k : Kind) : Sp := fun vs H Q _ => ∃ (a : Addr) (s v : Nat), vs = [.ref a] ∧ OneAt K H a ⟨k, s, v⟩ ∧ One.Ok ⟨k, s, v⟩ ∧ ∀ r H', Same H H' → H' r = some (.lst ((One.slots ⟨k, s, v⟩).map V.int)) → Q (.ref r) H'
def spApply (K : PySem.W.Frag) (k : Kind) : Sp := fun vs H Q _ => ∃ (a st : Addr) (s v : Nat) (xs : List Int), vs = [.ref a, .ref st] ∧ OneAt K H a ⟨k, s, v⟩ ∧ One.Ok ⟨k, s, v⟩ ∧ H st = some (.tup (xs.map V.int)) ∧ StoreOk xs ∧
  (∀ n ∈ One.slots ⟨k, s, v⟩, n < (xs.length : Int)) ∧ ∀ r H', Same H H' → H' r = some (.tup ((One.app ⟨k, s, v⟩ xs).map V.int)) → Q (.ref r) H'
def spEqOne (K : PySem.W.Frag) (k : Kind) : Sp := fun vs H Q _ => ∃ (a b : Addr) (s v : Nat), vs = [.ref a, .ref b] ∧ OneAt K H a ⟨k, s, v⟩ ∧ OneAt K H b ⟨k, s, v⟩ ∧ Q (.bl true) H
/-! Put -/
theorem sc_Put_init : FnScope ["self", "slot", "value"] ["self", "slot", "value"] (defScope s_Put_init) := ⟨rfl, rfl, rfl, by decide +kernel, rfl, by decide +kernel, by decide +kernel⟩
theorem ok_Put_init (T : Txt K mg) : Ok P w K mg base (a_Put_init K) ["self", "slot", "value"] 3 (spInit (c_Put K) .put) := by
  have GS : Ok P w K mg base (a_check_slot K) _ 2 (spCheck 2) := ok_check_slot T
  have GV : Ok P w K mg base (a_check_value K) _ 2 (spCheck 7) := ok_check_value T
  refine ok_of T.f_Put_init sc_Put_init (fun _ _ _ _ _ _ us hl => match us, hl with | [_, _, _], _ => rfl) (fun vs H Q E h => ?_) (fun cdv A outer s0 H vs Q E hr h => ?_)
  · obtain ⟨p, dx, s, v, rfl, _⟩ := h
    rfl
  · obtain ⟨p, dx, s, v, rfl, ⟨hs, hv, hv2, hne⟩, hp, k⟩ := h
    have b1 : (0 : Int) ≤ (s : Int) := Int.natCast_nonneg _
    have b2 : (s : Int) ≤ 2 := Int.ofNat_le.mpr hs
    have b3 : (0 : Int) ≤ (v : Int) := Int.natCast_nonneg _
    have b4 : (v : Int) ≤ 7 := Int.ofNat_le.mpr hv
    refine ⟨_, pss_cons (ps_expr (pe_c GS hr T.g_check_slot (pa_cons (pv 1) pa_nil))) (pss_cons (ps_expr (pe_c GV hr T.g_check_value (pa_cons (pv 2) pa_nil))) (pss_cons (ps_fld (pv 0) (pv 1) rfl) (pss_one (ps_fld (pv 0) (pv 2) rfl)))), ?_⟩
    refine ⟨_, rfl, s, rfl, b1, b2, _, rfl, v, rfl, b3, b4, _, rfl, _, rfl, p, c_Put K, dx, [], rfl, hp, T.o_Put.cl, T.n_Put_slot, (by show 0 < 1000; decide), _, rfl, _, rfl, p, c_Put K, dx, _, rfl, upd_same, T.o_Put.cl, T.n_Put_value, (by show 1 < 1000; decide), ?_⟩
    refine k _ (fun b u hb e => ?_) ?_
    · rw [upd_ne hb, upd_ne hb]
      exact e
    · rw [upd_same, putF2 slot_value] <;> rfl
theorem sc_Put_slots : FnScope ["self"] ["self"] (defScope s_Put_slots) := ⟨rfl, rfl, rfl, by decide +kernel, rfl, by decide +kernel, by decide +kernel⟩
theorem ok_Put_slots (T : Txt K mg) : Ok P w K mg base (a_Put_slots K) ["self"] 1 (spSlots K .put) := by
  refine ok_of T.f_Put_slots sc_Put_slots (fun _ _ _ _ _ _ us hl => match us, hl with | [_], _ => rfl) (fun vs H Q E h => ?_) (fun cdv A outer s0 H vs Q E hr h => ?_)
  · obtain ⟨a, s, v, rfl, _⟩ := h
    rfl
  · obtain ⟨a, s, v, rfl, ⟨dx, ha⟩, ok, k⟩ := h
    refine ⟨_, pss_one (ps_ret (pe_lst (pa_cons (pe_fld (pv 0) rfl) pa_nil))), ?_⟩
    refine ⟨_, rfl, a, c_Put K, dx, _, _, rfl, ha, T.o_Put.cl, T.n_Put_slot, look1, (by show 1 ≤ sizeLine; decide), fun l hl => ?_⟩
    exact k l _ (same_upd hl) upd_same
theorem sc_Put_eq : FnScope ["self", "other"] ["self", "other"] (defScope s_Put_eq) := ⟨rfl, rfl, rfl, by decide +kernel, rfl, by decide +kernel, by decide +kernel⟩
theorem kit_Put {K : PySem.W.Frag} : PySem.W.kitOne K (.ref (c_Put K)) (.ref (c_Put K)) = some true := by
  unfold PySem.W.kitOne
  rw [if_pos (by simp)]
theorem ok_Put_eq (T : Txt K mg) : Ok P w K mg base (a_Put_eq K) ["self", "other"] 1 (spEqOne K .put) := by
  refine ok_of T.f_Put_eq sc_Put_eq (fun _ _ _ _ _ _ us hl => match us, hl with | [_, _], _ => rfl) (fun vs H Q E h => ?_) (fun cdv A outer s0 H vs Q E hr h => ?_)
  · obtain ⟨a, b, s, v, rfl, _⟩ := h
    rfl
  · obtain ⟨a, b, s, v, rfl, ⟨dx, ha⟩, ⟨dy, hb⟩, k⟩ := h
    refine ⟨_, pss_one (ps_ret (pe_and (pe_callB call_isi (by rfl) T.z_isinstance (by decide +kernel) (pa_cons (pv 1) (pa_cons (pe_glob (v := .ref (c_Put K)) (by rfl) T.g_Put rfl) pa_nil)))
      (pe_and (pe_cmpR op_eq (pe_fld (pv 0) rfl) (pe_fld (pv 1) rfl) (nomark _)) (pe_one (pe_cmpR op_eq (pe_fld (pv 0) rfl) (pe_fld (pv 1) rfl) (nomark _)))))), ?_⟩
    refine ⟨_, rfl, _, _, _, _, true, rfl, .own (c_Put K), T.o_Put.ty hb, kit_Put, true, rfl, iteT ?_⟩
    refine ⟨_, rfl, a, c_Put K, dx, _, _, rfl, ha, T.o_Put.cl, T.n_Put_slot, look1, _, rfl, b, c_Put K, dy, _, _, rfl, hb, T.o_Put.cl, T.n_Put_slot, look1, rfl, true, congrArg V.bl (decide_eq_true rfl), iteT ?_⟩
    refine ⟨_, rfl, a, c_Put K, dx, _, _, rfl, ha, T.o_Put.cl, T.n_Put_value, look2 slot_value.symm, _, rfl, b, c_Put K, dy, _, _, rfl, hb, T.o_Put.cl, T.n_Put_value, look2 slot_value.symm, rfl, ?_⟩
    have e : decide (V.int (v : Int) = V.int (v : Int)) = true := decide_eq_true rfl
    show Q (.bl (decide (V.int (v : Int) = V.int (v : Int)))) H
    rw [e]
    exact k
/-! Move -/
theorem sc_Move_init : FnScope ["self", "slot", "source"] ["self", "slot", "source"] (defScope s_Move_init) := ⟨rfl, rfl, rfl, by decide +kernel, rfl, by decide +kernel, by decide +kernel⟩
theorem ok_Move_init (T : Txt K mg) : Ok P w K mg base (a_Move_init K) ["self", "slot", "source"] 3 (spInit (c_Move K) .move) := by
  have GS : Ok P w K mg base (a_check_slot K) _ 2 (spCheck 2) := ok_check_slot T
  have GV : Ok P w K mg base (a_check_value K) _ 2 (spCheck 7) := ok_check_value T
  refine ok_of T.f_Move_init sc_Move_init (fun _ _ _ _ _ _ us hl => match us, hl with | [_, _, _], _ => rfl) (fun vs H Q E h => ?_) (fun cdv A outer s0 H vs Q E hr h => ?_)
  · obtain ⟨p, dx, s, v, rfl, _⟩ := h
    rfl
  · obtain ⟨p, dx, s, v, rfl, ⟨hs, hv, hv2, hne⟩, hp, k⟩ := h
    have b1 : (0 : Int) ≤ (s : Int) := Int.natCast_nonneg _
    have b2 : (s : Int) ≤ 2 := Int.ofNat_le.mpr hs
    have b3 : (0 : Int) ≤ (v : Int) := Int.natCast_nonneg _
    have b4 : (v : Int) ≤ 7 := Int.ofNat_le.mpr hv
    have b5 : (v : Int) ≤ 2 := Int.ofNat_le.mpr (hv2 rfl)
    have ne : ¬ (V.int (s : Int) = V.int (v : Int)) := fun z => hne rfl (Int.ofNat.inj (V.int.inj z)).symm
    refine ⟨_, pss_cons (ps_expr (pe_c GS hr T.g_check_slot (pa_cons (pv 1) pa_nil))) (pss_cons (ps_expr (pe_c GS hr T.g_check_slot (pa_cons (pv 2) pa_nil))) (pss_cons (ps_if (pt_cmpR op_eq (pv 1) (pv 2) (nomark _)) (pss_one ps_never) pss_nil) (pss_cons (ps_fld (pv 0) (pv 1) rfl) (pss_one (ps_fld (pv 0) (pv 2) rfl))))), ?_⟩
    refine ⟨_, rfl, s, rfl, b1, b2, _, rfl, v, rfl, b3, b5, _, rfl, _, rfl, rfl, false, congrArg V.bl (decide_eq_false ne), iteF ?_⟩
    refine ⟨_, rfl, _, rfl, p, c_Move K, dx, [], rfl, hp, T.o_Move.cl, T.n_Move_slot, (by show 0 < 1000; decide), _, rfl, _, rfl, p, c_Move K, dx, _, rfl, upd_same, T.o_Move.cl, T.n_Move_source, (by show 1 < 1000; decide), ?_⟩
    refine k _ (fun b u hb e => ?_) ?_
    · rw [upd_ne hb, upd_ne hb]
      exact e
    · rw [upd_same, putF2 slot_source] <;> rfl
theorem sc_Move_slots : FnScope ["self"] ["self"] (defScope s_Move_slots) := ⟨rfl, rfl, rfl, by decide +kernel, rfl, by decide +kernel, by decide +kernel⟩
theorem ok_Move_slots (T : Txt K mg) : Ok P w K mg base (a_Move_slots K) ["self"] 1 (spSlots K .move) := by
  refine ok_of T.f_Move_slots sc_Move_slots (fun _ _ _ _ _ _ us hl => match us, hl with | [_], _ => rfl) (fun vs H Q E h => ?_) (fun cdv A outer s0 H vs Q E hr h => ?_)
  · obtain ⟨a, s, v, rfl, _⟩ := h
    rfl
  · obtain ⟨a, s, v, rfl, ⟨dx, ha⟩, ok, k⟩ := h
    refine ⟨_, pss_one (ps_ret (pe_callB cr_sorted (by rfl) T.z_sorted (by decide +kernel) (pa_cons (pe_lst (pa_cons (pe_fld (pv 0) rfl) (pa_cons (pe_fld (pv 0) rfl) pa_nil))) pa_nil))), ?_⟩
    refine ⟨_, rfl, a, c_Move K, dx, _, _, rfl, ha, T.o_Move.cl, T.n_Move_slot, look1, _, rfl, a, c_Move K, dx, _, _, rfl, ha, T.o_Move.cl, T.n_Move_source, look2 slot_source.symm, (by show 2 ≤ sizeLine; decide), fun l hl => ?_⟩
    refine ⟨l, [(s : Int), (v : Int)], rfl, SqL.of upd_same, (by show 2 < 64; decide), fun ns p pm srt hp => ?_⟩
    refine k p _ ((same_upd hl).trans (same_upd hp)) ?_
    have e : ns = two s v := two_perm (fun z => ok.ne rfl z.symm) pm srt
    rw [upd_same, e] <;> rfl
theorem sc_Move_eq : FnScope ["self", "other"] ["self", "other"] (defScope s_Move_eq) := ⟨rfl, rfl, rfl, by decide +kernel, rfl, by decide +kernel, by decide +kernel⟩
theorem kit_Move {K : PySem.W.Frag} : PySem.W.kitOne K (.ref (c_Move K)) (.ref (c_Move K)) = some true := by
  unfold PySem.W.kitOne
  rw [if_pos (by simp)]
theorem ok_Move_eq (T : Txt K mg) : Ok P w K mg base (a_Move_eq K) ["self", "other"] 1 (spEqOne K .move) := by
  refine ok_of T.f_Move_eq sc_Move_eq (fun _ _ _ _ _ _ us hl => match us, hl with | [_, _], _ => rfl) (fun vs H Q E h => ?_) (fun cdv A outer s0 H vs Q E hr h => ?_)
  · obtain ⟨a, b, s, v, rfl, _⟩ := h
    rfl
  · obtain ⟨a, b, s, v, rfl, ⟨dx, ha⟩, ⟨dy, hb⟩, k⟩ := h
    refine ⟨_, pss_one (ps_ret (pe_and (pe_callB call_isi (by rfl) T.z_isinstance (by decide +kernel) (pa_cons (pv 1) (pa_cons (pe_glob (v := .ref (c_Move K)) (by rfl) T.g_Move rfl) pa_nil)))
      (pe_and (pe_cmpR op_eq (pe_fld (pv 0) rfl) (pe_fld (pv 1) rfl) (nomark _)) (pe_one (pe_cmpR op_eq (pe_fld (pv 0) rfl) (pe_fld (pv 1) rfl) (nomark _)))))), ?_⟩
    refine ⟨_, rfl, _, _, _, _, true, rfl, .own (c_Move K), T.o_Move.ty hb, kit_Move, true, rfl, iteT ?_⟩
    refine ⟨_, rfl, a, c_Move K, dx, _, _, rfl, ha, T.o_Move.cl, T.n_Move_slot, look1, _, rfl, b, c_Move K, dy, _, _, rfl, hb, T.o_Move.cl, T.n_Move_slot, look1, rfl, true, congrArg V.bl (decide_eq_true rfl), iteT ?_⟩
    refine ⟨_, rfl, a, c_Move K, dx, _, _, rfl, ha, T.o_Move.cl, T.n_Move_source, look2 slot_source.symm, _, rfl, b, c_Move K, dy, _, _, rfl, hb, T.o_Move.cl, T.n_Move_source, look2 slot_source.symm, rfl, ?_⟩
    have e : decide (V.int (v : Int) = V.int (v : Int)) = true := decide_eq_true rfl
    show Q (.bl (decide (V.int (v : Int) = V.int (v : Int)))) H
    rw [e]
    exact k
/-! Add -/
theorem sc_Add_init : FnScope ["self", "slot", "value"] ["self", "slot", "value"] (defScope s_Add_init) := ⟨rfl, rfl, rfl, by decide +kernel, rfl, by decide +kernel, by decide +kernel⟩
theorem ok_Add_init (T : Txt K mg) : Ok P w K mg base (a_Add_init K) ["self", "slot", "value"] 3 (spInit (c_Add K) .add) := by
  have GS : Ok P w K mg base (a_check_slot K) _ 2 (spCheck 2) := ok_check_slot T
  have GV : Ok P w K mg base (a_check_value K) _ 2 (spCheck 7) := ok_check_value T
  refine ok_of T.f_Add_init sc_Add_init (fun _ _ _ _ _ _ us hl => match us, hl with | [_, _, _], _ => rfl) (fun vs H Q E h => ?_) (fun cdv A outer s0 H vs Q E hr h => ?_)
  · obtain ⟨p, dx, s, v, rfl, _⟩ := h
    rfl
  · obtain ⟨p, dx, s, v, rfl, ⟨hs, hv, hv2, hne⟩, hp, k⟩ := h
    have b1 : (0 : Int) ≤ (s : Int) := Int.natCast_nonneg _
    have b2 : (s : Int) ≤ 2 := Int.ofNat_le.mpr hs
    have b3 : (0 : Int) ≤ (v : Int) := Int.natCast_nonneg _
    have b4 : (v : Int) ≤ 7 := Int.ofNat_le.mpr hv
    refine ⟨_, pss_cons (ps_expr (pe_c GS hr T.g_check_slot (pa_cons (pv 1) pa_nil))) (pss_cons (ps_expr (pe_c GV hr T.g_check_value (pa_cons (pv 2) pa_nil))) (pss_cons (ps_fld (pv 0) (pv 1) rfl) (pss_one (ps_fld (pv 0) (pv 2) rfl)))), ?_⟩
    refine ⟨_, rfl, s, rfl, b1, b2, _, rfl, v, rfl, b3, b4, _, rfl, _, rfl, p, c_Add K, dx, [], rfl, hp, T.o_Add.cl, T.n_Add_slot, (by show 0 < 1000; decide), _, rfl, _, rfl, p, c_Add K, dx, _, rfl, upd_same, T.o_Add.cl, T.n_Add_value, (by show 1 < 1000; decide), ?_⟩
    refine k _ (fun b u hb e => ?_) ?_
    · rw [upd_ne hb, upd_ne hb]
      exact e
    · rw [upd_same, putF2 slot_value] <;> rfl
theorem sc_Add_slots : FnScope ["self"] ["self"] (defScope s_Add_slots) := ⟨rfl, rfl, rfl, by decide +kernel, rfl, by decide +kernel, by decide +kernel⟩
theorem ok_Add_slots (T : Txt K mg) : Ok P w K mg base (a_Add_slots K) ["self"] 1 (spSlots K .add) := by
  refine ok_of T.f_Add_slots sc_Add_slots (fun _ _ _ _ _ _ us hl => match us, hl with | [_], _ => rfl) (fun vs H Q E h => ?_) (fun cdv A outer s0 H vs Q E hr h => ?_)
  · obtain ⟨a, s, v, rfl, _⟩ := h
    rfl
  · obtain ⟨a, s, v, rfl, ⟨dx, ha⟩, ok, k⟩ := h
    refine ⟨_, pss_one (ps_ret (pe_lst (pa_cons (pe_fld (pv 0) rfl) pa_nil))), ?_⟩
    refine ⟨_, rfl, a, c_Add K, dx, _, _, rfl, ha, T.o_Add.cl, T.n_Add_slot, look1, (by show 1 ≤ sizeLine; decide), fun l hl => ?_⟩
    exact k l _ (same_upd hl) upd_same
theorem sc_Add_eq : FnScope ["self", "other"] ["self", "other"] (defScope s_Add_eq) := ⟨rfl, rfl, rfl, by decide +kernel, rfl, by decide +kernel, by decide +kernel⟩
theorem kit_Add {K : PySem.W.Frag} : PySem.W.kitOne K (.ref (c_Add K)) (.ref (c_Add K)) = some true := by
  unfold PySem.W.kitOne
  rw [if_pos (by simp)]
theorem ok_Add_eq (T : Txt K mg) : Ok P w K mg base (a_Add_eq K) ["self", "other"] 1 (spEqOne K .add) := by
  refine ok_of T.f_Add_eq sc_Add_eq (fun _ _ _ _ _ _ us hl => match us, hl with | [_, _], _ => rfl) (fun vs H Q E h => ?_) (fun cdv A outer s0 H vs Q E hr h => ?_)
  · obtain ⟨a, b, s, v, rfl, _⟩ := h
    rfl
  · obtain ⟨a, b, s, v, rfl, ⟨dx, ha⟩, ⟨dy, hb⟩, k⟩ := h
    refine ⟨_, pss_one (ps_ret (pe_and (pe_callB call_isi (by rfl) T.z_isinstance (by decide +kernel) (pa_cons (pv 1) (pa_cons (pe_glob (v := .ref (c_Add K)) (by rfl) T.g_Add rfl) pa_nil)))
      (pe_and (pe_cmpR op_eq (pe_fld (pv 0) rfl) (pe_fld (pv 1) rfl) (nomark _)) (pe_one (pe_cmpR op_eq (pe_fld (pv 0) rfl) (pe_fld (pv 1) rfl) (nomark _)))))), ?_⟩
    refine ⟨_, rfl, _, _, _, _, true, rfl, .own (c_Add K), T.o_Add.ty hb, kit_Add, true, rfl, iteT ?_⟩
    refine ⟨_, rfl, a, c_Add K, dx, _, _, rfl, ha, T.o_Add.cl, T.n_Add_slot, look1, _, rfl, b, c_Add K, dy, _, _, rfl, hb, T.o_Add.cl, T.n_Add_slot, look1, rfl, true, congrArg V.bl (decide_eq_true rfl), iteT ?_⟩
    refine ⟨_, rfl, a, c_Add K, dx, _, _, rfl, ha, T.o_Add.cl, T.n_Add_value, look2 slot_value.symm, _, rfl, b, c_Add K, dy, _, _, rfl, hb, T.o_Add.cl, T.n_Add_value, look2 slot_value.symm, rfl, ?_⟩
    have e : decide (V.int (v : Int) = V.int (v : Int)) = true := decide_eq_true rfl
    show Q (.bl (decide (V.int (v : Int) = V.int (v : Int)))) H
    rw [e]
    exact k
/-! AddSlot -/
theorem sc_AddSlot_init : FnScope ["self", "slot", "source"] ["self", "slot", "source"] (defScope s_AddSlot_init) := ⟨rfl, rfl, rfl, by decide +kernel, rfl, by decide +kernel, by decide +kernel⟩
theorem ok_AddSlot_init (T : Txt K mg) : Ok P w K mg base (a_AddSlot_init K) ["self", "slot", "source"] 3 (spInit (c_AddSlot K) .addslot) := by
  have GS : Ok P w K mg base (a_check_slot K) _ 2 (spCheck 2) := ok_check_slot T
  have GV : Ok P w K mg base (a_check_value K) _ 2 (spCheck 7) := ok_check_value T
  refine ok_of T.f_AddSlot_init sc_AddSlot_init (fun _ _ _ _ _ _ us hl => match us, hl with | [_, _, _], _ => rfl) (fun vs H Q E h => ?_) (fun cdv A outer s0 H vs Q E hr h => ?_)
  · obtain ⟨p, dx, s, v, rfl, _⟩ := h
    rfl
  · obtain ⟨p, dx, s, v, rfl, ⟨hs, hv, hv2, hne⟩, hp, k⟩ := h
    have b1 : (0 : Int) ≤ (s : Int) := Int.natCast_nonneg _
    have b2 : (s : Int) ≤ 2 := Int.ofNat_le.mpr hs
    have b3 : (0 : Int) ≤ (v : Int) := Int.natCast_nonneg _
    have b4 : (v : Int) ≤ 7 := Int.ofNat_le.mpr hv
    have b5 : (v : Int) ≤ 2 := Int.ofNat_le.mpr (hv2 rfl)
    refine ⟨_, pss_cons (ps_expr (pe_c GS hr T.g_check_slot (pa_cons (pv 1) pa_nil))) (pss_cons (ps_expr (pe_c GS hr T.g_check_slot (pa_cons (pv 2) pa_nil))) (pss_cons (ps_fld (pv 0) (pv 1) rfl) (pss_one (ps_fld (pv 0) (pv 2) rfl)))), ?_⟩
    refine ⟨_, rfl, s, rfl, b1, b2, _, rfl, v, rfl, b3, b5, _, rfl, _, rfl, p, c_AddSlot K, dx, [], rfl, hp, T.o_AddSlot.cl, T.n_AddSlot_slot, (by show 0 < 1000; decide), _, rfl, _, rfl, p, c_AddSlot K, dx, _, rfl, upd_same, T.o_AddSlot.cl, T.n_AddSlot_source, (by show 1 < 1000; decide), ?_⟩
    refine k _ (fun b u hb e => ?_) ?_
    · rw [upd_ne hb, upd_ne hb]
      exact e
    · rw [upd_same, putF2 slot_source] <;> rfl
theorem sc_AddSlot_slots : FnScope ["self"] ["self"] (defScope s_AddSlot_slots) := ⟨rfl, rfl, rfl, by decide +kernel, rfl, by decide +kernel, by decide +kernel⟩
theorem ok_AddSlot_slots (T : Txt K mg) : Ok P w K mg base (a_AddSlot_slots K) ["self"] 1 (spSlots K .addslot) := by
  refine ok_of T.f_AddSlot_slots sc_AddSlot_slots (fun _ _ _ _ _ _ us hl => match us, hl with | [_], _ => rfl) (fun vs H Q E h => ?_) (fun cdv A outer s0 H vs Q E hr h => ?_)
  · obtain ⟨a, s, v, rfl, _⟩ := h
    rfl
  · obtain ⟨a, s, v, rfl, ⟨dx, ha⟩, ok, k⟩ := h
    refine ⟨_, pss_one (ps_ret (pe_callB (cr_sortedSet rfl) (by rfl) T.z_sorted (by decide +kernel) (pa_cons (pe_callTy (cr_setI rfl) (by rfl) T.z_set (by decide +kernel) (pa_cons (pe_lst (pa_cons (pe_fld (pv 0) rfl) (pa_cons (pe_fld (pv 0) rfl) pa_nil))) pa_nil)) pa_nil))), ?_⟩
    refine ⟨_, rfl, a, c_AddSlot K, dx, _, _, rfl, ha, T.o_AddSlot.cl, T.n_AddSlot_slot, look1, _, rfl, a, c_AddSlot K, dx, _, _, rfl, ha, T.o_AddSlot.cl, T.n_AddSlot_source, look2 slot_source.symm, (by show 2 ≤ sizeLine; decide), fun l hl => ?_⟩
    refine ⟨l, [(s : Int), (v : Int)], rfl, SqL.of upd_same, (by show 2 < 60; decide), fun q c hq hc => ?_⟩
    refine ⟨q, _, c, rfl, upd_same, Nat.lt_of_le_of_lt hc (by show 2 < 64; decide), fun ns p srt mem _ hp => ?_⟩
    refine k p _ (((same_upd hl).trans (same_upd hq)).trans (same_upd hp)) ?_
    have e : ns = two s v := two_set srt fun z => (mem z).trans decide_eq_true_iff
    rw [upd_same, e] <;> rfl
theorem sc_AddSlot_eq : FnScope ["self", "other"] ["self", "other"] (defScope s_AddSlot_eq) := ⟨rfl, rfl, rfl, by decide +kernel, rfl, by decide +kernel, by decide +kernel⟩
theorem kit_AddSlot {K : PySem.W.Frag} : PySem.W.kitOne K (.ref (c_AddSlot K)) (.ref (c_AddSlot K)) = some true := by
  unfold PySem.W.kitOne
  rw [if_pos (by simp)]
theorem ok_AddSlot_eq (T : Txt K mg) : Ok P w K mg base (a_AddSlot_eq K) ["self", "other"] 1 (spEqOne K .addslot) := by
  refine ok_of T.f_AddSlot_eq sc_AddSlot_eq (fun _ _ _ _ _ _ us hl => match us, hl with | [_, _], _ => rfl) (fun vs H Q E h => ?_) (fun cdv A outer s0 H vs Q E hr h => ?_)
  · obtain ⟨a, b, s, v, rfl, _⟩ := h
    rfl
  · obtain ⟨a, b, s, v, rfl, ⟨dx, ha⟩, ⟨dy, hb⟩, k⟩ := h
    refine ⟨_, pss_one (ps_ret (pe_and (pe_callB call_isi (by rfl) T.z_isinstance (by decide +kernel) (pa_cons (pv 1) (pa_cons (pe_glob (v := .ref (c_AddSlot K)) (by rfl) T.g_AddSlot rfl) pa_nil)))
      (pe_and (pe_cmpR op_eq (pe_fld (pv 0) rfl) (pe_fld (pv 1) rfl) (nomark _)) (pe_one (pe_cmpR op_eq (pe_fld (pv 0) rfl) (pe_fld (pv 1) rfl) (nomark _)))))), ?_⟩
    refine ⟨_, rfl, _, _, _, _, true, rfl, .own (c_AddSlot K), T.o_AddSlot.ty hb, kit_AddSlot, true, rfl, iteT ?_⟩
    refine ⟨_, rfl, a, c_AddSlot K, dx, _, _, rfl, ha, T.o_AddSlot.cl, T.n_AddSlot_slot, look1, _, rfl, b, c_AddSlot K, dy, _, _, rfl, hb, T.o_AddSlot.cl, T.n_AddSlot_slot, look1, rfl, true, congrArg V.bl (decide_eq_true rfl), iteT ?_⟩
    refine ⟨_, rfl, a, c_AddSlot K, dx, _, _, rfl, ha, T.o_AddSlot.cl, T.n_AddSlot_source, look2 slot_source.symm, _, rfl, b, c_AddSlot K, dy, _, _, rfl, hb, T.o_AddSlot.cl, T.n_AddSlot_source, look2 slot_source.symm, rfl, ?_⟩
    have e : decide (V.int (v : Int) = V.int (v : Int)) = true := decide_eq_true rfl
    show Q (.bl (decide (V.int (v : Int) = V.int (v : Int)))) H
    rw [e]
    exact k
/-! Raise -/
theorem sc_Raise_init : FnScope ["self", "slot", "value"] ["self", "slot", "value"] (defScope s_Raise_init) := ⟨rfl, rfl, rfl, by decide +kernel, rfl, by decide +kernel, by decide +kernel⟩
theorem ok_Raise_init (T : Txt K mg) : Ok P w K mg base (a_Raise_init K) ["self", "slot", "value"] 3 (spInit (c_Raise K) .rais) := by
  have GS : Ok P w K mg base (a_check_slot K) _ 2 (spCheck 2) := ok_check_slot T
  have GV : Ok P w K mg base (a_check_value K) _ 2 (spCheck 7) := ok_check_value T
  refine ok_of T.f_Raise_init sc_Raise_init (fun _ _ _ _ _ _ us hl => match us, hl with | [_, _, _], _ => rfl) (fun vs H Q E h => ?_) (fun cdv A outer s0 H vs Q E hr h => ?_)
  · obtain ⟨p, dx, s, v, rfl, _⟩ := h
    rfl
  · obtain ⟨p, dx, s, v, rfl, ⟨hs, hv, hv2, hne⟩, hp, k⟩ := h
    have b1 : (0 : Int) ≤ (s : Int) := Int.natCast_nonneg _
    have b2 : (s : Int) ≤ 2 := Int.ofNat_le.mpr hs
    have b3 : (0 : Int) ≤ (v : Int) := Int.natCast_nonneg _
    have b4 : (v : Int) ≤ 7 := Int.ofNat_le.mpr hv
    refine ⟨_, pss_cons (ps_expr (pe_c GS hr T.g_check_slot (pa_cons (pv 1) pa_nil))) (pss_cons (ps_expr (pe_c GV hr T.g_check_value (pa_cons (pv 2) pa_nil))) (pss_cons (ps_fld (pv 0) (pv 1) rfl) (pss_one (ps_fld (pv 0) (pv 2) rfl)))), ?_⟩
    refine ⟨_, rfl, s, rfl, b1, b2, _, rfl, v, rfl, b3, b4, _, rfl, _, rfl, p, c_Raise K, dx, [], rfl, hp, T.o_Raise.cl, T.n_Raise_slot, (by show 0 < 1000; decide), _, rfl, _, rfl, p, c_Raise K, dx, _, rfl, upd_same, T.o_Raise.cl, T.n_Raise_value, (by show 1 < 1000; decide), ?_⟩
    refine k _ (fun b u hb e => ?_) ?_
    · rw [upd_ne hb, upd_ne hb]
      exact e
    · rw [upd_same, putF2 slot_value] <;> rfl
theorem sc_Raise_slots : FnScope ["self"] ["self"] (defScope s_Raise_slots) := ⟨rfl, rfl, rfl, by decide +kernel, rfl, by decide +kernel, by decide +kernel⟩
theorem ok_Raise_slots (T : Txt K mg) : Ok P w K mg base (a_Raise_slots K) ["self"] 1 (spSlots K .rais) := by
  refine ok_of T.f_Raise_slots sc_Raise_slots (fun _ _ _ _ _ _ us hl => match us, hl with | [_], _ => rfl) (fun vs H Q E h => ?_) (fun cdv A outer s0 H vs Q E hr h => ?_)
  · obtain ⟨a, s, v, rfl, _⟩ := h
    rfl
  · obtain ⟨a, s, v, rfl, ⟨dx, ha⟩, ok, k⟩ := h
    refine ⟨_, pss_one (ps_ret (pe_lst (pa_cons (pe_fld (pv 0) rfl) pa_nil))), ?_⟩
    refine ⟨_, rfl, a, c_Raise K, dx, _, _, rfl, ha, T.o_Raise.cl, T.n_Raise_slot, look1, (by show 1 ≤ sizeLine; decide), fun l hl => ?_⟩
    exact k l _ (same_upd hl) upd_same
theorem sc_Raise_eq : FnScope ["self", "other"] ["self", "other"] (defScope s_Raise_eq) := ⟨rfl, rfl, rfl, by decide +kernel, rfl, by decide +kernel, by decide +kernel⟩
theorem kit_Raise {K : PySem.W.Frag} : PySem.W.kitOne K (.ref (c_Raise K)) (.ref (c_Raise K)) = some true := by
  unfold PySem.W.kitOne
  rw [if_pos (by simp)]
theorem ok_Raise_eq (T : Txt K mg) : Ok P w K mg base (a_Raise_eq K) ["self", "other"] 1 (spEqOne K .rais) := by
  refine ok_of T.f_Raise_eq sc_Raise_eq (fun _ _ _ _ _ _ us hl => match us, hl with | [_, _], _ => rfl) (fun vs H Q E h => ?_) (fun cdv A outer s0 H vs Q E hr h => ?_)
  · obtain ⟨a, b, s, v, rfl, _⟩ := h
    rfl
  · obtain ⟨a, b, s, v, rfl, ⟨dx, ha⟩, ⟨dy, hb⟩, k⟩ := h
    refine ⟨_, pss_one (ps_ret (pe_and (pe_callB call_isi (by rfl) T.z_isinstance (by decide +kernel) (pa_cons (pv 1) (pa_cons (pe_glob (v := .ref (c_Raise K)) (by rfl) T.g_Raise rfl) pa_nil)))
      (pe_and (pe_cmpR op_eq (pe_fld (pv 0) rfl) (pe_fld (pv 1) rfl) (nomark _)) (pe_one (pe_cmpR op_eq (pe_fld (pv 0) rfl) (pe_fld (pv 1) rfl) (nomark _)))))), ?_⟩
    refine ⟨_, rfl, _, _, _, _, true, rfl, .own (c_Raise K), T.o_Raise.ty hb, kit_Raise, true, rfl, iteT ?_⟩
    refine ⟨_, rfl, a, c_Raise K, dx, _, _, rfl, ha, T.o_Raise.cl, T.n_Raise_slot, look1, _, rfl, b, c_Raise K, dy, _, _, rfl, hb, T.o_Raise.cl, T.n_Raise_slot, look1, rfl, true, congrArg V.bl (decide_eq_true rfl), iteT ?_⟩
    refine ⟨_, rfl, a, c_Raise K, dx, _, _, rfl, ha, T.o_Raise.cl, T.n_Raise_value, look2 slot_value.symm, _, rfl, b, c_Raise K, dy, _, _, rfl, hb, T.o_Raise.cl, T.n_Raise_value, look2 slot_value.symm, rfl, ?_⟩
    have e : decide (V.int (v : Int) = V.int (v : Int)) = true := decide_eq_true rfl
    show Q (.bl (decide (V.int (v : Int) = V.int (v : Int)))) H
    rw [e]
    exact k
/-! Lower -/
theorem sc_Lower_init : FnScope ["self", "slot", "value"] ["self", "slot", "value"] (defScope s_Lower_init) := ⟨rfl, rfl, rfl, by decide +kernel, rfl, by decide +kernel, by decide +kernel⟩
theorem ok_Lower_init (T : Txt K mg) : Ok P w K mg base (a_Lower_init K) ["self", "slot", "value"] 3 (spInit (c_Lower K) .lower) := by
  have GS : Ok P w K mg base (a_check_slot K) _ 2 (spCheck 2) := ok_check_slot T
  have GV : Ok P w K mg base (a_check_value K) _ 2 (spCheck 7) := ok_check_value T
  refine ok_of T.f_Lower_init sc_Lower_init (fun _ _ _ _ _ _ us hl => match us, hl with | [_, _, _], _ => rfl) (fun vs H Q E h => ?_) (fun cdv A outer s0 H vs Q E hr h => ?_)
  · obtain ⟨p, dx, s, v, rfl, _⟩ := h
    rfl
  · obtain ⟨p, dx, s, v, rfl, ⟨hs, hv, hv2, hne⟩, hp, k⟩ := h
    have b1 : (0 : Int) ≤ (s : Int) := Int.natCast_nonneg _
    have b2 : (s : Int) ≤ 2 := Int.ofNat_le.mpr hs
    have b3 : (0 : Int) ≤ (v : Int) := Int.natCast_nonneg _
    have b4 : (v : Int) ≤ 7 := Int.ofNat_le.mpr hv
    refine ⟨_, pss_cons (ps_expr (pe_c GS hr T.g_check_slot (pa_cons (pv 1) pa_nil))) (pss_cons (ps_expr (pe_c GV hr T.g_check_value (pa_cons (pv 2) pa_nil))) (pss_cons (ps_fld (pv 0) (pv 1) rfl) (pss_one (ps_fld (pv 0) (pv 2) rfl)))), ?_⟩
    refine ⟨_, rfl, s, rfl, b1, b2, _, rfl, v, rfl, b3, b4, _, rfl, _, rfl, p, c_Lower K, dx, [], rfl, hp, T.o_Lower.cl, T.n_Lower_slot, (by show 0 < 1000; decide), _, rfl, _, rfl, p, c_Lower K, dx, _, rfl, upd_same, T.o_Lower.cl, T.n_Lower_value, (by show 1 < 1000; decide), ?_⟩
    refine k _ (fun b u hb e => ?_) ?_
    · rw [upd_ne hb, upd_ne hb]
      exact e
    · rw [upd_same, putF2 slot_value] <;> rfl
theorem sc_Lower_slots : FnScope ["self"] ["self"] (defScope s_Lower_slots) := ⟨rfl, rfl, rfl, by decide +kernel, rfl, by decide +kernel, by decide +kernel⟩
theorem ok_Lower_slots (T : Txt K mg) : Ok P w K mg base (a_Lower_slots K) ["self"] 1 (spSlots K .lower) := by
  refine ok_of T.f_Lower_slots sc_Lower_slots (fun _ _ _ _ _ _ us hl => match us, hl with | [_], _ => rfl) (fun vs H Q E h => ?_) (fun cdv A outer s0 H vs Q E hr h => ?_)
  · obtain ⟨a, s, v, rfl, _⟩ := h
    rfl
  · obtain ⟨a, s, v, rfl, ⟨dx, ha⟩, ok, k⟩ := h
    refine ⟨_, pss_one (ps_ret (pe_lst (pa_cons (pe_fld (pv 0) rfl) pa_nil))), ?_⟩
    refine ⟨_, rfl, a, c_Lower K, dx, _, _, rfl, ha, T.o_Lower.cl, T.n_Lower_slot, look1, (by show 1 ≤ sizeLine; decide), fun l hl => ?_⟩
    exact k l _ (same_upd hl) upd_same
theorem sc_Lower_eq : FnScope ["self", "other"] ["self", "other"] (defScope s_Lower_eq) := ⟨rfl, rfl, rfl, by decide +kernel, rfl, by decide +kernel, by decide +kernel⟩
theorem kit_Lower {K : PySem.W.Frag} : PySem.W.kitOne K (.ref (c_Lower K)) (.ref (c_Lower K)) = some true := by
  unfold PySem.W.kitOne
  rw [if_pos (by simp)]
theorem ok_Lower_eq (T : Txt K mg) : Ok P w K mg base (a_Lower_eq K) ["self", "other"] 1 (spEqOne K .lower) := by
  refine ok_of T.f_Lower_eq sc_Lower_eq (fun _ _ _ _ _ _ us hl => match us, hl with | [_, _], _ => rfl) (fun vs H Q E h => ?_) (fun cdv A outer s0 H vs Q E hr h => ?_)
  · obtain ⟨a, b, s, v, rfl, _⟩ := h
    rfl
  · obtain ⟨a, b, s, v, rfl, ⟨dx, ha⟩, ⟨dy, hb⟩, k⟩ := h
    refine ⟨_, pss_one (ps_ret (pe_and (pe_callB call_isi (by rfl) T.z_isinstance (by decide +kernel) (pa_cons (pv 1) (pa_cons (pe_glob (v := .ref (c_Lower K)) (by rfl) T.g_Lower rfl) pa_nil)))
      (pe_and (pe_cmpR op_eq (pe_fld (pv 0) rfl) (pe_fld (pv 1) rfl) (nomark _)) (pe_one (pe_cmpR op_eq (pe_fld (pv 0) rfl) (pe_fld (pv 1) rfl) (nomark _)))))), ?_⟩
    refine ⟨_, rfl, _, _, _, _, true, rfl, .own (c_Lower K), T.o_Lower.ty hb, kit_Lower, true, rfl, iteT ?_⟩
    refine ⟨_, rfl, a, c_Lower K, dx, _, _, rfl, ha, T.o_Lower.cl, T.n_Lower_slot, look1, _, rfl, b, c_Lower K, dy, _, _, rfl, hb, T.o_Lower.cl, T.n_Lower_slot, look1, rfl, true, congrArg V.bl (decide_eq_true rfl), iteT ?_⟩
    refine ⟨_, rfl, a, c_Lower K, dx, _, _, rfl, ha, T.o_Lower.cl, T.n_Lower_value, look2 slot_value.symm, _, rfl, b, c_Lower K, dy, _, _, rfl, hb, T.o_Lower.cl, T.n_Lower_value, look2 slot_value.symm, rfl, ?_⟩
    have e : decide (V.int (v : Int) = V.int (v : Int)) = true := decide_eq_true rfl
    show Q (.bl (decide (V.int (v : Int) = V.int (v : Int)))) H
    rw [e]
    exact k
end
end OP
namespace OP
open PySem PySem.Spec PyProof.Rows L2
theorem One.s_mem (o : One) : (o.s : Int) ∈ o.slots := by
  unfold One.slots
  split
  · exact two_mem.mpr List.mem_cons_self
  · exact List.mem_cons_self
theorem One.v_mem (o : One) (h : o.k.src = true) : (o.v : Int) ∈ o.slots := by
  unfold One.slots
  rw [if_pos h]
  exact two_mem.mpr (List.mem_cons_of_mem _ List.mem_cons_self)
theorem two_len (s v : Nat) : (two s v).length ≤ 2 := by
  unfold two
  split
  · show 1 ≤ 2; decide
  · split <;> exact Nat.le_refl 2
theorem One.slots_len (o : One) : o.slots.length ≤ 2 := by
  unfold One.slots
  split
  · exact two_len _ _
  · show 1 ≤ 2; decide
section
variable {P : Program} {w : World} {K : PySem.W.Frag} {mg : Str → Option Value} {base : Heap}
theorem sc_Put_apply : FnScope ["self", "store"] ["self", "store"] (defScope s_Put_apply) := ⟨rfl, rfl, rfl, by decide +kernel, rfl, by decide +kernel, by decide +kernel⟩
theorem ok_Put_apply (T : Txt K mg) : Ok P w K mg base (a_Put_apply K) ["self", "store"] 4 (spApply K .put) := by
  have GL : Ok P w K mg base (a_Put_slots K) _ 1 (spSlots K .put) := ok_Put_slots T
  have GC : Ok P w K mg base (a_check_store K) _ 3 (spCheckStore K) := ok_check_store T
  have GR : Ok P w K mg base (a_replaced K) _ 1 spReplaced := ok_replaced T
  obtain ⟨u8, cr, cv⟩ := T.modulus
  refine ok_of T.f_Put_apply sc_Put_apply (fun _ _ _ _ _ _ us hl => match us, hl with | [_, _], _ => rfl) (fun vs H Q E h => ?_) (fun cdv A outer s0 H vs Q E hr h => ?_)
  · obtain ⟨a, st, s, v, xs, rfl, _⟩ := h
    rfl
  · obtain ⟨a, st, s, v, xs, rfl, ⟨dx, ha⟩, ok, hst, sok, hlt, k⟩ := h
    have hr1 : Room 1 _ := hr.mono (by decide)
    have hr2 : Room 2 _ := hr.mono (by decide)
    have slt : s < xs.length := Int.ofNat_lt.mp (hlt _ (One.s_mem ⟨.put, s, v⟩))
    have u0 := ok.v7
    refine ⟨_, pss_cons (ps_expr (pe_c GC hr T.g_check_store (pa_cons (pv 1) (pa_cons (pe_pr (pv 0) T.o_Put T.p_Put_slots GL hr2) pa_nil))))
      (pss_one (ps_ret (pe_c GR hr1 T.g_replaced (pa_cons (pv 1) (pa_cons (pe_fld (pv 0) rfl) (pa_cons (pe_fld (pv 0) rfl) pa_nil)))))), ?_⟩
    refine ⟨_, rfl, _, rfl, a, dx, _, rfl, ha, a, s, v, rfl, ⟨dx, ha⟩, ok, fun r H1 s1 e1 => ?_⟩
    refine ⟨st, r, xs, _, rfl, s1 _ _ hst, sok, SqL.of e1, Nat.le_trans (One.slots_len _) (by decide), hlt, fun H2 s2 => ?_⟩
    have ha2 := s2 _ _ (s1 _ _ ha)
    have hst2 := s2 _ _ (s1 _ _ hst)
    refine ⟨_, rfl, _, rfl, a, c_Put K, dx, _, _, rfl, ha2, T.o_Put.cl, T.n_Put_slot, look1, _, rfl, a, c_Put K, dx, _, _, rfl, ha2, T.o_Put.cl, T.n_Put_value, look2 slot_value.symm, st, xs, s, _, rfl, hst2, sok.hi, slt, fun r3 H3 s3 e3 => ?_⟩
    exact k r3 H3 ((s1.trans s2).trans s3) e3
theorem sc_Move_apply : FnScope ["self", "store"] ["self", "store"] (defScope s_Move_apply) := ⟨rfl, rfl, rfl, by decide +kernel, rfl, by decide +kernel, by decide +kernel⟩
theorem ok_Move_apply (T : Txt K mg) : Ok P w K mg base (a_Move_apply K) ["self", "store"] 4 (spApply K .move) := by
  have GL : Ok P w K mg base (a_Move_slots K) _ 1 (spSlots K .move) := ok_Move_slots T
  have GC : Ok P w K mg base (a_check_store K) _ 3 (spCheckStore K) := ok_check_store T
  have GR : Ok P w K mg base (a_replaced K) _ 1 spReplaced := ok_replaced T
  obtain ⟨u8, cr, cv⟩ := T.modulus
  refine ok_of T.f_Move_apply sc_Move_apply (fun _ _ _ _ _ _ us hl => match us, hl with | [_, _], _ => rfl) (fun vs H Q E h => ?_) (fun cdv A outer s0 H vs Q E hr h => ?_)
  · obtain ⟨a, st, s, v, xs, rfl, _⟩ := h
    rfl
  · obtain ⟨a, st, s, v, xs, rfl, ⟨dx, ha⟩, ok, hst, sok, hlt, k⟩ := h
    have hr1 : Room 1 _ := hr.mono (by decide)
    have hr2 : Room 2 _ := hr.mono (by decide)
    have slt : s < xs.length := Int.ofNat_lt.mp (hlt _ (One.s_mem ⟨.move, s, v⟩))
    have vlt : v < xs.length := Int.ofNat_lt.mp (hlt _ (One.v_mem ⟨.move, s, v⟩ rfl))
    refine ⟨_, pss_cons (ps_expr (pe_c GC hr T.g_check_store (pa_cons (pv 1) (pa_cons (pe_pr (pv 0) T.o_Move T.p_Move_slots GL hr2) pa_nil))))
      (pss_one (ps_ret (pe_c GR hr1 T.g_replaced (pa_cons (pv 1) (pa_cons (pe_fld (pv 0) rfl) (pa_cons (pe_ix ix_tup (pv 1) (pe_fld (pv 0) rfl) (fun _ _ => rfl)) pa_nil)))))), ?_⟩
    refine ⟨_, rfl, _, rfl, a, dx, _, rfl, ha, a, s, v, rfl, ⟨dx, ha⟩, ok, fun r H1 s1 e1 => ?_⟩
    refine ⟨st, r, xs, _, rfl, s1 _ _ hst, sok, SqL.of e1, Nat.le_trans (One.slots_len _) (by decide), hlt, fun H2 s2 => ?_⟩
    have ha2 := s2 _ _ (s1 _ _ ha)
    have hst2 := s2 _ _ (s1 _ _ hst)
    refine ⟨_, rfl, _, rfl, a, c_Move K, dx, _, _, rfl, ha2, T.o_Move.cl, T.n_Move_slot, look1, _, rfl, _, rfl, a, c_Move K, dx, _, _, rfl, ha2, T.o_Move.cl, T.n_Move_source, look2 slot_source.symm, st, _, _, _, rfl, rfl, SqT.of hst2, at_int vlt, st, xs, s, _, rfl, hst2, sok.hi, slt, fun r3 H3 s3 e3 => ?_⟩
    exact k r3 H3 ((s1.trans s2).trans s3) e3
theorem sc_Add_apply : FnScope ["self", "store"] ["self", "store"] (defScope s_Add_apply) := ⟨rfl, rfl, rfl, by decide +kernel, rfl, by decide +kernel, by decide +kernel⟩
theorem ok_Add_apply (T : Txt K mg) : Ok P w K mg base (a_Add_apply K) ["self", "store"] 4 (spApply K .add) := by
  have GL : Ok P w K mg base (a_Add_slots K) _ 1 (spSlots K .add) := ok_Add_slots T
  have GC : Ok P w K mg base (a_check_store K) _ 3 (spCheckStore K) := ok_check_store T
  have GR : Ok P w K mg base (a_replaced K) _ 1 spReplaced := ok_replaced T
  obtain ⟨u8, cr, cv⟩ := T.modulus
  refine ok_of T.f_Add_apply sc_Add_apply (fun _ _ _ _ _ _ us hl => match us, hl with | [_, _], _ => rfl) (fun vs H Q E h => ?_) (fun cdv A outer s0 H vs Q E hr h => ?_)
  · obtain ⟨a, st, s, v, xs, rfl, _⟩ := h
    rfl
  · obtain ⟨a, st, s, v, xs, rfl, ⟨dx, ha⟩, ok, hst, sok, hlt, k⟩ := h
    have hr1 : Room 1 _ := hr.mono (by decide)
    have hr2 : Room 2 _ := hr.mono (by decide)
    have slt : s < xs.length := Int.ofNat_lt.mp (hlt _ (One.s_mem ⟨.add, s, v⟩))
    have u0 := ok.v7
    refine ⟨_, pss_cons (ps_expr (pe_c GC hr T.g_check_store (pa_cons (pv 1) (pa_cons (pe_pr (pv 0) T.o_Add T.p_Add_slots GL hr2) pa_nil))))
      (pss_one (ps_ret (pe_c GR hr1 T.g_replaced (pa_cons (pv 1) (pa_cons (pe_fld (pv 0) rfl) (pa_cons (pe_op op_mod (pe_op op_add (pe_ix ix_tup (pv 1) (pe_fld (pv 0) rfl) (fun _ _ => rfl)) (pe_fld (pv 0) rfl)) (pe_cv K cr cv T.g_Change)) pa_nil)))))), ?_⟩
    refine ⟨_, rfl, _, rfl, a, dx, _, rfl, ha, a, s, v, rfl, ⟨dx, ha⟩, ok, fun r H1 s1 e1 => ?_⟩
    refine ⟨st, r, xs, _, rfl, s1 _ _ hst, sok, SqL.of e1, Nat.le_trans (One.slots_len _) (by decide), hlt, fun H2 s2 => ?_⟩
    have ha2 := s2 _ _ (s1 _ _ ha)
    have hst2 := s2 _ _ (s1 _ _ hst)
    refine ⟨_, rfl, _, rfl, a, c_Add K, dx, _, _, rfl, ha2, T.o_Add.cl, T.n_Add_slot, look1, _, rfl, _, rfl, a, c_Add K, dx, _, _, rfl, ha2, T.o_Add.cl, T.n_Add_slot, look1, st, _, _, _, rfl, rfl, SqT.of hst2, at_int slt, _, rfl, a, c_Add K, dx, _, _, rfl, ha2, T.o_Add.cl, T.n_Add_value, look2 slot_value.symm, _, _, rfl, rfl, _, _, rfl, rfl, (by show (0 : Int) < 8; decide), st, xs, s, _, rfl, hst2, sok.hi, slt, fun r3 H3 s3 e3 => ?_⟩
    exact k r3 H3 ((s1.trans s2).trans s3) e3
theorem sc_AddSlot_apply : FnScope ["self", "store"] ["self", "store"] (defScope s_AddSlot_apply) := ⟨rfl, rfl, rfl, by decide +kernel, rfl, by decide +kernel, by decide +kernel⟩
theorem ok_AddSlot_apply (T : Txt K mg) : Ok P w K mg base (a_AddSlot_apply K) ["self", "store"] 4 (spApply K .addslot) := by
  have GL : Ok P w K mg base (a_AddSlot_slots K) _ 1 (spSlots K .addslot) := ok_AddSlot_slots T
  have GC : Ok P w K mg base (a_check_store K) _ 3 (spCheckStore K) := ok_check_store T
  have GR : Ok P w K mg base (a_replaced K) _ 1 spReplaced := ok_replaced T
  obtain ⟨u8, cr, cv⟩ := T.modulus
  refine ok_of T.f_AddSlot_apply sc_AddSlot_apply (fun _ _ _ _ _ _ us hl => match us, hl with | [_, _], _ => rfl) (fun vs H Q E h => ?_) (fun cdv A outer s0 H vs Q E hr h => ?_)
  · obtain ⟨a, st, s, v, xs, rfl, _⟩ := h
    rfl
  · obtain ⟨a, st, s, v, xs, rfl, ⟨dx, ha⟩, ok, hst, sok, hlt, k⟩ := h
    have hr1 : Room 1 _ := hr.mono (by decide)
    have hr2 : Room 2 _ := hr.mono (by decide)
    have slt : s < xs.length := Int.ofNat_lt.mp (hlt _ (One.s_mem ⟨.addslot, s, v⟩))
    have vlt : v < xs.length := Int.ofNat_lt.mp (hlt _ (One.v_mem ⟨.addslot, s, v⟩ rfl))
    refine ⟨_, pss_cons (ps_expr (pe_c GC hr T.g_check_store (pa_cons (pv 1) (pa_cons (pe_pr (pv 0) T.o_AddSlot T.p_AddSlot_slots GL hr2) pa_nil))))
      (pss_one (ps_ret (pe_c GR hr1 T.g_replaced (pa_cons (pv 1) (pa_cons (pe_fld (pv 0) rfl) (pa_cons (pe_op op_mod (pe_op op_add (pe_ix ix_tup (pv 1) (pe_fld (pv 0) rfl) (fun _ _ => rfl)) (pe_ix ix_tup (pv 1) (pe_fld (pv 0) rfl) (fun _ _ => rfl))) (pe_cv K cr cv T.g_Change)) pa_nil)))))), ?_⟩
    refine ⟨_, rfl, _, rfl, a, dx, _, rfl, ha, a, s, v, rfl, ⟨dx, ha⟩, ok, fun r H1 s1 e1 => ?_⟩
    refine ⟨st, r, xs, _, rfl, s1 _ _ hst, sok, SqL.of e1, Nat.le_trans (One.slots_len _) (by decide), hlt, fun H2 s2 => ?_⟩
    have ha2 := s2 _ _ (s1 _ _ ha)
    have hst2 := s2 _ _ (s1 _ _ hst)
    refine ⟨_, rfl, _, rfl, a, c_AddSlot K, dx, _, _, rfl, ha2, T.o_AddSlot.cl, T.n_AddSlot_slot, look1, _, rfl, _, rfl, a, c_AddSlot K, dx, _, _, rfl, ha2, T.o_AddSlot.cl, T.n_AddSlot_slot, look1, st, _, _, _, rfl, rfl, SqT.of hst2, at_int slt, _, rfl, _, rfl, a, c_AddSlot K, dx, _, _, rfl, ha2, T.o_AddSlot.cl, T.n_AddSlot_source, look2 slot_source.symm, st, _, _, _, rfl, rfl, SqT.of hst2, at_int vlt, _, _, rfl, rfl, _, _, rfl, rfl, (by show (0 : Int) < 8; decide), st, xs, s, _, rfl, hst2, sok.hi, slt, fun r3 H3 s3 e3 => ?_⟩
    exact k r3 H3 ((s1.trans s2).trans s3) e3
theorem sc_Raise_apply : FnScope ["self", "store"] ["self", "store"] (defScope s_Raise_apply) := ⟨rfl, rfl, rfl, by decide +kernel, rfl, by decide +kernel, by decide +kernel⟩
theorem ok_Raise_apply (T : Txt K mg) : Ok P w K mg base (a_Raise_apply K) ["self", "store"] 4 (spApply K .rais) := by
  have GL : Ok P w K mg base (a_Raise_slots K) _ 1 (spSlots K .rais) := ok_Raise_slots T
  have GC : Ok P w K mg base (a_check_store K) _ 3 (spCheckStore K) := ok_check_store T
  have GR : Ok P w K mg base (a_replaced K) _ 1 spReplaced := ok_replaced T
  obtain ⟨u8, cr, cv⟩ := T.modulus
  refine ok_of T.f_Raise_apply sc_Raise_apply (fun _ _ _ _ _ _ us hl => match us, hl with | [_, _], _ => rfl) (fun vs H Q E h => ?_) (fun cdv A outer s0 H vs Q E hr h => ?_)
  · obtain ⟨a, st, s, v, xs, rfl, _⟩ := h
    rfl
  · obtain ⟨a, st, s, v, xs, rfl, ⟨dx, ha⟩, ok, hst, sok, hlt, k⟩ := h
    have hr1 : Room 1 _ := hr.mono (by decide)
    have hr2 : Room 2 _ := hr.mono (by decide)
    have slt : s < xs.length := Int.ofNat_lt.mp (hlt _ (One.s_mem ⟨.rais, s, v⟩))
    have u0 := ok.v7
    refine ⟨_, pss_cons (ps_expr (pe_c GC hr T.g_check_store (pa_cons (pv 1) (pa_cons (pe_pr (pv 0) T.o_Raise T.p_Raise_slots GL hr2) pa_nil))))
      (pss_one (ps_ret (pe_c GR hr1 T.g_replaced (pa_cons (pv 1) (pa_cons (pe_fld (pv 0) rfl) (pa_cons (pe_callB (call_max2 rfl) (by rfl) T.z_max (by decide +kernel) (pa_cons (pe_ix ix_tup (pv 1) (pe_fld (pv 0) rfl) (fun _ _ => rfl)) (pa_cons (pe_fld (pv 0) rfl) pa_nil))) pa_nil)))))), ?_⟩
    refine ⟨_, rfl, _, rfl, a, dx, _, rfl, ha, a, s, v, rfl, ⟨dx, ha⟩, ok, fun r H1 s1 e1 => ?_⟩
    refine ⟨st, r, xs, _, rfl, s1 _ _ hst, sok, SqL.of e1, Nat.le_trans (One.slots_len _) (by decide), hlt, fun H2 s2 => ?_⟩
    have ha2 := s2 _ _ (s1 _ _ ha)
    have hst2 := s2 _ _ (s1 _ _ hst)
    refine ⟨_, rfl, _, rfl, a, c_Raise K, dx, _, _, rfl, ha2, T.o_Raise.cl, T.n_Raise_slot, look1, _, rfl, _, rfl, a, c_Raise K, dx, _, _, rfl, ha2, T.o_Raise.cl, T.n_Raise_slot, look1, st, _, _, _, rfl, rfl, SqT.of hst2, at_int slt, _, rfl, a, c_Raise K, dx, _, _, rfl, ha2, T.o_Raise.cl, T.n_Raise_value, look2 slot_value.symm, _, _, rfl, st, xs, s, _, rfl, hst2, sok.hi, slt, fun r3 H3 s3 e3 => ?_⟩
    exact k r3 H3 ((s1.trans s2).trans s3) e3
theorem sc_Lower_apply : FnScope ["self", "store"] ["self", "store"] (defScope s_Lower_apply) := ⟨rfl, rfl, rfl, by decide +kernel, rfl, by decide +kernel, by decide +kernel⟩
theorem ok_Lower_apply (T : Txt K mg) : Ok P w K mg base (a_Lower_apply K) ["self", "store"] 4 (spApply K .lower) := by
  have GL : Ok P w K mg base (a_Lower_slots K) _ 1 (spSlots K .lower) := ok_Lower_slots T
  have GC : Ok P w K mg base (a_check_store K) _ 3 (spCheckStore K) := ok_check_store T
  have GR : Ok P w K mg base (a_replaced K) _ 1 spReplaced := ok_replaced T
  obtain ⟨u8, cr, cv⟩ := T.modulus
  refine ok_of T.f_Lower_apply sc_Lower_apply (fun _ _ _ _ _ _ us hl => match us, hl with | [_, _], _ => rfl) (fun vs H Q E h => ?_) (fun cdv A outer s0 H vs Q E hr h => ?_)
  · obtain ⟨a, st, s, v, xs, rfl, _⟩ := h
    rfl
  · obtain ⟨a, st, s, v, xs, rfl, ⟨dx, ha⟩, ok, hst, sok, hlt, k⟩ := h
    have hr1 : Room 1 _ := hr.mono (by decide)
    have hr2 : Room 2 _ := hr.mono (by decide)
    have slt : s < xs.length := Int.ofNat_lt.mp (hlt _ (One.s_mem ⟨.lower, s, v⟩))
    have u0 := ok.v7
    refine ⟨_, pss_cons (ps_expr (pe_c GC hr T.g_check_store (pa_cons (pv 1) (pa_cons (pe_pr (pv 0) T.o_Lower T.p_Lower_slots GL hr2) pa_nil))))
      (pss_one (ps_ret (pe_c GR hr1 T.g_replaced (pa_cons (pv 1) (pa_cons (pe_fld (pv 0) rfl) (pa_cons (pe_callB (call_min2 rfl) (by rfl) T.z_min (by decide +kernel) (pa_cons (pe_ix ix_tup (pv 1) (pe_fld (pv 0) rfl) (fun _ _ => rfl)) (pa_cons (pe_fld (pv 0) rfl) pa_nil))) pa_nil)))))), ?_⟩
    refine ⟨_, rfl, _, rfl, a, dx, _, rfl, ha, a, s, v, rfl, ⟨dx, ha⟩, ok, fun r H1 s1 e1 => ?_⟩
    refine ⟨st, r, xs, _, rfl, s1 _ _ hst, sok, SqL.of e1, Nat.le_trans (One.slots_len _) (by decide), hlt, fun H2 s2 => ?_⟩
    have ha2 := s2 _ _ (s1 _ _ ha)
    have hst2 := s2 _ _ (s1 _ _ hst)
    refine ⟨_, rfl, _, rfl, a, c_Lower K, dx, _, _, rfl, ha2, T.o_Lower.cl, T.n_Lower_slot, look1, _, rfl, _, rfl, a, c_Lower K, dx, _, _, rfl, ha2, T.o_Lower.cl, T.n_Lower_slot, look1, st, _, _, _, rfl, rfl, SqT.of hst2, at_int slt, _, rfl, a, c_Lower K, dx, _, _, rfl, ha2, T.o_Lower.cl, T.n_Lower_value, look2 slot_value.symm, _, _, rfl, st, xs, s, _, rfl, hst2, sok.hi, slt, fun r3 H3 s3 e3 => ?_⟩
    exact k r3 H3 ((s1.trans s2).trans s3) e3
end
end OP
namespace OP
open PySem PySem.Spec PyProof.Rows L2
/-! ### the six classes as one family -/
def slotsA (K : PySem.W.Frag) : Kind → Addr
  | .put => a_Put_slots K
  | .move => a_Move_slots K
  | .add => a_Add_slots K
  | .addslot => a_AddSlot_slots K
  | .rais => a_Raise_slots K
  | .lower => a_Lower_slots K
def applyA (K : PySem.W.Frag) : Kind → Addr
  | .put => a_Put_apply K
  | .move => a_Move_apply K
  | .add => a_Add_apply K
  | .addslot => a_AddSlot_apply K
  | .rais => a_Raise_apply K
  | .lower => a_Lower_apply K
def eqA (K : PySem.W.Frag) : Kind → Addr
  | .put => a_Put_eq K
  | .move => a_Move_eq K
  | .add => a_Add_eq K
  | .addslot => a_AddSlot_eq K
  | .rais => a_Raise_eq K
  | .lower => a_Lower_eq K
section
variable {P : Program} {w : World} {K : PySem.W.Frag} {mg : Str → Option Value} {base : Heap}
theorem Txt.own (T : Txt K mg) (k : Kind) : Own K (k.cls K) := by
  cases k
  · exact T.o_Put
  · exact T.o_Move
  · exact T.o_Add
  · exact T.o_AddSlot
  · exact T.o_Raise
  · exact T.o_Lower
theorem Txt.kitC (T : Txt K mg) (k : Kind) : PySem.W.kitOne K (.ref (k.cls K)) (.ref (c_Change K)) = some true := by
  cases k
  · exact T.k_Put
  · exact T.k_Move
  · exact T.k_Add
  · exact T.k_AddSlot
  · exact T.k_Raise
  · exact T.k_Lower
theorem Txt.kitIf (T : Txt K mg) (k : Kind) : PySem.W.kitOne K (.ref (k.cls K)) (.ref (c_If K)) = some false := by
  cases k
  · exact T.kIf_Put
  · exact T.kIf_Move
  · exact T.kIf_Add
  · exact T.kIf_AddSlot
  · exact T.kIf_Raise
  · exact T.kIf_Lower
theorem Txt.propS (T : Txt K mg) (k : Kind) : PropOf K (k.cls K) "slots" (He.ma K (k.cls K) "slots") (slotsA K k) := by
  cases k
  · exact T.p_Put_slots
  · exact T.p_Move_slots
  · exact T.p_Add_slots
  · exact T.p_AddSlot_slots
  · exact T.p_Raise_slots
  · exact T.p_Lower_slots
theorem Txt.methA (T : Txt K mg) (k : Kind) : Meth K (k.cls K) "apply" (applyA K k) := by
  cases k
  · exact T.m_Put_apply
  · exact T.m_Move_apply
  · exact T.m_Add_apply
  · exact T.m_AddSlot_apply
  · exact T.m_Raise_apply
  · exact T.m_Lower_apply
theorem Txt.methE (T : Txt K mg) (k : Kind) : Meth K (k.cls K) "__eq__" (eqA K k) := by
  cases k
  · exact T.m_Put_eq
  · exact T.m_Move_eq
  · exact T.m_Add_eq
  · exact T.m_AddSlot_eq
  · exact T.m_Raise_eq
  · exact T.m_Lower_eq
theorem ok_slots (T : Txt K mg) (k : Kind) : Ok P w K mg base (slotsA K k) ["self"] 1 (spSlots K k) := by
  cases k
  · exact ok_Put_slots T
  · exact ok_Move_slots T
  · exact ok_Add_slots T
  · exact ok_AddSlot_slots T
  · exact ok_Raise_slots T
  · exact ok_Lower_slots T
theorem ok_apply (T : Txt K mg) (k : Kind) : Ok P w K mg base (applyA K k) ["self", "store"] 4 (spApply K k) := by
  cases k
  · exact ok_Put_apply T
  · exact ok_Move_apply T
  · exact ok_Add_apply T
  · exact ok_AddSlot_apply T
  · exact ok_Raise_apply T
  · exact ok_Lower_apply T
theorem ok_eq (T : Txt K mg) (k : Kind) : Ok P w K mg base (eqA K k) ["self", "other"] 1 (spEqOne K k) := by
  cases k
  · exact ok_Put_eq T
  · exact ok_Move_eq T
  · exact ok_Add_eq T
  · exact ok_AddSlot_eq T
  · exact ok_Raise_eq T
  · exact ok_Lower_eq T
end
section
variable {X : Cx} {m : Str} {pos apos : Pos} {e o : Expr} {es : List Expr} {t : TA} {ta : TE} {f C : Addr} {ps : List Str} {k : Nat} {sp : Sp}
/-- o.m(e, ..) of an own class -/
theorem pe_mt {pl : Sem Bool} (he : PE X o ta) (c : Own X.K C) (hm : Meth X.K C m f) (O : Ok X.prog X.w X.K X.mg X.base f ps k sp) (hr : Room k X.A) (ha : PA X (e :: es) t)
    (h1 : starEach (e :: es) X.env = (false, eval e X.env) :: starEach es X.env := by rfl) (h2 : (backTo pos (starEach es X.env)).any (·.1) = false := by rfl)
    (h3 : eval (.Call (.Attribute o m apos) (e :: es) [] pos) X.env = (eval o X.env >>= fun ov => standAt apos.atName >>= fun _ => holding [ov] (getMethod ov m pl) >>= fun q => callWith pos q.1 q.2 (backTo pos (starEach (e :: es) X.env)) (backToKw pos (keywordEach [] X.env))) := by rfl) :
    PE X (.Call (.Attribute o m apos) (e :: es) [] pos) (tMeth C m sp [] E0 ta t) := by
  obtain ⟨⟨fd, G, b⟩, kp⟩ := O
  exact pe_meth he c.cl hm G hr b .nil pass0 ha h1 h2 h3
end
/-! ### If, and all changes -/
inductive Chg where
  | one (o : One)
  | iff (s v : Nat) (o : One)
deriving DecidableEq
def ifFlds (s v : Nat) (b : Addr) : List (Str × V) := [("slot", .int s), ("value", .int v), ("inner", .ref b)]
def ChgAt (K : PySem.W.Frag) (H : Hp) (a : Addr) : Chg → Prop
  | .one o => OneAt K H a o
  | .iff s v o => ∃ dx b, H a = some (.ins (c_If K) dx (ifFlds s v b)) ∧ OneAt K H b o
def Chg.Ok : Chg → Prop
  | .one o => o.Ok
  | .iff s v o => s ≤ 2 ∧ v ≤ 7 ∧ o.Ok
/-- those of 0, 1, 2 that are s or among the others -/
def three (s : Nat) (ns : List Int) : List Int := ((List.range 3).map fun n : Nat => (n : Int)).filter fun z => decide (z = s ∨ z ∈ ns)
def Chg.slots : Chg → List Int
  | .one o => o.slots
  | .iff s _ o => three s o.slots
def Chg.app : Chg → List Int → List Int
  | .one o, xs => o.app xs
  | .iff s v o, xs => if xs.getD s 0 = (v : Int) then o.app xs else xs
theorem OneAt.ext {K : PySem.W.Frag} {H H' : Hp} {a : Addr} {o : One} (e : Same H H') (h : OneAt K H a o) : OneAt K H' a o := by
  obtain ⟨dx, h⟩ := h
  exact ⟨dx, e _ _ h⟩
theorem ChgAt.ext {K : PySem.W.Frag} {H H' : Hp} {a : Addr} {c : Chg} (e : Same H H') (h : ChgAt K H a c) : ChgAt K H' a c := by
  cases c with
  | one o => exact OneAt.ext e h
  | iff s v o =>
    obtain ⟨dx, b, h1, h2⟩ := h
    exact ⟨dx, b, e _ _ h1, OneAt.ext e h2⟩
theorem One.slots_bd {o : One} (h : o.Ok) : ∀ z ∈ o.slots, 0 ≤ z ∧ z ≤ 2 := fun z hz => by
  have a := h.s2
  unfold One.slots at hz
  split at hz
  · rename_i q
    have b := h.v2 q
    rcases List.mem_cons.mp (two_mem.mp hz) with r | r
    · omega
    · rw [List.mem_singleton.mp r]; omega
  · rw [List.mem_singleton.mp hz]; omega
theorem three_lt (s : Nat) (ns : List Int) : (three s ns).Pairwise (· < ·) := List.Pairwise.filter _ (by decide)
theorem three_mem {s : Nat} {ns : List Int} (hs : s ≤ 2) (h : ∀ z ∈ ns, 0 ≤ z ∧ z ≤ 2) (z : Int) : z ∈ three s ns ↔ z = s ∨ z ∈ ns := by
  unfold three
  rw [List.mem_filter, decide_eq_true_iff]
  refine ⟨fun q => q.2, fun q => ⟨?_, q⟩⟩
  have b : 0 ≤ z ∧ z ≤ 2 := q.elim (fun q => by omega) (h z)
  have : z = 0 ∨ z = 1 ∨ z = 2 := by omega
  rcases this with r | r | r <;> subst r <;> decide
theorem three_set {s : Nat} {ms ns : List Int} (hs : s ≤ 2) (h : ∀ z ∈ ns, 0 ≤ z ∧ z ≤ 2) (srt : ms.Pairwise (· < ·)) (mem : ∀ z, z ∈ ms ↔ z ∈ (s : Int) :: ns) : ms = three s ns :=
  lt_uniq srt (three_lt s ns) fun z => (mem z).trans (List.mem_cons.trans (three_mem hs h z).symm)
theorem three_len (s : Nat) (ns : List Int) : (three s ns).length ≤ 3 := Nat.le_trans (List.length_filter_le _ _) (by decide)
theorem lookA {f g h : Str} {x y z : V} : ([(f, x), (g, y), (h, z)] : List (Str × V)).lookup f = some x := by simp [List.lookup]
theorem lookB {f g h : Str} {x y z : V} (q : g ≠ f) : ([(f, x), (g, y), (h, z)] : List (Str × V)).lookup g = some y := by
  have e : (g == f) = false := beq_eq_false_iff_ne.mpr q
  simp [List.lookup, e]
theorem lookC {f g h : Str} {x y z : V} (q : h ≠ f) (r : h ≠ g) : ([(f, x), (g, y), (h, z)] : List (Str × V)).lookup h = some z := by
  have e : (h == f) = false := beq_eq_false_iff_ne.mpr q
  have e2 : (h == g) = false := beq_eq_false_iff_ne.mpr r
  simp [List.lookup, e, e2]
theorem in_slot : ("inner" : Str) ≠ "slot" := by decide +kernel
theorem in_value : ("inner" : Str) ≠ "value" := by decide +kernel
theorem putF3 {f g h : Str} {x y z : V} (a : f ≠ g) (b : f ≠ h) (c : g ≠ h) : putF h z (putF g y (putF f x [])) = [(f, x), (g, y), (h, z)] := by
  rw [putF2 a]
  show (if f = h then _ else (f, x) :: (if g = h then _ else (g, y) :: putF h z [])) = _
  rw [if_neg b, if_neg c] <;> rfl
section
variable {P : Program} {w : World} {K : PySem.W.Frag} {mg : Str → Option Value} {base : Heap}
def spIfInit (K : PySem.W.Frag) : Sp := fun vs H Q _ => ∃ (p dx b : Addr) (s v : Nat) (o : One), vs = [.ref p, .int s, .int v, .ref b] ∧ s ≤ 2 ∧ v ≤ 7 ∧ OneAt K H b o ∧ H p = some (.ins (c_If K) dx []) ∧
  ∀ H', (∀ c u, c ≠ p → H c = some u → H' c = some u) → H' p = some (.ins (c_If K) dx (ifFlds s v b)) → Q .non H'
theorem sc_If_init : FnScope ["self", "slot", "value", "change"] ["self", "slot", "value", "change"] (defScope s_If_init) := ⟨rfl, rfl, rfl, by decide +kernel, rfl, by decide +kernel, by decide +kernel⟩
theorem ok_If_init (T : Txt K mg) : Ok P w K mg base (a_If_init K) ["self", "slot", "value", "change"] 3 (spIfInit K) := by
  have GS : Ok P w K mg base (a_check_slot K) _ 2 (spCheck 2) := ok_check_slot T
  have GV : Ok P w K mg base (a_check_value K) _ 2 (spCheck 7) := ok_check_value T
  refine ok_of T.f_If_init sc_If_init (fun _ _ _ _ _ _ us hl => match us, hl with | [_, _, _, _], _ => rfl) (fun vs H Q E h => ?_) (fun cdv A outer s0 H vs Q E hr h => ?_)
  · obtain ⟨p, dx, b, s, v, o, rfl, _⟩ := h
    rfl
  · obtain ⟨p, dx, b, s, v, o, rfl, hs, hv, ⟨dy, hb⟩, hp, k⟩ := h
    have b1 : (0 : Int) ≤ (s : Int) := Int.natCast_nonneg _
    have b2 : (s : Int) ≤ 2 := Int.ofNat_le.mpr hs
    have b3 : (0 : Int) ≤ (v : Int) := Int.natCast_nonneg _
    have b4 : (v : Int) ≤ 7 := Int.ofNat_le.mpr hv
    refine ⟨_, pss_cons (ps_expr (pe_c GS hr T.g_check_slot (pa_cons (pv 1) pa_nil))) (pss_cons (ps_expr (pe_c GV hr T.g_check_value (pa_cons (pv 2) pa_nil)))
      (pss_cons (ps_if (PW.pt (pw_or (pt_not (pt_val (pe_callB call_isi (by rfl) T.z_isinstance (by decide +kernel) (pa_cons (pv 3) (pa_cons (pe_glob (v := .ref (c_Change K)) (by rfl) T.g_Change rfl) pa_nil)))))
        (pw_or1 (pt_val (pe_callB call_isi (by rfl) T.z_isinstance (by decide +kernel) (pa_cons (pv 3) (pa_cons (pe_glob (v := .ref (c_If K)) (by rfl) T.g_If rfl) pa_nil))))))) (pss_one ps_never) pss_nil)
      (pss_cons (ps_fld (pv 0) (pv 1) rfl) (pss_cons (ps_fld (pv 0) (pv 2) rfl) (pss_one (ps_fld (pv 0) (pv 3) rfl)))))), ?_⟩
    refine ⟨_, rfl, s, rfl, b1, b2, _, rfl, v, rfl, b3, b4, ?_⟩
    refine ⟨_, rfl, _, _, _, _, true, rfl, .own (c_Change K), (T.own o.k).ty hb, T.kitC o.k, true, rfl, iteF ?_⟩
    refine ⟨_, rfl, _, _, _, _, false, rfl, .own (c_If K), (T.own o.k).ty hb, T.kitIf o.k, false, rfl, iteF ?_⟩
    refine ⟨_, rfl, _, rfl, p, c_If K, dx, [], rfl, hp, T.o_If.cl, T.n_If_slot, (by show 0 < 1000; decide), _, rfl, _, rfl, p, c_If K, dx, _, rfl, upd_same, T.o_If.cl, T.n_If_value, (by show 1 < 1000; decide),
      _, rfl, _, rfl, p, c_If K, dx, _, rfl, upd_same, T.o_If.cl, T.n_If_inner, (by rw [putF2 slot_value]; show 2 < 1000; decide), ?_⟩
    refine k _ (fun c u hc e => ?_) ?_
    · rw [upd_ne hc, upd_ne hc, upd_ne hc]
      exact e
    · rw [upd_same, putF3 slot_value in_slot.symm in_value.symm] <;> rfl
def spIfSlots (K : PySem.W.Frag) : Sp := fun vs H Q _ => ∃ (a dx b : Addr) (s v : Nat) (o : One), vs = [.ref a] ∧ H a = some (.ins (c_If K) dx (ifFlds s v b)) ∧ OneAt K H b o ∧ s ≤ 2 ∧ o.Ok ∧ ∀ r H', Same H H' → H' r = some (.lst ((three s o.slots).map V.int)) → Q (.ref r) H'
theorem sc_If_slots : FnScope ["self"] ["self"] (defScope s_If_slots) := ⟨rfl, rfl, rfl, by decide +kernel, rfl, by decide +kernel, by decide +kernel⟩
theorem ok_If_slots (T : Txt K mg) : Ok P w K mg base (a_If_slots K) ["self"] 3 (spIfSlots K) := by
  have GL : ∀ k, Ok P w K mg base (slotsA K k) ["self"] 1 (spSlots K k) := ok_slots T
  refine ok_of T.f_If_slots sc_If_slots (fun _ _ _ _ _ _ us hl => match us, hl with | [_], _ => rfl) (fun vs H Q E h => ?_) (fun cdv A outer s0 H vs Q E hr h => ?_)
  · obtain ⟨a, dx, b, s, v, o, rfl, _⟩ := h
    rfl
  · obtain ⟨a, dx, b, s, v, ⟨kd, os, ov⟩, rfl, ha, ⟨dy, hb⟩, hs, ok, k⟩ := h
    refine ⟨_, pss_one (ps_ret (pe_callB (cr_sortedSet rfl) (by rfl) T.z_sorted (by decide +kernel) (pa_cons (pe_callTy (cr_setI rfl) (by rfl) T.z_set (by decide +kernel) (pa_cons (pe_op op_cat (pe_lst (pa_cons (pe_fld (pv 0) rfl) pa_nil))
      (pe_any fun k : Kind => pe_pr (pe_fld (pv 0) rfl) (T.own k) (T.propS k) (GL k) hr)) pa_nil)) pa_nil))), ?_⟩
    refine ⟨_, rfl, a, c_If K, dx, _, _, rfl, ha, T.o_If.cl, T.n_If_slot, lookA, (by show 1 ≤ sizeLine; decide), fun l hl => ?_⟩
    have s1 : Same H _ := same_upd (o := .lst [V.int s]) hl
    refine ⟨kd, _, rfl, a, c_If K, dx, _, _, rfl, s1 _ _ ha, T.o_If.cl, T.n_If_inner, lookC in_slot in_value, b, dy, _, rfl, s1 _ _ hb, b, os, ov, rfl, ⟨dy, s1 _ _ hb⟩, ok, fun r H2 s2 e2 => ?_⟩
    have hl2 : H2 l = some (.lst [V.int s]) := s2 _ _ upd_same
    have hlen := One.slots_len ⟨kd, os, ov⟩
    refine ⟨l, r, _, _, rfl, rfl, hl2, e2, (by rw [List.length_map]; exact Nat.le_trans (show _ ≤ 3 by simp; omega) (by decide)), fun p hp => ?_⟩
    refine ⟨p, (s : Int) :: One.slots ⟨kd, os, ov⟩, rfl, SqL.of upd_same, (by rw [List.length_cons]; omega), fun q c hq hc => ?_⟩
    refine ⟨q, _, c, rfl, upd_same, Nat.lt_of_le_of_lt hc (by rw [List.length_cons]; omega), fun ns p2 srt mem _ hp2 => ?_⟩
    refine k p2 _ ((((s1.trans s2).trans (same_upd hp)).trans (same_upd hq)).trans (same_upd hp2)) ?_
    have e : ns = three s (One.slots ⟨kd, os, ov⟩) := three_set hs (One.slots_bd ok) srt fun z => (mem z).trans decide_eq_true_iff
    rw [upd_same, e]
def spIfApply (K : PySem.W.Frag) : Sp := fun vs H Q _ => ∃ (a st dx b : Addr) (s v : Nat) (o : One) (xs : List Int), vs = [.ref a, .ref st] ∧ H a = some (.ins (c_If K) dx (ifFlds s v b)) ∧ OneAt K H b o ∧ s ≤ 2 ∧ o.Ok ∧ H st = some (.tup (xs.map V.int)) ∧ StoreOk xs ∧
  (∀ n ∈ three s o.slots, n < (xs.length : Int)) ∧ ∀ r H', Same H H' → H' r = some (.tup ((Chg.app (.iff s v o) xs).map V.int)) → Q (.ref r) H'
theorem sc_If_apply : FnScope ["self", "store"] ["self", "store"] (defScope s_If_apply) := ⟨rfl, rfl, rfl, by decide +kernel, rfl, by decide +kernel, by decide +kernel⟩
theorem no_apply {k : Kind} {x y : V} : ([("slot", x), (k.fld, y)] : List (Str × V)).lookup ("apply" : Str) = none := by
  have e : (("apply" : Str) == "slot") = false := by decide +kernel
  have e2 : (("apply" : Str) == k.fld) = false := by cases k <;> decide +kernel
  simp [List.lookup, e, e2]
theorem ok_If_apply (T : Txt K mg) : Ok P w K mg base (a_If_apply K) ["self", "store"] 5 (spIfApply K) := by
  have GL : Ok P w K mg base (a_If_slots K) _ 3 (spIfSlots K) := ok_If_slots T
  have GC : Ok P w K mg base (a_check_store K) _ 3 (spCheckStore K) := ok_check_store T
  have GA : ∀ k, Ok P w K mg base (applyA K k) ["self", "store"] 4 (spApply K k) := ok_apply T
  refine ok_of T.f_If_apply sc_If_apply (fun _ _ _ _ _ _ us hl => match us, hl with | [_, _], _ => rfl) (fun vs H Q E h => ?_) (fun cdv A outer s0 H vs Q E hr h => ?_)
  · obtain ⟨a, st, dx, b, s, v, o, xs, rfl, _⟩ := h
    rfl
  · obtain ⟨a, st, dx, b, s, v, ⟨kd, os, ov⟩, xs, rfl, ha, ⟨dy, hb⟩, hs, ok, hst, sok, hlt, k⟩ := h
    have hr3 : Room 3 _ := hr.mono (by decide)
    have mem := three_mem hs (One.slots_bd ok)
    have slt : s < xs.length := Int.ofNat_lt.mp (hlt _ ((mem _).mpr (.inl rfl)))
    refine ⟨_, pss_cons (ps_expr (pe_c GC hr3 T.g_check_store (pa_cons (pv 1) (pa_cons (pe_pr (pv 0) T.o_If T.p_If_slots GL hr) pa_nil))))
      (pss_one (ps_ret (pe_ifExp (pt_cmpR op_eq (pe_ix ix_tup (pv 1) (pe_fld (pv 0) rfl) (fun _ _ => rfl)) (pe_fld (pv 0) rfl) (nomark _)) (pe_any fun k : Kind => pe_mt (pe_fld (pv 0) rfl) (T.own k) (T.methA k) (GA k) hr (pa_cons (pv 1) pa_nil)) (pv 1)))), ?_⟩
    refine ⟨_, rfl, _, rfl, a, dx, _, rfl, ha, a, dx, b, s, v, ⟨kd, os, ov⟩, rfl, ha, ⟨dy, hb⟩, hs, ok, fun r H1 s1 e1 => ?_⟩
    refine ⟨st, r, xs, _, rfl, s1 _ _ hst, sok, SqL.of e1, Nat.le_trans (three_len _ _) (by decide), hlt, fun H2 s2 => ?_⟩
    have ha2 := s2 _ _ (s1 _ _ ha)
    have hb2 := s2 _ _ (s1 _ _ hb)
    have hst2 := s2 _ _ (s1 _ _ hst)
    refine ⟨_, rfl, _, rfl, a, c_If K, dx, _, _, rfl, ha2, T.o_If.cl, T.n_If_slot, lookA, st, _, _, _, rfl, rfl, SqT.of hst2, at_int slt, _, rfl, a, c_If K, dx, _, _, rfl, ha2, T.o_If.cl, T.n_If_value, lookB slot_value.symm, rfl, _, rfl, ?_⟩
    by_cases hc : xs.getD s 0 = (v : Int)
    · have e : decide (V.int (xs.getD s 0) = V.int (v : Int)) = true := decide_eq_true (by rw [hc])
      rw [e]
      refine iteT ⟨kd, _, rfl, a, c_If K, dx, _, _, rfl, ha2, T.o_If.cl, T.n_If_inner, lookC in_slot in_value, b, dy, _, rfl, hb2, no_apply, _, rfl, b, st, os, ov, xs, rfl, ⟨dy, hb2⟩, ok, hst2, sok, fun n hn => hlt n ((mem n).mpr (.inr hn)), fun r3 H3 s3 e3 => ?_⟩
      refine k r3 H3 ((s1.trans s2).trans s3) ?_
      rw [e3]
      show _ = some (HO.tup ((if xs.getD s 0 = (v : Int) then One.app ⟨kd, os, ov⟩ xs else xs).map V.int))
      rw [if_pos hc]
    · have e : decide (V.int (xs.getD s 0) = V.int (v : Int)) = false := decide_eq_false fun z => hc (V.int.inj z)
      rw [e]
      refine iteF ⟨_, rfl, k st H2 (s1.trans s2) ?_⟩
      rw [hst2]
      show _ = some (HO.tup ((if xs.getD s 0 = (v : Int) then One.app ⟨kd, os, ov⟩ xs else xs).map V.int))
      rw [if_neg hc]
end
end OP
namespace OP
open PySem PySem.Spec PyProof.Rows L2
/-! ### all seven classes -/
inductive CK where
  | of (k : Kind)
  | iff
def CK.cls (K : PySem.W.Frag) : CK → Addr
  | .of k => k.cls K
  | .iff => c_If K
def CK.slotsA (K : PySem.W.Frag) : CK → Addr
  | .of k => OP.slotsA K k
  | .iff => a_If_slots K
def CK.applyA (K : PySem.W.Frag) : CK → Addr
  | .of k => OP.applyA K k
  | .iff => a_If_apply K
def CK.eqA (K : PySem.W.Frag) : CK → Addr
  | .of k => OP.eqA K k
  | .iff => a_If_eq K
def Chg.ck : Chg → CK
  | .one o => .of o.k
  | .iff _ _ _ => .iff
theorem ChgAt.obj {K : PySem.W.Frag} {H : Hp} {a : Addr} {c : Chg} (h : ChgAt K H a c) : ∃ dx fs, H a = some (.ins (c.ck.cls K) dx fs) ∧ fs.lookup ("apply" : Str) = none := by
  cases c with
  | one o =>
    obtain ⟨dx, h⟩ := h
    exact ⟨dx, _, h, no_apply⟩
  | iff s v o =>
    obtain ⟨dx, b, h, _⟩ := h
    refine ⟨dx, _, h, ?_⟩
    have e : (("apply" : Str) == "slot") = false := by decide +kernel
    have e1 : (("apply" : Str) == "value") = false := by decide +kernel
    have e2 : (("apply" : Str) == "inner") = false := by decide +kernel
    simp [ifFlds, List.lookup, e, e1, e2]
section
variable {P : Program} {w : World} {K : PySem.W.Frag} {mg : Str → Option Value} {base : Heap}
theorem Ok.imp {f : Addr} {ps : List Str} {k : Nat} {sp sp' : Sp} (O : Ok P w K mg base f ps k sp) (h : ∀ vs H Q E, sp' vs H Q E → sp vs H Q E) : Ok P w K mg base f ps k sp' := by
  obtain ⟨⟨fd, G, b⟩, kp⟩ := O
  exact ⟨⟨fd, G.imp h, b⟩, kp⟩
theorem Txt.ownC (T : Txt K mg) (q : CK) : Own K (q.cls K) := by
  cases q with
  | of k => exact T.own k
  | iff => exact T.o_If
theorem Txt.kitCC (T : Txt K mg) (q : CK) : PySem.W.kitOne K (.ref (q.cls K)) (.ref (c_Change K)) = some true := by
  cases q with
  | of k => exact T.kitC k
  | iff => exact T.k_If
theorem Txt.propSC (T : Txt K mg) (q : CK) : PropOf K (q.cls K) "slots" (He.ma K (q.cls K) "slots") (q.slotsA K) := by
  cases q with
  | of k => exact T.propS k
  | iff => exact T.p_If_slots
theorem Txt.methAC (T : Txt K mg) (q : CK) : Meth K (q.cls K) "apply" (q.applyA K) := by
  cases q with
  | of k => exact T.methA k
  | iff => exact T.m_If_apply
theorem Txt.methEC (T : Txt K mg) (q : CK) : Meth K (q.cls K) "__eq__" (q.eqA K) := by
  cases q with
  | of k => exact T.methE k
  | iff => exact T.m_If_eq
def spCS (K : PySem.W.Frag) (q : CK) : Sp := fun vs H Q _ => ∃ (a : Addr) (c : Chg), vs = [.ref a] ∧ c.ck = q ∧ ChgAt K H a c ∧ c.Ok ∧ ∀ r H', Same H H' → H' r = some (.lst (c.slots.map V.int)) → Q (.ref r) H'
theorem okC_slots (T : Txt K mg) (q : CK) : Ok P w K mg base (q.slotsA K) ["self"] 3 (spCS K q) := by
  cases q with
  | of k =>
    refine ((ok_slots T k).mono (show 1 ≤ 3 by decide)).imp fun vs H Q E h => ?_
    obtain ⟨a, c, e, hk, hc, ok, q⟩ := h
    cases c with
    | one o =>
      obtain ⟨kd, s, v⟩ := o
      obtain rfl : kd = k := CK.of.inj hk
      exact ⟨a, s, v, e, hc, ok, q⟩
    | iff s v o => cases hk
  | iff =>
    refine (ok_If_slots T).imp fun vs H Q E h => ?_
    obtain ⟨a, c, e, hk, hc, ok, q⟩ := h
    cases c with
    | one o => cases hk
    | iff s v o =>
      obtain ⟨dx, b, h1, h2⟩ := hc
      exact ⟨a, dx, b, s, v, o, e, h1, h2, ok.1, ok.2.2, q⟩
def spCA (K : PySem.W.Frag) (q : CK) : Sp := fun vs H Q _ => ∃ (a st : Addr) (c : Chg) (xs : List Int), vs = [.ref a, .ref st] ∧ c.ck = q ∧ ChgAt K H a c ∧ c.Ok ∧ H st = some (.tup (xs.map V.int)) ∧ StoreOk xs ∧ (∀ n ∈ c.slots, n < (xs.length : Int)) ∧
  ∀ r H', Same H H' → H' r = some (.tup ((c.app xs).map V.int)) → Q (.ref r) H'
theorem okC_apply (T : Txt K mg) (q : CK) : Ok P w K mg base (q.applyA K) ["self", "store"] 5 (spCA K q) := by
  cases q with
  | of k =>
    refine ((ok_apply T k).mono (show 4 ≤ 5 by decide)).imp fun vs H Q E h => ?_
    obtain ⟨a, st, c, xs, e, hk, hc, ok, h1, h2, h3, q⟩ := h
    cases c with
    | one o =>
      obtain ⟨kd, s, v⟩ := o
      obtain rfl : kd = k := CK.of.inj hk
      exact ⟨a, st, s, v, xs, e, hc, ok, h1, h2, h3, q⟩
    | iff s v o => cases hk
  | iff =>
    refine (ok_If_apply T).imp fun vs H Q E h => ?_
    obtain ⟨a, st, c, xs, e, hk, hc, ok, h1, h2, h3, q⟩ := h
    cases c with
    | one o => cases hk
    | iff s v o =>
      obtain ⟨dx, b, g1, g2⟩ := hc
      exact ⟨a, st, dx, b, s, v, o, xs, e, g1, g2, ok.1, ok.2.2, h1, h2, h3, q⟩
/-- two equal changes -/
def REq (K : PySem.W.Frag) (q : CK) (a b : Addr) (H : Hp) : Prop := ∃ c : Chg, c.ck = q ∧ ChgAt K H a c ∧ ChgAt K H b c
theorem op_any {X : Cx} {ι : Type} {f : Value → Value → Sem Value} {r : ι → R2} (h : ∀ i, OpR X f (r i)) : OpR X f (fun x y H Q => ∃ i, r i x y H Q) := fun pins s σ H x y v u Q I rx ry ⟨i, q⟩ => h i pins s σ H x y v u Q I rx ry q
theorem okC_eq1 (T : Txt K mg) (k : Kind) : Ok P w K mg base (OP.eqA K k) ["self", "other"] 1 (spEq (REq K (.of k))) := by
  refine (ok_eq T k).imp fun vs H Q E h => ?_
  obtain ⟨a, b, e, ⟨c, hk, h1, h2⟩, q⟩ := h
  cases c with
  | one o =>
    obtain ⟨kd, s, v⟩ := o
    obtain rfl : kd = k := CK.of.inj hk
    exact ⟨a, b, s, v, e, h1, h2, q H fun _ _ z => z⟩
  | iff s v o => cases hk
theorem rc_of {X : Cx} {n : Nat} {f C : Addr} {ps : List Str} {R : Addr → Addr → Hp → Prop} (O : Ok X.prog X.w X.K X.mg X.base f ps n (spEq R)) (m : Meth X.K C "__eq__" f) : RcG X n (DIns C R) := by
  obtain ⟨⟨fd, G, b⟩, kp⟩ := O
  exact rcG_ins G m.at_ m.fn b pass0
theorem sc_If_eq : FnScope ["self", "other"] ["self", "other"] (defScope s_If_eq) := ⟨rfl, rfl, rfl, by decide +kernel, rfl, by decide +kernel, by decide +kernel⟩
theorem kit_If {K : PySem.W.Frag} : PySem.W.kitOne K (.ref (c_If K)) (.ref (c_If K)) = some true := by
  unfold PySem.W.kitOne
  rw [if_pos (by simp)]
theorem ok_If_eq (T : Txt K mg) : Ok P w K mg base (a_If_eq K) ["self", "other"] 2 (spEq (REq K .iff)) := by
  have GE : ∀ k, Ok P w K mg base (OP.eqA K k) ["self", "other"] 1 (spEq (REq K (.of k))) := okC_eq1 T
  refine ok_of T.f_If_eq sc_If_eq (fun _ _ _ _ _ _ us hl => match us, hl with | [_, _], _ => rfl) (fun vs H Q E h => ?_) (fun cdv A outer s0 H vs Q E hr h => ?_)
  · obtain ⟨a, b, rfl, _⟩ := h
    rfl
  · obtain ⟨a, b, rfl, ⟨c, hk, h1, h2⟩, k⟩ := h
    cases c with
    | one o => cases hk
    | iff s v o =>
      obtain ⟨dx, ia, ha, hia⟩ := h1
      obtain ⟨dy, ib, hb, hib⟩ := h2
      refine ⟨_, pss_one (ps_ret (pe_and (pe_callB call_isi (by rfl) T.z_isinstance (by decide +kernel) (pa_cons (pv 1) (pa_cons (pe_glob (v := .ref (c_If K)) (by rfl) T.g_If rfl) pa_nil)))
        (pe_and (pe_cmpR op_eq (pe_fld (pv 0) rfl) (pe_fld (pv 1) rfl) (nomark _)) (pe_and (pe_cmpR op_eq (pe_fld (pv 0) rfl) (pe_fld (pv 1) rfl) (nomark _))
        (pe_one (pe_cmpR (op_any fun k : Kind => op_eqG (rc_of (GE k) (T.methE k)) hr) (pe_fld (pv 0) rfl) (pe_fld (pv 1) rfl) (nomark _))))))), ?_⟩
      refine ⟨_, rfl, _, _, _, _, true, rfl, .own (c_If K), T.o_If.ty hb, kit_If, true, rfl, iteT ?_⟩
      refine ⟨_, rfl, a, c_If K, dx, _, _, rfl, ha, T.o_If.cl, T.n_If_slot, lookA, _, rfl, b, c_If K, dy, _, _, rfl, hb, T.o_If.cl, T.n_If_slot, lookA, rfl, true, congrArg V.bl (decide_eq_true rfl), iteT ?_⟩
      refine ⟨_, rfl, a, c_If K, dx, _, _, rfl, ha, T.o_If.cl, T.n_If_value, lookB slot_value.symm, _, rfl, b, c_If K, dy, _, _, rfl, hb, T.o_If.cl, T.n_If_value, lookB slot_value.symm, rfl, true, congrArg V.bl (decide_eq_true rfl), iteT ?_⟩
      refine ⟨_, rfl, a, c_If K, dx, _, _, rfl, ha, T.o_If.cl, T.n_If_inner, lookC in_slot in_value, _, rfl, b, c_If K, dy, _, _, rfl, hb, T.o_If.cl, T.n_If_inner, lookC in_slot in_value, o.k, ⟨ia, ib, ?_⟩, fun H' e => k H' e⟩
      obtain ⟨du, hu⟩ := id hia
      obtain ⟨dv, hv⟩ := id hib
      exact ⟨du, dv, _, _, rfl, rfl, hu, hv, .one o, rfl, hia, hib⟩
theorem okC_eq (T : Txt K mg) (q : CK) : Ok P w K mg base (q.eqA K) ["self", "other"] 2 (spEq (REq K q)) := by
  cases q with
  | of k => exact (okC_eq1 T k).mono (show 1 ≤ 2 by decide)
  | iff => exact ok_If_eq T
end
end OP
namespace OP
open PySem PySem.Spec PyProof.Rows L2
/-- a comprehension over any walk that leaves the heap as it is, each element's value known -/
theorem lcW_map {J : It} {n : Nat} {G : Hp → Prop} {Y : Nat → Hp → V → Hp → Prop} {D : Addr} {te : TE} {j : Nat} {σ : L2.St} {H1 : Hp} {Qd : Hp → Prop} (Ix : Nat → V → Prop) (ys : List V) (wk : Walk J n G Y) (hD : H1 D = none) (hsz : n ≤ 1000) (hy : ys.length = n)
    (hG : ∀ H, Same H1 H → G H) (hY : ∀ i H x H', i < n → Y i H x H' → H' = H ∧ Ix i x)
    (hs : ∀ (i : Nat) x y H (Qe : VK), Ix i x → ys[i]? = some y → Same H1 H → (∀ H', Same H H' → Qe y H') → te ((wipe σ [j]).set j (some x)) H Qe)
    (hd : ∀ H, Same H1 H → H D = some (.lst ys) → Qd H)
    (hw : ∀ x, wipe ((wipe σ [j]).set j (some x)) [j] = wipe σ [j] := by intro _; rfl) : LcOk J (gName j) tYes te [j] σ H1 D Qd := by
  refine lc_it wk (fun i H => Grow H1 D (ys.take i) H) (by rw [List.take_zero]; exact Grow.start hD) (fun i H _ g => hG H g.1) (fun i x H H' hi g y => ?_) (fun H g => ?_)
  · obtain ⟨rfl, hx⟩ := hY i H x H' hi y
    refine ⟨hw x, tyes (iteT ?_)⟩
    have hil : i < ys.length := by rw [hy]; exact hi
    refine hs i x ys[i] H' _ hx (List.getElem?_eq_getElem hil) g.1 fun H2 s2 => ?_
    obtain ⟨e1, g2⟩ := g.step (y := ys[i]) hD s2
    refine ⟨_, e1, small1000 (by rw [List.length_take]; omega), ?_⟩
    rw [show ys.take (i + 1) = ys.take i ++ [ys[i]] by rw [List.take_add_one, List.getElem?_eq_getElem hil] <;> rfl]
    exact g2
  · rw [List.take_of_length_le (by omega)] at g
    exact hd H g.1 g.2
section
variable {P : Program} {w : World} {K : PySem.W.Frag} {mg : Str → Option Value} {base : Heap}
/-- is_store_of(store, slots) of a store of so many slots -/
def spIsStoreOf : Sp := fun vs H Q _ => ∃ (a : Addr) (xs : List Int) (n : Int), vs = [.ref a, .int n] ∧ H a = some (.tup (xs.map V.int)) ∧ StoreOk xs ∧ n = (xs.length : Int) ∧ ∀ H', Same H H' → Q (.bl true) H'
theorem sc_iso : FnScope ["store", "slots"] ["store", "slots"] (defScope s_is_store_of) := ⟨rfl, rfl, rfl, by decide +kernel, rfl, by decide +kernel, by decide +kernel⟩
theorem ok_is_store_of (T : Txt K mg) : Ok P w K mg base (a_is_store_of K) ["store", "slots"] 3 spIsStoreOf := by
  have GS : Ok P w K mg base (a_is_store K) _ 2 spIsStore := ok_is_store T
  refine ok_of T.f_is_store_of sc_iso (fun _ _ _ _ _ _ us hl => match us, hl with | [_, _], _ => rfl) (fun vs H Q E h => ?_) (fun cdv A outer s H vs Q E hr h => ?_)
  · obtain ⟨a, xs, n, rfl, _⟩ := h
    rfl
  · obtain ⟨a, xs, n, rfl, ha, ok, e, k⟩ := h
    refine ⟨_, pss_one (ps_ret (pe_and (pe_c GS hr T.g_is_store (pa_cons (pv 0) pa_nil)) (pe_one (pe_cmpR op_eq (pe_callB call_len_seq (by rfl) T.z_len PySem.boot_len (pa_cons (pv 0) pa_nil)) (pv 1) (nomark _))))), ?_⟩
    refine ⟨_, rfl, a, xs, rfl, ha, ok, fun H1 s1 => ⟨true, rfl, iteT ?_⟩⟩
    refine ⟨_, rfl, a, _, rfl, .inr (SqT.of (s1 _ _ ha)), _, rfl, rfl, ?_⟩
    have e2 : decide (V.int ((xs.map V.int).length : Int) = V.int n) = true := decide_eq_true (by rw [List.length_map, e])
    show Q (.bl (decide (V.int ((xs.map V.int).length : Int) = V.int n))) H1
    rw [e2]
    exact k H1 s1
/-- stores at their places -/
abbrev Sts := List (Addr × List Int)
def StsAt (H : Hp) (S : Sts) : Prop := ∀ p ∈ S, H p.1 = some (.tup (p.2.map V.int))
theorem StsAt.ext {H H' : Hp} {S : Sts} (e : Same H H') (h : StsAt H S) : StsAt H' S := fun p hp => e _ _ (h p hp)
structure StsOk (n : Nat) (S : Sts) : Prop where
  lo : 1 ≤ S.length
  hi : S.length ≤ 8
  each : ∀ p ∈ S, StoreOk p.2 ∧ p.2.length = n
  nd : (S.map (·.2)).Nodup
def refs (S : Sts) : List V := S.map fun p => V.ref p.1
def spInitial (K : PySem.W.Frag) : Sp := fun vs H Q _ => ∃ (l : Addr) (S : Sts) (n : Nat), vs = [.ref l, .int n] ∧ H l = some (.lst (refs S)) ∧ StsAt H S ∧ StsOk n S ∧ ∀ H', Same H H' → Q (.bl true) H'
theorem sc_ais : FnScope ["stores", "slots", "store"] ["stores", "slots"] (defScope s_are_initial_stores) := ⟨rfl, rfl, rfl, by decide +kernel, rfl, by decide +kernel, by decide +kernel⟩
theorem kit_list {K : PySem.W.Frag} : PySem.W.kitOne K (.type "list") (.type "list") = some true := kit_ty (by decide +kernel)
theorem ok_initial (T : Txt K mg) : Ok P w K mg base (a_are_initial_stores K) ["stores", "slots"] 4 (spInitial K) := by
  have GO : Ok P w K mg base (a_is_store_of K) _ 3 spIsStoreOf := ok_is_store_of T
  obtain ⟨t8, m8⟩ := T.i_MOST_STORES
  refine ok_of T.f_are_initial_stores sc_ais (fun _ _ _ _ _ _ us hl => match us, hl with | [_, _], _ => rfl) (fun vs H Q E h => ?_) (fun cdv A outer s H vs Q E hr h => ?_)
  · obtain ⟨l, S, n, rfl, _⟩ := h
    rfl
  · obtain ⟨l, S, n, rfl, hl, hS, ⟨lo, hi, each, nd⟩, k⟩ := h
    have hu : _ + 64 < cLine := hr.units
    have hlen : (refs S).length = S.length := List.length_map ..
    refine ⟨_, pss_cons (ps_if (PW.pt (pw_or (pt_not (pt_val (pe_callB call_isiT (by rfl) T.z_isinstance (by decide +kernel) (pa_cons (pv 0) (pa_cons (pe_tup (pa_cons (pe_bltn (v := .ty "list") (by rfl) T.z_list (by decide +kernel) rfl) (pa_cons (pe_bltn (v := .ty "tuple") (by rfl) T.z_tuple (by decide +kernel) rfl) pa_nil))) pa_nil)))))
        (pw_or1 (pt_not (pt_chain op_le op_le pe_int (pe_callB call_len_seq (by rfl) T.z_len PySem.boot_len (pa_cons (pv 0) pa_nil)) (pe_glob (v := .int 8) (by rfl) m8 ⟨_, rfl⟩))))))
        (pss_one (ps_ret pe_bl)) pss_nil)
      (pss_one (ps_ret (pe_and (pe_callB (cr_all rfl) (by rfl) T.z_all (by decide +kernel) (pa_cons (pe_lc (own := [("store", 2)]) (g := gName 2) (tt := tYes) rfl sc_ais.nd (pi_list (pv 0)) (blkOk_by (own := [("store", 2)]) (N := ["stores", "slots", "store"]) (sc := defScope s_are_initial_stores) (by decide +kernel))
        (fun _ _ _ _ _ => pg_name (i := 2) sc_ais.nd rfl (Or.inl rfl)) (fun _ _ _ _ _ => pts_nil)
        (fun _ _ _ _ _ => pe_c GO hr T.g_is_store_of (pa_cons (pv 2) (pa_cons (pv 1) pa_nil)))) pa_nil))
        (pe_one (pe_cmpR op_eq (pe_callB call_lenT (by rfl) T.z_len PySem.boot_len (pa_cons (pe_callTy (cr_setOfT rfl hu) (by rfl) T.z_set (by decide +kernel) (pa_cons (pv 0) pa_nil)) pa_nil)) (pe_callB call_len_seq (by rfl) T.z_len PySem.boot_len (pa_cons (pv 0) pa_nil)) (nomark _)))))), ?_⟩
    refine ⟨_, rfl, (by show 2 ≤ sizeLine; decide), fun t ht => ?_⟩
    have s1 : Same H _ := same_upd (o := .tup [V.ty "list", V.ty "tuple"]) ht
    refine ⟨_, t, _, .type "list", [.type "list", .type "tuple"], true, rfl, upd_same, .cons (.ty _) (.cons (.ty _) .nil), .base (.lst (s1 _ _ hl)), kitAny_cons kit_list (fun z => by cases z) (fun _ => rfl), true, rfl, iteF ?_⟩
    refine ⟨_, rfl, l, _, rfl, .inl (SqL.of (s1 _ _ hl)), _, _, rfl, rfl, true, ?_, iteT ⟨_, _, rfl, rfl, true, ?_, iteF ?_⟩⟩
    · rw [hlen]
      exact congrArg V.bl (decide_eq_true (by omega))
    · rw [hlen]
      exact congrArg V.bl (decide_eq_true (by omega))
    refine ⟨_, rfl, l, rfl, ⟨_, SqL.of (s1 _ _ hl)⟩, fun D hD => ?_⟩
    refine lcL_map (K := K) (a := l) (xs := refs S) (List.replicate S.length (.bl true)) hD (SqL.of (s1 _ _ hl)) (by rw [hlen]; omega) (by rw [hlen, List.length_replicate]) (fun i x y H' Qe hx hy s2 kk => ?_) fun H' s2 e => ?_
    · obtain rfl := rep_at hy
      unfold refs at hx
      rw [List.getElem?_map] at hx
      obtain ⟨p, hp, rfl⟩ := Option.map_eq_some_iff.mp hx
      have mem := List.mem_of_getElem? hp
      exact ⟨_, rfl, _, rfl, p.1, p.2, n, rfl, s2 _ _ (s1 _ _ (hS p mem)), (each p mem).1, by rw [(each p mem).2], kk⟩
    · refine ⟨D, List.replicate S.length true, rfl, ?_, true, by rw [all_true], iteT ?_⟩
      · rw [map_rep]
        exact SqL.of e
      have s3 := s1.trans s2
      refine ⟨_, rfl, l, S, rfl, SqL.of (s3 _ _ hl), fun p hp => SqT.of (s3 _ _ (hS p hp)), by omega, fun q L hq sub all => ?_⟩
      refine ⟨q, L, rfl, upd_same, fun ndL => ?_⟩
      have s4 : Same H' _ := same_upd (o := SetTO P w q L) hq
      refine ⟨_, rfl, l, _, rfl, .inl (SqL.of (s4 _ _ (s3 _ _ hl))), rfl, ?_⟩
      have l1 : (L.map (·.2)).length ≤ (S.map (·.2)).length := nodup_le ndL fun z hz => by
        obtain ⟨p, hp, e2⟩ := List.mem_map.mp hz
        exact List.mem_map.mpr ⟨p, sub p hp, e2⟩
      have l2 : (S.map (·.2)).length ≤ (L.map (·.2)).length := nodup_le nd fun z hz => by
        obtain ⟨p, hp, e2⟩ := List.mem_map.mp hz
        rw [← e2]
        exact all p hp
      rw [List.length_map, List.length_map] at l1 l2
      have e2 : decide (V.int (L.length : Int) = V.int ((refs S).length : Int)) = true := decide_eq_true (by rw [hlen, Nat.le_antisymm l1 l2])
      show Q (.bl (decide (V.int (L.length : Int) = V.int ((refs S).length : Int)))) _
      rw [e2]
      exact k _ (s3.trans s4)
/-- a name: one to eight lowercase letters -/
structure NameOk (x : Str) : Prop where
  lo : 1 ≤ x.length
  hi : x.length ≤ 8
  each : ∀ c ∈ x.cps.toList, c ∈ ("abcdefghijklmnopqrstuvwxyz" : Str).cps.toList
def spIsName : Sp := fun vs H Q _ => ∃ x : Str, vs = [.str x] ∧ NameOk x ∧ ∀ H', Same H H' → Q (.bl true) H'
theorem kit_str {K : PySem.W.Frag} : PySem.W.kitOne K (.type "str") (.type "str") = some true := kit_ty (by decide +kernel)
theorem sc_in : FnScope ["name", "letter"] ["name"] (defScope s_is_name) := ⟨rfl, rfl, rfl, by decide +kernel, rfl, by decide +kernel, by decide +kernel⟩
theorem ok_is_name (T : Txt K mg) : Ok P w K mg base (a_is_name K) ["name"] 1 spIsName := by
  obtain ⟨t8, m8⟩ := T.i_MOST_LETTERS
  obtain ⟨tl, ml⟩ := T.letters
  refine ok_of T.f_is_name sc_in (fun _ _ _ _ _ _ us hl => match us, hl with | [_], _ => rfl) (fun vs H Q E h => ?_) (fun cdv A outer s H vs Q E hr h => ?_)
  · obtain ⟨x, rfl, _⟩ := h
    rfl
  · obtain ⟨x, rfl, ⟨lo, hi, each⟩, k⟩ := h
    refine ⟨_, pss_cons (ps_if (PW.pt (pw_or (pt_not (pt_val (pe_callB call_isi (by rfl) T.z_isinstance (by decide +kernel) (pa_cons (pv 0) (pa_cons (pe_bltn (v := .ty "str") (by rfl) T.z_str (by decide +kernel) rfl) pa_nil)))))
        (pw_or1 (pt_not (pt_chain op_le op_le pe_int (pe_callB call_len_str (by rfl) T.z_len PySem.boot_len (pa_cons (pv 0) pa_nil)) (pe_glob (v := .int 8) (by rfl) m8 ⟨_, rfl⟩))))))
        (pss_one (ps_ret pe_bl)) pss_nil)
      (pss_one (ps_ret (pe_callB (cr_all rfl) (by rfl) T.z_all (by decide +kernel) (pa_cons (pe_lc (own := [("letter", 1)]) (g := gName 1) (tt := tYes) rfl sc_in.nd (pi_str (pv 0)) (blkOk_by (own := [("letter", 1)]) (N := ["name", "letter"]) (sc := defScope s_is_name) (by decide +kernel))
        (fun _ _ _ _ _ => pg_name (i := 1) sc_in.nd rfl (Or.inl rfl)) (fun _ _ _ _ _ => pts_nil)
        (fun _ _ _ _ _ => pe_cmpR op_in_sign (pv 1) (pe_glob (v := .str "abcdefghijklmnopqrstuvwxyz") (by rfl) ml ⟨_, rfl⟩) (by rfl))) pa_nil)))), ?_⟩
    refine ⟨_, rfl, _, _, _, _, true, rfl, .ty "str", .base (.str x), kit_str, true, rfl, iteF ?_⟩
    refine ⟨_, rfl, x, rfl, Nat.le_trans hi (by decide), _, _, rfl, rfl, true, congrArg V.bl (decide_eq_true (by omega)), iteT ⟨_, _, rfl, rfl, true, congrArg V.bl (decide_eq_true (by omega)), iteF ?_⟩⟩
    refine ⟨_, rfl, x, rfl, fun D hD => ?_⟩
    have hn : x.cps.size = x.length := rfl
    refine lcW_map (fun i v => ∃ c, x.cps[i]? = some c ∧ v = .str ⟨#[c]⟩) (List.replicate x.cps.size (.bl true)) walk_str hD (by rw [hn]; omega) (List.length_replicate ..) (fun _ _ => trivial) (fun i H1 v H2 _ y => y) (fun i v y H1 Qe hx hy s2 kk => ?_) fun H1 s2 e => ?_
    · obtain rfl := rep_at hy
      obtain ⟨c, hc, rfl⟩ := hx
      have mem : c ∈ x.cps.toList := by
        have q : x.cps.toList[i]? = some c := by rw [Array.getElem?_toList]; exact hc
        exact List.mem_of_getElem? q
      refine ⟨_, rfl, c, _, rfl, rfl, ?_⟩
      rw [decide_eq_true (each c mem)]
      exact kk H1 (Same.refl _)
    · refine ⟨D, List.replicate x.cps.size true, rfl, ?_, ?_⟩
      · rw [map_rep]
        exact SqL.of e
      · rw [all_true]
        exact k H1 s2
/-- uses_only(change, slots) -/
def spUses (K : PySem.W.Frag) : Sp := fun vs H Q _ => ∃ (a : Addr) (c : Chg) (n : Nat), vs = [.ref a, .int n] ∧ ChgAt K H a c ∧ c.Ok ∧ (∀ z ∈ c.slots, z < (n : Int)) ∧ ∀ H', Same H H' → Q (.bl true) H'
theorem Chg.slots_len (c : Chg) : c.slots.length ≤ 3 := by
  cases c with
  | one o => exact Nat.le_succ_of_le (One.slots_len o)
  | iff s v o => exact three_len _ _
theorem sc_uo : FnScope ["change", "slots", "slot"] ["change", "slots"] (defScope s_uses_only) := ⟨rfl, rfl, rfl, by decide +kernel, rfl, by decide +kernel, by decide +kernel⟩
theorem ok_uses_only (T : Txt K mg) : Ok P w K mg base (a_uses_only K) ["change", "slots"] 5 (spUses K) := by
  have GL : ∀ q, Ok P w K mg base (CK.slotsA K q) ["self"] 3 (spCS K q) := okC_slots T
  refine ok_of T.f_uses_only sc_uo (fun _ _ _ _ _ _ us hl => match us, hl with | [_, _], _ => rfl) (fun vs H Q E h => ?_) (fun cdv A outer s H vs Q E hr h => ?_)
  · obtain ⟨a, c, n, rfl, _⟩ := h
    rfl
  · obtain ⟨a, c, n, rfl, ha, ok, hlt, k⟩ := h
    obtain ⟨dx, fs, ho, _⟩ := ha.obj
    refine ⟨_, pss_one (ps_ret (pe_and (pe_callB call_isi (by rfl) T.z_isinstance (by decide +kernel) (pa_cons (pv 0) (pa_cons (pe_glob (v := .ref (c_Change K)) (by rfl) T.g_Change rfl) pa_nil)))
      (pe_one (pe_callB (cr_all rfl) (by rfl) T.z_all (by decide +kernel) (pa_cons (pe_lc (own := [("slot", 2)]) (g := gName 2) (tt := tYes) rfl sc_uo.nd (pi_list (pe_any fun q : CK => pe_pr (pv 0) (T.ownC q) (T.propSC q) (GL q) hr)) (blkOk_by (own := [("slot", 2)]) (N := ["change", "slots", "slot"]) (sc := defScope s_uses_only) (by decide +kernel))
        (fun _ _ _ _ _ => pg_name (i := 2) sc_uo.nd rfl (Or.inl rfl)) (fun _ _ _ _ _ => pts_nil)
        (fun _ _ _ _ _ => pe_cmpR op_lt (pv 2) (pv 1) (nomark _))) pa_nil))))), ?_⟩
    refine ⟨_, rfl, _, _, _, _, true, rfl, .own (c_Change K), (T.ownC c.ck).ty ho, T.kitCC c.ck, true, rfl, iteT ?_⟩
    refine ⟨c.ck, _, rfl, a, dx, fs, rfl, ho, a, c, rfl, rfl, ha, ok, fun r H1 s1 e1 => ⟨r, rfl, ⟨_, SqL.of e1⟩, fun D hD => ?_⟩⟩
    have hm : (c.slots.map V.int).length = c.slots.length := List.length_map ..
    refine lcL_map (K := K) (a := r) (xs := c.slots.map V.int) (List.replicate c.slots.length (.bl true)) hD (SqL.of e1) (by rw [hm]; exact Nat.le_trans (Chg.slots_len c) (by decide)) (by rw [hm, List.length_replicate]) (fun i x y H' Qe hx hy s2 kk => ?_) fun H' s2 e => ?_
    · obtain ⟨z, hz, rfl⟩ := ints_at hx
      obtain rfl := rep_at hy
      refine ⟨_, rfl, _, rfl, _, _, rfl, rfl, ?_⟩
      show Qe (.bl (decide (z < (n : Int)))) H'
      rw [decide_eq_true (hlt z (List.mem_of_getElem? hz))]
      exact kk H' (Same.refl _)
    · refine ⟨D, List.replicate c.slots.length true, rfl, ?_, ?_⟩
      · rw [map_rep]
        exact SqL.of e
      · rw [all_true]
        exact k H' (s1.trans s2)
end
end OP
namespace OP
open PySem PySem.Spec PyProof.Rows L2
/-! ### named changes: name, place, what it is -/
abbrev Ncs := List (Str × Addr × Chg)
def kvs (L : Ncs) : List (Key × V) := L.map fun p => (Sum.inr p.1, V.ref p.2.1)
def names (L : Ncs) : List Str := L.map (·.1)
def ChgsAt (K : PySem.W.Frag) (H : Hp) (L : Ncs) : Prop := ∀ p ∈ L, ChgAt K H p.2.1 p.2.2
structure ChgsOk (n : Nat) (L : Ncs) : Prop where
  lo : 2 ≤ L.length
  hi : L.length ≤ 4
  name : ∀ p ∈ L, NameOk p.1
  chg : ∀ p ∈ L, p.2.2.Ok ∧ ∀ z ∈ p.2.2.slots, z < (n : Int)
  nd : (names L).Nodup
theorem ChgsAt.ext {K : PySem.W.Frag} {H H' : Hp} {L : Ncs} (e : Same H H') (h : ChgsAt K H L) : ChgsAt K H' L := fun p hp => (h p hp).ext e
theorem ins_ne {H : Hp} {a d C dx : Addr} {fs : List (Str × V)} {kv : List (Key × V)} (h : H a = some (.ins C dx fs)) (hd : H d = some (.dK kv)) : a ≠ d := fun z => by
  rw [z, hd] at h
  cases h
theorem OneAt.lock {K : PySem.W.Frag} {H : Hp} {a d : Addr} {o : One} {kv : List (Key × V)} {u : HO} (hd : H d = some (.dK kv)) (h : OneAt K H a o) : OneAt K (upd H d u) a o := by
  obtain ⟨dx, h⟩ := h
  exact ⟨dx, by rw [upd_ne (ins_ne h hd)]; exact h⟩
theorem ChgAt.lock {K : PySem.W.Frag} {H : Hp} {a d : Addr} {c : Chg} {kv : List (Key × V)} {u : HO} (hd : H d = some (.dK kv)) (h : ChgAt K H a c) : ChgAt K (upd H d u) a c := by
  cases c with
  | one o => exact OneAt.lock hd h
  | iff s v o =>
    obtain ⟨dx, b, h1, h2⟩ := h
    exact ⟨dx, b, by rw [upd_ne (ins_ne h1 hd)]; exact h1, OneAt.lock hd h2⟩
theorem lock_same {H H' : Hp} {d : Addr} {u v : HO} (hd : H d = some u) (s : Same (upd H d v) H') : Same H (upd H' d u) := fun b o e => by
  by_cases hb : b = d
  · rw [hb, upd_same, ← hd, ← e, hb]
  · rw [upd_ne hb]
    exact s _ _ (by rw [upd_ne hb]; exact e)
theorem kvs_at {L : Ncs} {i : Nat} (h : i < L.length) : (kvs L)[i]? = some (Sum.inr L[i].1, V.ref L[i].2.1) := by
  unfold kvs
  rw [List.getElem?_map, List.getElem?_eq_getElem h] <;> rfl
theorem kvs_len (L : Ncs) : (kvs L).length = L.length := List.length_map ..
section
variable {P : Program} {w : World} {K : PySem.W.Frag} {mg : Str → Option Value} {base : Heap}
def spCheckChanges (K : PySem.W.Frag) : Sp := fun vs H Q _ => ∃ (d : Addr) (L : Ncs) (n : Nat), vs = [.ref d, .int n] ∧ H d = some (.dK (kvs L)) ∧ ChgsAt K H L ∧ ChgsOk n L ∧ ∀ H', Same H H' → Q .non H'
theorem kit_dict {K : PySem.W.Frag} : PySem.W.kitOne K (.type "dict") (.type "dict") = some true := kit_ty (by decide +kernel)
theorem sc_cc : FnScope ["changes", "slots", "name", "change"] ["changes", "slots"] (defScope s_check_changes) := ⟨rfl, rfl, rfl, by decide +kernel, rfl, by decide +kernel, by decide +kernel⟩
theorem ok_check_changes (T : Txt K mg) : Ok P w K mg base (a_check_changes K) ["changes", "slots"] 6 (spCheckChanges K) := by
  have GN : Ok P w K mg base (a_is_name K) _ 1 spIsName := ok_is_name T
  have GU : Ok P w K mg base (a_uses_only K) _ 5 (spUses K) := ok_uses_only T
  obtain ⟨t2, m2⟩ := T.i_LEAST_CHANGES
  obtain ⟨t4, m4⟩ := T.i_MOST_CHANGES
  refine ok_of T.f_check_changes sc_cc (fun _ _ _ _ _ _ us hl => match us, hl with | [_, _], _ => rfl) (fun vs H Q E h => ?_) (fun cdv A outer s0 H vs Q E hr h => ?_)
  · obtain ⟨d, L, n, rfl, _⟩ := h
    rfl
  · obtain ⟨d, L, n, rfl, hd, hL, ⟨lo, hi, nm, ch, _⟩, k⟩ := h
    have hr1 : Room 1 _ := hr.mono (by decide)
    refine ⟨_, pss_cons (ps_if (PW.pt (pw_or (pt_not (pt_val (pe_callB call_isi (by rfl) T.z_isinstance (by decide +kernel) (pa_cons (pv 0) (pa_cons (pe_bltn (v := .ty "dict") (by rfl) T.z_dict (by decide +kernel) rfl) pa_nil)))))
        (pw_or1 (pt_not (pt_chain op_le op_le (pe_glob (v := .int 2) (by rfl) m2 ⟨_, rfl⟩) (pe_callB call_lenD (by rfl) T.z_len PySem.boot_len (pa_cons (pv 0) pa_nil)) (pe_glob (v := .int 4) (by rfl) m4 ⟨_, rfl⟩))))))
        (pss_one ps_never) pss_nil)
      (pss_one (ps_lock (ps_for PassesOwn.never rfl (pi_items (pv 0)) (pg_tup rfl (pgs_cons (pg_name (i := 2) sc_cc.nd rfl (Or.inl rfl)) (pgs_cons (pg_name (i := 3) sc_cc.nd rfl (Or.inl rfl)) pgs_nil)))
        (pss_one (ps_if (PW.pt (pw_or (pt_not (pt_val (pe_c GN hr1 T.g_is_name (pa_cons (pv 2) pa_nil)))) (pw_or1 (pt_not (pt_val (pe_c GU hr T.g_uses_only (pa_cons (pv 3) (pa_cons (pv 1) pa_nil)))))))) (pss_one ps_never) pss_nil))))), ?_⟩
    refine ⟨_, rfl, _, _, _, _, true, rfl, .ty "dict", .base (.dK hd), kit_dict, true, rfl, iteF ?_⟩
    refine ⟨_, rfl, d, _, rfl, hd, _, _, rfl, rfl, true, ?_, iteT ⟨_, _, rfl, rfl, true, ?_, iteF ?_⟩⟩
    · rw [kvs_len]
      exact congrArg V.bl (decide_eq_true (by omega))
    · rw [kvs_len]
      exact congrArg V.bl (decide_eq_true (by omega))
    refine ⟨d, _, hd, trivial, fun od => ⟨_, rfl, d, od, kvs L, rfl, upd_same, ?_⟩⟩
    refine for_it walk_items (fun _ σ H' => (∃ v2 v3, σ = [some (.ref d), some (.int n), v2, v3]) ∧ Same (upd H d (.frz od (.dK (kvs L)))) H') ⟨⟨none, none, rfl⟩, Same.refl _⟩ (fun i σ H' _ p => p.2 _ _ upd_same) (fun i x σ H1 H2 hi p y => ?_) (fun σ H' p => ?_)
    · obtain ⟨⟨v2, v3, rfl⟩, s1⟩ := p
      obtain ⟨t, x1, x2, rfl, ht, rfl, e1, e2⟩ := y
      have hiL : i < L.length := by rw [kvs_len] at hi; exact hi
      dsimp only at e1 e2
      rw [kvs_at hiL] at e1 e2
      cases e1
      cases e2
      have mem : L[i] ∈ L := List.getElem_mem hiL
      have s2 : Same H1 _ := same_upd (o := .tup [V.str L[i].1, V.ref L[i].2.1]) ht
      refine ⟨t, _, rfl, SqT.of upd_same, rfl, _, _, rfl, _, _, rfl, rfl, ?_⟩
      refine ⟨_, rfl, L[i].1, rfl, nm _ mem, fun H3 s3 => ⟨true, rfl, iteF ?_⟩⟩
      refine ⟨_, rfl, _, rfl, L[i].2.1, L[i].2.2, n, rfl, ((hL _ mem).lock hd).ext ((s1.trans s2).trans s3), (ch _ mem).1, (ch _ mem).2, fun H4 s4 => ⟨true, rfl, iteF ?_⟩⟩
      exact ⟨⟨_, _, rfl⟩, ((s1.trans s2).trans s3).trans s4⟩
    · exact ⟨p.2 _ _ upd_same, k _ (lock_same hd p.2)⟩
end
end OP
namespace OP
open PySem PySem.Spec PyProof.Rows L2
theorem valV_kvs : ∀ {L : Ncs} {i : Nat} (nd : (names L).Nodup) (h : i < L.length), valV (kvs L) (Sum.inr L[i].1 : Key) = some (V.ref L[i].2.1)
  | [], i, _, h => absurd h (Nat.not_lt_zero _)
  | p :: L, 0, _, _ => valV_pos rfl
  | p :: L, i + 1, nd, h => by
    obtain ⟨n1, n2⟩ := List.nodup_cons.mp nd
    have hi : i < L.length := Nat.lt_of_succ_lt_succ h
    have ne : ¬ ((Sum.inr p.1 : Key) = Sum.inr L[i].1) := fun z => n1 (by
      have e : p.1 = L[i].1 := Sum.inr.inj z
      show p.1 ∈ names L
      rw [e]
      exact List.mem_map.mpr ⟨L[i], List.getElem_mem hi, rfl⟩)
    show valV ((Sum.inr p.1, V.ref p.2.1) :: kvs L) (Sum.inr L[i].1 : Key) = _
    rw [valV_neg ne]
    exact valV_kvs n2 hi
theorem valV_not {L : Ncs} {x : Str} (h : x ∉ names L) : valV (kvs L) (Sum.inr x : Key) = none := by
  induction L with
  | nil => rfl
  | cons p L ih =>
    have ne : ¬ ((Sum.inr p.1 : Key) = Sum.inr x) := fun z => h (by
      have e : p.1 = x := Sum.inr.inj z
      show x ∈ p.1 :: names L
      rw [e]
      exact List.mem_cons_self)
    show valV ((Sum.inr p.1, V.ref p.2.1) :: kvs L) (Sum.inr x : Key) = none
    rw [valV_neg ne]
    exact ih fun z => h (List.mem_cons_of_mem _ z)
theorem name_fresh {L : Ncs} {i : Nat} (nd : (names L).Nodup) (h : i < L.length) : L[i].1 ∉ names (L.take i) := fun z => by
  unfold names at z nd
  rw [List.map_take] at z
  obtain ⟨m, hm, em⟩ := List.mem_take_iff_getElem.mp z
  have e2 : (L.map (·.1))[m] = (L.map (·.1))[i]'(by rw [List.length_map]; exact h) := by rw [em, List.getElem_map]
  have := (List.getElem_inj nd).mp e2
  omega
theorem kvs_snoc {L : Ncs} {i : Nat} (nd : (names L).Nodup) (h : i < L.length) : putK (kvs (L.take i)) (Sum.inr L[i].1 : Key) (V.ref L[i].2.1) = kvs (L.take (i + 1)) := by
  rw [putK_new _ (valV_not (name_fresh nd h))]
  have e : L.take (i + 1) = L.take i ++ [L[i]] := by rw [List.take_add_one, List.getElem?_eq_getElem h] <;> rfl
  rw [e]
  unfold kvs
  rw [List.map_append] <;> rfl
/-- a dict comprehension over any walk -/
def DcOk (J : It) (g : TG) (tt : TT) (tk tv : TE) (vs : List Nat) (σ : L2.St) (H1 : Hp) (D : Addr) (Qd : Hp → Prop) : Prop :=
  ∃ W : Nat → Nat → Hp → Prop, (∃ m, W 0 m (upd H1 D (.dK []))) ∧ ∀ i m H, W i m H → (J.stop i H ∧ Qd H) ∨ (J.go i H ∧ ∃ Nx : Hp → Prop, (∀ H', Nx H' → ∃ m', m' < m ∧ W (i + 1) m' H') ∧
    ∀ x H', J.yld i H x H' → g x (wipe σ vs) H' fun σ2 H2 => wipe σ2 vs = wipe σ vs ∧ tt σ2 H2 fun b H3 => if b = true then tk σ2 H3 fun y H4 => tv σ2 H4 fun z H5 => ∃ kv k, y = kV k ∧ H5 D = some (.dK kv) ∧ kv.length < sizeLine ∧ Nx (upd H5 D (.dK (putK kv k z))) else Nx H3)
theorem dc_it {J : It} {n : Nat} {G : Hp → Prop} {Y : Nat → Hp → V → Hp → Prop} (wk : Walk J n G Y) {g : TG} {tt : TT} {tk tv : TE} {vs : List Nat} {σ : L2.St} {H1 : Hp} {D : Addr} {Qd : Hp → Prop} (Pv : Nat → Hp → Prop) (h0 : Pv 0 (upd H1 D (.dK []))) (hG : ∀ i H, i ≤ n → Pv i H → G H)
    (hs : ∀ i x H H', i < n → Pv i H → Y i H x H' → g x (wipe σ vs) H' fun σ2 H2 => wipe σ2 vs = wipe σ vs ∧ tt σ2 H2 fun b H3 =>
      if b = true then tk σ2 H3 fun y H4 => tv σ2 H4 fun z H5 => ∃ kv k, y = kV k ∧ H5 D = some (.dK kv) ∧ kv.length < sizeLine ∧ Pv (i + 1) (upd H5 D (.dK (putK kv k z))) else Pv (i + 1) H3) (hd : ∀ H, Pv n H → Qd H) :
    DcOk J g tt tk tv vs σ H1 D Qd := by
  refine ⟨fun i m H => m = n - i ∧ i ≤ n ∧ Pv i H, ⟨n, rfl, Nat.zero_le _, h0⟩, fun i m H hW => ?_⟩
  obtain ⟨rfl, hi, p⟩ := hW
  by_cases lt : i < n
  · exact .inr ⟨wk.goes i H lt (hG i H hi p), Pv (i + 1), fun H' p' => ⟨n - (i + 1), by omega, rfl, lt, p'⟩, fun x H' y => hs i x H H' lt p (wk.yields i H x H' lt (hG i H hi p) y)⟩
  · obtain rfl : i = n := by omega
    exact .inl ⟨wk.stops H (hG _ H hi p), hd H p⟩
/-! ### worlds -/
def wFlds (n : Nat) (l d : Addr) : List (Str × V) := [("width", .int n), ("starts", .ref l), ("made", .ref d)]
theorem w_s : ("starts" : Str) ≠ "width" := by decide +kernel
theorem w_m : ("made" : Str) ≠ "width" := by decide +kernel
theorem s_m : ("made" : Str) ≠ "starts" := by decide +kernel
structure WorldAt (K : PySem.W.Frag) (H : Hp) (p : Addr) (n : Nat) (S : Sts) (L : Ncs) : Prop where
  ob : ∃ dx l d, H p = some (.ins (c_World K) dx (wFlds n l d)) ∧ H l = some (.lst (refs S)) ∧ H d = some (.dK (kvs L))
  sts : StsAt H S
  chgs : ChgsAt K H L
structure WOk (n : Nat) (S : Sts) (L : Ncs) : Prop where
  n1 : 1 ≤ n
  n3 : n ≤ 3
  sts : StsOk n S
  chgs : ChgsOk n L
theorem WorldAt.ext {K : PySem.W.Frag} {H H' : Hp} {p : Addr} {n : Nat} {S : Sts} {L : Ncs} (e : Same H H') (h : WorldAt K H p n S L) : WorldAt K H' p n S L := by
  obtain ⟨⟨dx, l, d, h1, h2, h3⟩, h4, h5⟩ := h
  exact ⟨⟨dx, l, d, e _ _ h1, e _ _ h2, e _ _ h3⟩, h4.ext e, h5.ext e⟩
theorem OneAt.off {K : PySem.W.Frag} {H H' : Hp} {a p C dp : Addr} {o : One} (hp : H p = some (.ins C dp [])) (e : ∀ b u, b ≠ p → H b = some u → H' b = some u) (h : OneAt K H a o) : OneAt K H' a o := by
  obtain ⟨dx, h⟩ := h
  exact ⟨dx, e _ _ (fun z => by rw [z, hp] at h; cases h) h⟩
theorem ChgAt.off {K : PySem.W.Frag} {H H' : Hp} {a p C dp : Addr} {c : Chg} (hp : H p = some (.ins C dp [])) (e : ∀ b u, b ≠ p → H b = some u → H' b = some u) (h : ChgAt K H a c) : ChgAt K H' a c := by
  cases c with
  | one o => exact OneAt.off hp e h
  | iff s v o =>
    obtain ⟨dx, b, h1, h2⟩ := h
    exact ⟨dx, b, e _ _ (fun z => by rw [z, hp] at h1; cases h1) h1, OneAt.off hp e h2⟩
section
variable {P : Program} {w : World} {K : PySem.W.Frag} {mg : Str → Option Value} {base : Heap}
def spWInit (K : PySem.W.Frag) : Sp := fun vs H Q _ => ∃ (p dx l d : Addr) (n : Nat) (S : Sts) (L : Ncs), vs = [.ref p, .int n, .ref l, .ref d] ∧ WOk n S L ∧ H p = some (.ins (c_World K) dx []) ∧ H l = some (.lst (refs S)) ∧ StsAt H S ∧ H d = some (.dK (kvs L)) ∧ ChgsAt K H L ∧
  ∀ H', (∀ b u, b ≠ p → H b = some u → H' b = some u) → WorldAt K H' p n S L → Q .non H'
theorem sc_wi : FnScope ["self", "slots", "stores", "changes", "name"] ["self", "slots", "stores", "changes"] (defScope s_World_init) := ⟨rfl, rfl, rfl, by decide +kernel, rfl, by decide +kernel, by decide +kernel⟩
theorem ok_World_init (T : Txt K mg) : Ok P w K mg base (a_World_init K) ["self", "slots", "stores", "changes"] 7 (spWInit K) := by
  have GN : Ok P w K mg base (a_is_number K) _ 1 spIsNumber := ok_is_number T
  have GI : Ok P w K mg base (a_are_initial_stores K) _ 4 (spInitial K) := ok_initial T
  have GC : Ok P w K mg base (a_check_changes K) _ 6 (spCheckChanges K) := ok_check_changes T
  obtain ⟨t3, m3⟩ := T.i_MOST_SLOTS
  refine ok_of T.f_World_init sc_wi (fun _ _ _ _ _ _ us hl => match us, hl with | [_, _, _, _], _ => rfl) (fun vs H Q E h => ?_) (fun cdv A outer s0 H vs Q E hr h => ?_)
  · obtain ⟨p, dx, l, d, n, S, L, rfl, _⟩ := h
    rfl
  · obtain ⟨p, dx, l, d, n, S, L, rfl, ok, hp, hl, hS, hd, hL, k⟩ := h
    have hr1 : Room 1 _ := hr.mono (by decide)
    have hr4 : Room 4 _ := hr.mono (by decide)
    have n1 := ok.n1
    have n3 := ok.n3
    refine ⟨_, pss_cons (ps_if (pt_not (pt_val (pe_c GN hr1 T.g_is_number (pa_cons (pv 1) (pa_cons pe_int (pa_cons (pe_glob (v := .int 3) (by rfl) m3 ⟨_, rfl⟩) pa_nil)))))) (pss_one ps_never) pss_nil)
      (pss_cons (ps_if (pt_not (pt_val (pe_c GI hr4 T.g_are_initial_stores (pa_cons (pv 2) (pa_cons (pv 1) pa_nil))))) (pss_one ps_never) pss_nil)
      (pss_cons (ps_expr (pe_c GC hr T.g_check_changes (pa_cons (pv 3) (pa_cons (pv 1) pa_nil))))
      (pss_cons (ps_fld (pv 0) (pv 1) rfl)
      (pss_cons (ps_fld (pv 0) (pe_callTy call_list_of (by rfl) T.z_list (by decide +kernel) (pa_cons (pv 2) pa_nil)) rfl)
      (pss_one (ps_fld (pv 0) (pe_lock (pe_dc (own := [("name", 4)]) (g := gName 4) (tt := tYes) rfl sc_wi.nd (pi_keys (pv 3)) (blkOk_by (own := [("name", 4)]) (N := ["self", "slots", "stores", "changes", "name"]) (sc := defScope s_World_init) (by decide +kernel))
        (fun _ _ _ _ _ => pg_name (i := 4) sc_wi.nd rfl (Or.inl rfl)) (fun _ _ _ _ _ => pts_nil) (fun _ _ _ _ _ => pv 4) (fun _ _ _ _ _ => pe_dget (hu_of hr) (pv 3) (pv 4) (fun _ _ => rfl)))) rfl)))))), ?_⟩
    refine ⟨_, rfl, n, 1, 3, rfl, true, ?_, iteF ?_⟩
    · rw [decide_eq_true (show (1 : Int) ≤ n by omega), decide_eq_true (show (n : Int) ≤ 3 by omega)] <;> rfl
    refine ⟨_, rfl, _, rfl, l, S, n, rfl, hl, hS, ok.sts, fun H1 s1 => ⟨true, rfl, iteF ?_⟩⟩
    refine ⟨_, rfl, _, rfl, d, L, n, rfl, s1 _ _ hd, hL.ext s1, ok.chgs, fun H2 s2 => ?_⟩
    have s12 := s1.trans s2
    have hp2 := s12 _ _ hp
    refine ⟨_, rfl, _, rfl, p, c_World K, dx, [], rfl, hp2, T.o_World.cl, T.n_World_width, (by show 0 < 1000; decide), ?_⟩
    have npl : l ≠ p := fun z => by rw [z, hp] at hl; cases hl
    have npd : d ≠ p := fun z => by rw [z, hp] at hd; cases hd
    refine ⟨_, rfl, l, _, rfl, .inl (SqL.of (by rw [upd_ne npl]; exact s12 _ _ hl)), fun l2 hl2 => ?_⟩
    have nlp : l2 ≠ p := fun z => by rw [z, upd_same] at hl2; cases hl2
    refine ⟨_, rfl, p, c_World K, dx, _, rfl, Eq.trans (upd_ne nlp.symm) upd_same, T.o_World.cl, T.n_World_starts, (by show 1 < 1000; decide), ?_⟩
    -- the heap now
    generalize hH : upd (upd (upd H2 p (.ins (c_World K) dx (putF "width" (.int n) []))) l2 (.lst (refs S))) p (.ins (c_World K) dx (putF "starts" (.ref l2) (putF "width" (.int n) []))) = H5
    have o5 : ∀ b u, b ≠ p → H b = some u → H5 b = some u := fun b u hb e => by
      have e2 := s12 _ _ e
      rw [← hH, upd_ne hb, upd_ne (ne_of_none (by rw [upd_ne hb]; exact e2) hl2), upd_ne hb]
      exact e2
    have hp5 : H5 p = some (.ins (c_World K) dx (putF "starts" (.ref l2) (putF "width" (.int n) []))) := by rw [← hH, upd_same]
    have hl5 : H5 l2 = some (.lst (refs S)) := by rw [← hH, upd_ne nlp, upd_same]
    have hd5 := o5 _ _ npd hd
    refine ⟨d, _, hd5, trivial, fun od => ⟨_, rfl, d, od, rfl, .inl ⟨kvs L, upd_same, fun D hD => ?_⟩⟩⟩
    have nDd : D ≠ d := fun z => by rw [z, upd_same] at hD; cases hD
    have nd := ok.chgs.nd
    refine dc_it walk_keys (fun i H' => (∀ b u, b ≠ D → upd H5 d (.frz od (.dK (kvs L))) b = some u → H' b = some u) ∧ H' D = some (.dK (kvs (L.take i)))) ⟨fun b u hb e => by rw [upd_ne hb]; exact e, upd_same⟩ (fun i H' _ q => q.1 _ _ nDd.symm upd_same) (fun i x H6 H7 hi q y => ?_) (fun H6 q => ?_)
    · obtain ⟨rfl, kk, vv, ekv, rfl⟩ := y
      have hiL : i < L.length := by rw [kvs_len] at hi; exact hi
      rw [kvs_at hiL] at ekv
      cases ekv
      refine ⟨rfl, tyes (iteT ⟨_, rfl, _, rfl, _, rfl, d, V.ref L[i].2.1, rfl, ?_, ?_⟩)⟩
      · exact .inl ⟨kvs L, Sum.inr L[i].1, .inr ⟨od, q.1 _ _ nDd.symm upd_same⟩, rfl, (valV_kvs nd hiL).symm⟩
      · refine ⟨kvs (L.take i), Sum.inr L[i].1, rfl, q.2, small1000 (by rw [kvs_len, List.length_take]; have := ok.chgs.hi; omega), fun b u hb e => ?_, ?_⟩
        · rw [upd_ne hb]
          exact q.1 b u hb e
        · rw [upd_same, kvs_snoc nd hiL]
    · rw [kvs_len, List.take_length] at q
      obtain ⟨q1, q2⟩ := q
      refine ⟨q1 _ _ nDd.symm upd_same, ?_⟩
      have nDp : D ≠ p := fun z => by
        rw [upd_ne nDd, z, hp5] at hD
        cases hD
      have nDl : D ≠ l2 := fun z => by
        rw [upd_ne nDd, z, hl5] at hD
        cases hD
      have n2d : l2 ≠ d := fun z => by
        rw [z, hd5] at hl5
        cases hl5
      have o6 : ∀ b u, b ≠ d → H5 b = some u → upd H6 d (.dK (kvs L)) b = some u := fun b u hb e => by
        rw [upd_ne hb]
        refine q1 b u (fun z => ?_) (by rw [upd_ne hb]; exact e)
        rw [upd_ne nDd, ← z, e] at hD
        cases hD
      have hp6 := o6 _ _ npd.symm hp5
      refine ⟨_, rfl, p, c_World K, dx, _, rfl, hp6, T.o_World.cl, T.n_World_made, (by rw [putF2 w_s.symm]; show 2 < 1000; decide), ?_⟩
      rw [putF3 w_s.symm w_m.symm s_m.symm]
      have o7 : ∀ b u, b ≠ p → H b = some u → upd (upd H6 d (.dK (kvs L))) p (.ins (c_World K) dx [("width", .int n), ("starts", .ref l2), ("made", .ref D)]) b = some u := fun b u hb e => by
        rw [upd_ne hb]
        by_cases hbd : b = d
        · rw [hbd, upd_same]
          rw [hbd, hd] at e
          exact e
        · exact o6 b u hbd (o5 b u hb e)
      refine k _ o7 ⟨⟨dx, l2, D, upd_same, ?_, ?_⟩, fun q hq => ?_, fun q hq => ?_⟩
      · rw [upd_ne nlp]
        exact o6 _ _ n2d hl5
      · rw [upd_ne nDp, upd_ne nDd]
        exact q2
      · exact o7 _ _ (fun z => by have e := hS q hq; rw [z, hp] at e; cases e) (hS q hq)
      · exact (hL q hq).off hp o7
end
end OP
namespace OP
open PySem PySem.Spec PyProof.Rows L2
/-! ### what the changes compute -/
theorem val_ok {o : One} {xs : List Int} (ok : o.Ok) (sx : StoreOk xs) (h : ∀ n ∈ o.slots, n < (xs.length : Int)) : 0 ≤ o.val xs ∧ o.val xs ≤ 7 := by
  obtain ⟨k, s, v⟩ := o
  have v7 : v ≤ 7 := ok.v7
  have at_ : ∀ i, i < xs.length → 0 ≤ xs.getD i 0 ∧ xs.getD i 0 ≤ 7 := fun i hi => sx.each _ (List.mem_of_getElem? (getD_at hi))
  have hs := at_ s (Int.ofNat_lt.mp (h _ (One.s_mem ⟨k, s, v⟩)))
  cases k with
  | put => show 0 ≤ (v : Int) ∧ (v : Int) ≤ 7; omega
  | move => exact at_ v (Int.ofNat_lt.mp (h _ (One.v_mem ⟨.move, s, v⟩ rfl)))
  | add => show 0 ≤ (xs.getD s 0 + v) % 8 ∧ (xs.getD s 0 + v) % 8 ≤ 7; omega
  | addslot => show 0 ≤ (xs.getD s 0 + xs.getD v 0) % 8 ∧ (xs.getD s 0 + xs.getD v 0) % 8 ≤ 7; omega
  | rais =>
    show 0 ≤ (if (v : Int) > xs.getD s 0 then (v : Int) else xs.getD s 0) ∧ (if (v : Int) > xs.getD s 0 then (v : Int) else xs.getD s 0) ≤ 7
    split <;> omega
  | lower =>
    show 0 ≤ (if (v : Int) < xs.getD s 0 then (v : Int) else xs.getD s 0) ∧ (if (v : Int) < xs.getD s 0 then (v : Int) else xs.getD s 0) ≤ 7
    split <;> omega
theorem One.app_ok {o : One} {xs : List Int} (ok : o.Ok) (sx : StoreOk xs) (h : ∀ n ∈ o.slots, n < (xs.length : Int)) : StoreOk (o.app xs) ∧ (o.app xs).length = xs.length := by
  have hl : (o.app xs).length = xs.length := List.length_set ..
  refine ⟨⟨by rw [hl]; exact sx.lo, by rw [hl]; exact sx.hi, fun z hz => ?_⟩, hl⟩
  rcases List.mem_or_eq_of_mem_set hz with q | q
  · exact sx.each z q
  · rw [q]
    exact val_ok ok sx h
theorem Chg.app_ok {c : Chg} {xs : List Int} (ok : c.Ok) (sx : StoreOk xs) (h : ∀ n ∈ c.slots, n < (xs.length : Int)) : StoreOk (c.app xs) ∧ (c.app xs).length = xs.length := by
  cases c with
  | one o => exact One.app_ok ok sx h
  | iff s v o =>
    show StoreOk (if xs.getD s 0 = (v : Int) then o.app xs else xs) ∧ (if xs.getD s 0 = (v : Int) then o.app xs else xs).length = xs.length
    split
    · exact One.app_ok ok.2.2 sx fun n hn => h n ((three_mem ok.1 (One.slots_bd ok.2.2) n).mpr (.inr hn))
    · exact ⟨sx, rfl⟩
/-- the change of a name -/
def chgOf (L : Ncs) (x : Str) : Chg := ((L.find? fun p => decide (p.1 = x)).map (·.2.2)).getD (.one ⟨.put, 0, 0⟩)
def appAll (L : Ncs) (ys : List Str) (xs : List Int) : List Int := ys.foldl (fun z y => (chgOf L y).app z) xs
theorem mem_names {L : Ncs} {x : Str} (h : x ∈ names L) : ∃ i, ∃ hi : i < L.length, L[i].1 = x := by
  obtain ⟨p, hp, e⟩ := List.mem_map.mp h
  obtain ⟨i, hi, e2⟩ := List.mem_iff_getElem.mp hp
  exact ⟨i, hi, by rw [e2]; exact e⟩
theorem chgOf_at : ∀ {L : Ncs} {i : Nat} (nd : (names L).Nodup) (h : i < L.length), chgOf L L[i].1 = L[i].2.2
  | [], i, _, h => absurd h (Nat.not_lt_zero _)
  | p :: L, 0, _, _ => by
    show chgOf (p :: L) p.1 = p.2.2
    unfold chgOf
    rw [List.find?_cons_of_pos (by simp)] <;> rfl
  | p :: L, i + 1, nd, h => by
    obtain ⟨n1, n2⟩ := List.nodup_cons.mp nd
    have hi : i < L.length := Nat.lt_of_succ_lt_succ h
    have ne : ¬ (p.1 = L[i].1) := fun z => n1 (by
      show p.1 ∈ names L
      rw [z]
      exact List.mem_map.mpr ⟨L[i], List.getElem_mem hi, rfl⟩)
    have ih := chgOf_at n2 hi
    show chgOf (p :: L) L[i].1 = L[i].2.2
    unfold chgOf at ih ⊢
    rw [List.find?_cons_of_neg (by simpa using ne)]
    exact ih
section
variable {P : Program} {w : World} {K : PySem.W.Frag} {mg : Str → Option Value} {base : Heap}
def spKnown (K : PySem.W.Frag) : Sp := fun vs H Q _ => ∃ (p : Addr) (x : Str) (n : Nat) (S : Sts) (L : Ncs), vs = [.ref p, .str x] ∧ WorldAt K H p n S L ∧ (names L).Nodup ∧ x ∈ names L ∧ Q (.bl true) H
theorem sc_ik : FnScope ["world", "name"] ["world", "name"] (defScope s_is_known) := ⟨rfl, rfl, rfl, by decide +kernel, rfl, by decide +kernel, by decide +kernel⟩
theorem ok_is_known (T : Txt K mg) : Ok P w K mg base (a_is_known K) ["world", "name"] 1 (spKnown K) := by
  refine ok_of T.f_is_known sc_ik (fun _ _ _ _ _ _ us hl => match us, hl with | [_, _], _ => rfl) (fun vs H Q E h => ?_) (fun cdv A outer s H vs Q E hr h => ?_)
  · obtain ⟨p, x, n, S, L, rfl, _⟩ := h
    rfl
  · obtain ⟨p, x, n, S, L, rfl, ⟨⟨dx, l, d, hp, hl, hd⟩, _, _⟩, nd, hx, k⟩ := h
    obtain ⟨i, hi, rfl⟩ := mem_names hx
    refine ⟨_, pss_one (ps_ret (pe_and (pe_callB call_isi (by rfl) T.z_isinstance (by decide +kernel) (pa_cons (pv 1) (pa_cons (pe_bltn (v := .ty "str") (by rfl) T.z_str (by decide +kernel) rfl) pa_nil)))
      (pe_one (pe_cmp (pc_din (hu_of hr) (pv 1) (pe_fld (pv 0) rfl)) rfl)))), ?_⟩
    refine ⟨_, rfl, _, _, _, _, true, rfl, .ty "str", .base (.str _), kit_str, true, rfl, iteT ?_⟩
    refine ⟨_, rfl, _, rfl, p, c_World K, dx, _, _, rfl, hp, T.o_World.cl, T.n_World_made, lookC w_m s_m, d, _, rfl, DGet.k (k := Sum.inr L[i].1) hd, ?_⟩
    rw [valV_kvs nd hi]
    exact k
def spWidth (K : PySem.W.Frag) : Sp := fun vs H Q _ => ∃ (p : Addr) (n : Nat) (S : Sts) (L : Ncs), vs = [.ref p] ∧ WorldAt K H p n S L ∧ Q (.int n) H
theorem sc_ws : FnScope ["self"] ["self"] (defScope s_World_slots) := ⟨rfl, rfl, rfl, by decide +kernel, rfl, by decide +kernel, by decide +kernel⟩
theorem ok_World_slots (T : Txt K mg) : Ok P w K mg base (a_World_slots K) ["self"] 1 (spWidth K) := by
  refine ok_of T.f_World_slots sc_ws (fun _ _ _ _ _ _ us hl => match us, hl with | [_], _ => rfl) (fun vs H Q E h => ?_) (fun cdv A outer s H vs Q E hr h => ?_)
  · obtain ⟨p, n, S, L, rfl, _⟩ := h
    rfl
  · obtain ⟨p, n, S, L, rfl, ⟨⟨dx, l, d, hp, hl, hd⟩, _, _⟩, k⟩ := h
    refine ⟨_, pss_one (ps_ret (pe_fld (pv 0) rfl)), ?_⟩
    exact ⟨_, rfl, p, c_World K, dx, _, _, rfl, hp, T.o_World.cl, T.n_World_width, lookA, k⟩
def spStores (K : PySem.W.Frag) : Sp := fun vs H Q _ => ∃ (p : Addr) (n : Nat) (S : Sts) (L : Ncs), vs = [.ref p] ∧ WorldAt K H p n S L ∧ ∀ r H', Same H H' → H' r = some (.lst (refs S)) → Q (.ref r) H'
theorem sc_wst : FnScope ["self"] ["self"] (defScope s_World_stores) := ⟨rfl, rfl, rfl, by decide +kernel, rfl, by decide +kernel, by decide +kernel⟩
theorem ok_World_stores (T : Txt K mg) : Ok P w K mg base (a_World_stores K) ["self"] 1 (spStores K) := by
  refine ok_of T.f_World_stores sc_wst (fun _ _ _ _ _ _ us hl => match us, hl with | [_], _ => rfl) (fun vs H Q E h => ?_) (fun cdv A outer s H vs Q E hr h => ?_)
  · obtain ⟨p, n, S, L, rfl, _⟩ := h
    rfl
  · obtain ⟨p, n, S, L, rfl, ⟨⟨dx, l, d, hp, hl, hd⟩, _, _⟩, k⟩ := h
    refine ⟨_, pss_one (ps_ret (pe_callTy call_list_of (by rfl) T.z_list (by decide +kernel) (pa_cons (pe_fld (pv 0) rfl) pa_nil))), ?_⟩
    exact ⟨_, rfl, p, c_World K, dx, _, _, rfl, hp, T.o_World.cl, T.n_World_starts, lookB w_s, l, _, rfl, .inl (SqL.of hl), fun r hr => k r _ (same_upd hr) upd_same⟩
def spNames (K : PySem.W.Frag) : Sp := fun vs H Q _ => ∃ (p : Addr) (n : Nat) (S : Sts) (L : Ncs), vs = [.ref p] ∧ WorldAt K H p n S L ∧ ∀ r H', Same H H' → H' r = some (.lst ((names L).map V.str)) → Q (.ref r) H'
theorem kvs_keys (L : Ncs) : (kvs L).map (fun kv => kV kv.1) = (names L).map V.str := by
  unfold kvs names
  rw [List.map_map, List.map_map] <;> rfl
theorem sc_wn : FnScope ["self"] ["self"] (defScope s_World_names) := ⟨rfl, rfl, rfl, by decide +kernel, rfl, by decide +kernel, by decide +kernel⟩
theorem ok_World_names (T : Txt K mg) : Ok P w K mg base (a_World_names K) ["self"] 1 (spNames K) := by
  refine ok_of T.f_World_names sc_wn (fun _ _ _ _ _ _ us hl => match us, hl with | [_], _ => rfl) (fun vs H Q E h => ?_) (fun cdv A outer s H vs Q E hr h => ?_)
  · obtain ⟨p, n, S, L, rfl, _⟩ := h
    rfl
  · obtain ⟨p, n, S, L, rfl, ⟨⟨dx, l, d, hp, hl, hd⟩, _, _⟩, k⟩ := h
    refine ⟨_, pss_one (ps_ret (pe_callTy (call_list_dK rfl) (by rfl) T.z_list (by decide +kernel) (pa_cons (pe_fld (pv 0) rfl) pa_nil))), ?_⟩
    refine ⟨_, rfl, p, c_World K, dx, _, _, rfl, hp, T.o_World.cl, T.n_World_made, lookC w_m s_m, d, _, rfl, hd, fun r hr => k r _ (same_upd hr) ?_⟩
    rw [upd_same, kvs_keys]
def spChange (K : PySem.W.Frag) : Sp := fun vs H Q _ => ∃ (p : Addr) (n : Nat) (S : Sts) (L : Ncs) (i : Nat) (hi : i < L.length), vs = [.ref p, .str L[i].1] ∧ WorldAt K H p n S L ∧ (names L).Nodup ∧ Q (.ref L[i].2.1) H
theorem sc_wc : FnScope ["self", "name"] ["self", "name"] (defScope s_World_change) := ⟨rfl, rfl, rfl, by decide +kernel, rfl, by decide +kernel, by decide +kernel⟩
theorem ok_World_change (T : Txt K mg) : Ok P w K mg base (a_World_change K) ["self", "name"] 2 (spChange K) := by
  have GK : Ok P w K mg base (a_is_known K) _ 1 (spKnown K) := ok_is_known T
  refine ok_of T.f_World_change sc_wc (fun _ _ _ _ _ _ us hl => match us, hl with | [_, _], _ => rfl) (fun vs H Q E h => ?_) (fun cdv A outer s H vs Q E hr h => ?_)
  · obtain ⟨p, n, S, L, i, hi, rfl, _⟩ := h
    rfl
  · obtain ⟨p, n, S, L, i, hi, rfl, W, nd, k⟩ := h
    obtain ⟨⟨dx, l, d, hp, hl, hd⟩, _, _⟩ := id W
    refine ⟨_, pss_cons (ps_if (pt_not (pt_val (pe_c GK hr T.g_is_known (pa_cons (pv 0) (pa_cons (pv 1) pa_nil))))) (pss_one ps_never) pss_nil) (pss_one (ps_ret (pe_dget (hu_of hr) (pe_fld (pv 0) rfl) (pv 1) (fun _ _ => rfl)))), ?_⟩
    refine ⟨_, rfl, _, rfl, p, L[i].1, n, S, L, rfl, W, nd, List.mem_map.mpr ⟨L[i], List.getElem_mem hi, rfl⟩, true, rfl, iteF ?_⟩
    refine ⟨_, rfl, p, c_World K, dx, _, _, rfl, hp, T.o_World.cl, T.n_World_made, lookC w_m s_m, _, rfl, d, V.ref L[i].2.1, rfl, .inl ⟨kvs L, Sum.inr L[i].1, .inl hd, rfl, (valV_kvs nd hi).symm⟩, k⟩
def spIsOrder (K : PySem.W.Frag) : Sp := fun vs H Q _ => ∃ (p a : Addr) (ys : List Str) (n : Nat) (S : Sts) (L : Ncs), vs = [.ref p, .ref a] ∧ WorldAt K H p n S L ∧ (names L).Nodup ∧ H a = some (.tup (ys.map V.str)) ∧ ys.Nodup ∧ ys.length ≤ 4 ∧ (∀ y ∈ ys, y ∈ names L) ∧ ∀ H', Same H H' → Q (.bl true) H'
theorem strs_at' {ns : List Str} {i : Nat} {x : V} (h : (ns.map V.str)[i]? = some x) : ∃ n, ns[i]? = some n ∧ x = .str n := by
  rw [List.getElem?_map] at h
  cases e : ns[i]? with
  | none => rw [e] at h; cases h
  | some n => rw [e] at h; exact ⟨n, rfl, (Option.some.inj h).symm⟩
theorem sc_io : FnScope ["world", "order", "name"] ["world", "order"] (defScope s_is_order) := ⟨rfl, rfl, rfl, by decide +kernel, rfl, by decide +kernel, by decide +kernel⟩
theorem ok_is_order (T : Txt K mg) : Ok P w K mg base (a_is_order K) ["world", "order"] 2 (spIsOrder K) := by
  have GK : Ok P w K mg base (a_is_known K) _ 1 (spKnown K) := ok_is_known T
  refine ok_of T.f_is_order sc_io (fun _ _ _ _ _ _ us hl => match us, hl with | [_, _], _ => rfl) (fun vs H Q E h => ?_) (fun cdv A outer s H vs Q E hr h => ?_)
  · obtain ⟨p, a, ys, n, S, L, rfl, _⟩ := h
    rfl
  · obtain ⟨p, a, ys, n, S, L, rfl, W, ndL, ha, nd, h4, hin, k⟩ := h
    have hm : (ys.map V.str).length = ys.length := List.length_map ..
    refine ⟨_, pss_cons (ps_if (PW.pt (pw_or (pt_not (pt_val (pe_callB call_isi (by rfl) T.z_isinstance (by decide +kernel) (pa_cons (pv 1) (pa_cons (pe_bltn (v := .ty "tuple") (by rfl) T.z_tuple (by decide +kernel) rfl) pa_nil)))))
        (pw_or1 (pt_not (pt_val (pe_callB (cr_all rfl) (by rfl) T.z_all (by decide +kernel) (pa_cons (pe_lc (own := [("name", 2)]) (g := gName 2) (tt := tYes) rfl sc_io.nd (pi_tup (pv 1)) (blkOk_by (own := [("name", 2)]) (N := ["world", "order", "name"]) (sc := defScope s_is_order) (by decide +kernel))
          (fun _ _ _ _ _ => pg_name (i := 2) sc_io.nd rfl (Or.inl rfl)) (fun _ _ _ _ _ => pts_nil)
          (fun _ _ _ _ _ => pe_c GK hr T.g_is_known (pa_cons (pv 0) (pa_cons (pv 2) pa_nil)))) pa_nil))))))) (pss_one (ps_ret pe_bl)) pss_nil)
      (pss_one (ps_ret (pe_cmpR op_eq (pe_callB call_lenK (by rfl) T.z_len PySem.boot_len (pa_cons (pe_callTy (cr_setS rfl) (by rfl) T.z_set (by decide +kernel) (pa_cons (pv 1) pa_nil)) pa_nil)) (pe_callB call_len_seq (by rfl) T.z_len PySem.boot_len (pa_cons (pv 1) pa_nil)) (nomark _)))), ?_⟩
    refine ⟨_, rfl, _, _, _, _, true, rfl, .ty "tuple", .base (.tup ha), kit_tup, true, rfl, iteF ?_⟩
    refine ⟨_, rfl, a, rfl, ⟨_, SqT.of ha⟩, fun D hD => ?_⟩
    refine lcT_map (K := K) (a := a) (xs := ys.map V.str) (List.replicate ys.length (.bl true)) hD (SqT.of ha) (by rw [hm]; omega) (by rw [hm, List.length_replicate]) (fun i x y H' Qe hx hy s1 kk => ?_) fun H' s1 e => ?_
    · obtain ⟨z, hz, rfl⟩ := strs_at' hx
      obtain rfl := rep_at hy
      exact ⟨_, rfl, _, rfl, p, z, n, S, L, rfl, W.ext s1, ndL, hin z (List.mem_of_getElem? hz), kk H' (Same.refl _)⟩
    · refine ⟨D, List.replicate ys.length true, rfl, ?_, true, by rw [all_true], iteF ?_⟩
      · rw [map_rep]
        exact SqL.of e
      refine ⟨_, rfl, a, ys, rfl, SqT.of (s1 _ _ ha), by omega, nd, fun q hq => ?_⟩
      have s2 : Same H' _ := same_upd (o := SetK P w q (inS ys) ys.length) hq
      refine ⟨q, _, ys.length, rfl, upd_same, by omega, ?_⟩
      refine ⟨_, rfl, a, _, rfl, .inr (SqT.of (s2 _ _ (s1 _ _ ha))), rfl, ?_⟩
      have e2 : decide (V.int (ys.length : Int) = V.int ((ys.map V.str).length : Int)) = true := decide_eq_true (by rw [hm])
      show Q (.bl (decide (V.int (ys.length : Int) = V.int ((ys.map V.str).length : Int)))) _
      rw [e2]
      exact k _ (s1.trans s2)
def spEnd (K : PySem.W.Frag) : Sp := fun vs H Q _ => ∃ (p st a : Addr) (xs : List Int) (ys : List Str) (n : Nat) (S : Sts) (L : Ncs), vs = [.ref p, .ref st, .ref a] ∧ WorldAt K H p n S L ∧ WOk n S L ∧ H st = some (.tup (xs.map V.int)) ∧ StoreOk xs ∧ xs.length = n ∧
  H a = some (.tup (ys.map V.str)) ∧ ys.Nodup ∧ ys.length ≤ 4 ∧ (∀ y ∈ ys, y ∈ names L) ∧ ∀ r H', Same H H' → H' r = some (.tup ((appAll L ys xs).map V.int)) → Q (.ref r) H'
theorem sc_we : FnScope ["self", "store", "order", "reached", "name"] ["self", "store", "order"] (defScope s_World_end) := ⟨rfl, rfl, rfl, by decide +kernel, rfl, by decide +kernel, by decide +kernel⟩
theorem ok_World_end (T : Txt K mg) : Ok P w K mg base (a_World_end K) ["self", "store", "order"] 6 (spEnd K) := by
  have GS : Ok P w K mg base (a_is_store_of K) _ 3 spIsStoreOf := ok_is_store_of T
  have GO : Ok P w K mg base (a_is_order K) _ 2 (spIsOrder K) := ok_is_order T
  have GA : ∀ q, Ok P w K mg base (CK.applyA K q) ["self", "store"] 5 (spCA K q) := okC_apply T
  refine ok_of T.f_World_end sc_we (fun _ _ _ _ _ _ us hl => match us, hl with | [_, _, _], _ => rfl) (fun vs H Q E h => ?_) (fun cdv A outer s H vs Q E hr h => ?_)
  · obtain ⟨p, st, a, xs, ys, n, S, L, rfl, _⟩ := h
    rfl
  · obtain ⟨p, st, a, xs, ys, n, S, L, rfl, W, ok, hst, sx, hn, ha, nd, h4, hin, k⟩ := h
    obtain ⟨⟨dx, l, d, hp, hl, hd⟩, _, hL⟩ := id W
    have hr2 : Room 2 _ := hr.mono (by decide)
    have hr3 : Room 3 _ := hr.mono (by decide)
    refine ⟨_, pss_cons (ps_if (pt_not (pt_val (pe_c GS hr3 T.g_is_store_of (pa_cons (pv 1) (pa_cons (pe_fld (pv 0) rfl) pa_nil))))) (pss_one ps_never) pss_nil)
      (pss_cons (ps_if (pt_not (pt_val (pe_c GO hr2 T.g_is_order (pa_cons (pv 0) (pa_cons (pv 2) pa_nil))))) (pss_one ps_never) pss_nil)
      (pss_cons (ps_set (i := 3) sc_we.nd rfl (Or.inl rfl) (pv 1))
      (pss_cons (ps_for PassesOwn.never rfl (pi_tup (pv 2)) (pg_name (i := 4) sc_we.nd rfl (Or.inl rfl))
        (pss_one (ps_set (i := 3) sc_we.nd rfl (Or.inl rfl) (pe_any fun q : CK => pe_mt (pe_dget (hu_of hr) (pe_fld (pv 0) rfl) (pv 4) (fun _ _ => rfl)) (T.ownC q) (T.methAC q) (GA q) hr (pa_cons (pv 3) pa_nil)))))
      (pss_one (ps_ret (pv 3)))))), ?_⟩
    refine ⟨_, rfl, _, rfl, p, c_World K, dx, _, _, rfl, hp, T.o_World.cl, T.n_World_width, lookA, st, xs, n, rfl, hst, sx, by rw [hn], fun H1 s1 => ⟨true, rfl, iteF ?_⟩⟩
    refine ⟨_, rfl, _, rfl, p, a, ys, n, S, L, rfl, W.ext s1, ok.chgs.nd, s1 _ _ ha, nd, h4, hin, fun H2 s2 => ⟨true, rfl, iteF ?_⟩⟩
    refine ⟨_, rfl, ?_⟩
    have s12 := s1.trans s2
    have hm : (ys.map V.str).length = ys.length := List.length_map ..
    refine ⟨_, rfl, a, rfl, ⟨_, SqT.of (s12 _ _ ha)⟩, for_tup (K := K) (a := a) (xs := ys.map V.str) (fun i σ H' => ∃ r v zs, σ = [some (.ref p), some (.ref st), some (.ref a), some (.ref r), v] ∧ Same H H' ∧ zs = appAll L (ys.take i) xs ∧ StoreOk zs ∧ zs.length = n ∧ H' r = some (.tup (zs.map V.int)))
      ⟨st, none, xs, rfl, s12, rfl, sx, hn, s12 _ _ hst⟩ (fun i σ H' _ q => ?_) (fun i x σ H' hx q => ?_) fun σ H' q => ?_⟩
    · obtain ⟨_, _, _, _, s3, _⟩ := q
      exact SqT.of (s3 _ _ ha)
    · obtain ⟨r, v, zs, rfl, s3, ez, sz, hz, hr'⟩ := q
      obtain ⟨y, hy, rfl⟩ := strs_at' hx
      obtain ⟨j, hj, rfl⟩ := mem_names (hin y (List.mem_of_getElem? hy))
      have mem : L[j] ∈ L := List.getElem_mem hj
      have hc := (hL _ mem).ext s3
      obtain ⟨dc, fs, ho, hna⟩ := hc.obj
      have ch := ok.chgs.chg _ mem
      have hlt : ∀ z ∈ L[j].2.2.slots, z < (zs.length : Int) := fun z h => by rw [hz]; exact ch.2 z h
      refine ⟨L[j].2.2.ck, _, rfl, p, c_World K, dx, _, _, rfl, s3 _ _ hp, T.o_World.cl, T.n_World_made, lookC w_m s_m, _, rfl, d, V.ref L[j].2.1, rfl, .inl ⟨kvs L, Sum.inr L[j].1, .inl (s3 _ _ hd), rfl, (valV_kvs ok.chgs.nd hj).symm⟩, L[j].2.1, dc, fs, rfl, ho, hna,
        _, rfl, L[j].2.1, r, L[j].2.2, zs, rfl, rfl, hc, ch.1, hr', sz, hlt, fun r2 H4 s4 e4 => ?_⟩
      have ap := Chg.app_ok ch.1 sz hlt
      refine ⟨r2, _, L[j].2.2.app zs, rfl, s3.trans s4, ?_, ap.1, ap.2.trans hz, e4⟩
      rw [ez, List.take_add_one, hy]
      unfold appAll
      rw [List.foldl_append]
      show _ = (chgOf L L[j].1).app _
      rw [chgOf_at ok.chgs.nd hj]
    · obtain ⟨r, v, zs, rfl, s3, ez, sz, hz, hr'⟩ := q
      refine ⟨_, rfl, k r H' s3 ?_⟩
      rw [hr', ez, hm, List.take_length]
end
end OP
namespace OP
open PySem PySem.Spec PyProof.Rows L2
/-! ### data: stores, lists of stores, texts -/
def dT (xs : List Int) : PyData := .tuple (xs.map PyData.int)
def dN (ys : List Str) : PyData := .tuple (ys.map PyData.str)
theorem lay_T (xs : List Int) : (dT xs).canLay0 = true := by
  unfold dT
  simp only [PyData.canLay0]
  exact PySem.W.ke_canLayAll0 xs
theorem dep_T (xs : List Int) : (dT xs).depth = 1 := by
  unfold dT
  simp only [PyData.depth, PySem.W.ke_depthAll xs]
theorem lay_strs : ∀ ys : List Str, (∀ y ∈ ys, PyData.strOk y = true) → PyData.canLayAll0 (ys.map PyData.str) = true
  | [], _ => rfl
  | y :: ys, h => by
    simp only [List.map_cons, PyData.canLayAll0, PyData.canLay0, h y List.mem_cons_self, lay_strs ys fun z hz => h z (List.mem_cons_of_mem _ hz), Bool.and_self]
theorem dep_strs : ∀ ys : List Str, PyData.depthAll (ys.map PyData.str) = 0
  | [] => rfl
  | y :: ys => by simp only [List.map_cons, PyData.depthAll, PyData.depth, dep_strs ys, Nat.max_self]
theorem lay_all {α : Type} {f : α → PyData} : ∀ xs : List α, (∀ x ∈ xs, (f x).canLay0 = true) → PyData.canLayAll0 (xs.map f) = true
  | [], _ => rfl
  | x :: xs, h => by
    simp only [List.map_cons, PyData.canLayAll0, h x List.mem_cons_self, lay_all xs fun z hz => h z (List.mem_cons_of_mem _ hz), Bool.and_self]
theorem dep_all {α : Type} {f : α → PyData} {n : Nat} : ∀ xs : List α, (∀ x ∈ xs, (f x).depth ≤ n) → PyData.depthAll (xs.map f) ≤ n
  | [], _ => Nat.zero_le _
  | x :: xs, h => by
    simp only [List.map_cons, PyData.depthAll]
    exact Nat.max_le.mpr ⟨h x List.mem_cons_self, dep_all xs fun z hz => h z (List.mem_cons_of_mem _ hz)⟩
theorem shp {d : PyData} (h1 : d.canLay0 = true) (h2 : d.depth ≤ 64) : SeqAt.shaped d = true := by
  show (d.canLay0 && decide (d.depth ≤ 64)) = true
  rw [h1, decide_eq_true h2]
  rfl
theorem shp_T (xs : List Int) : SeqAt.shaped (dT xs) = true := shp (lay_T xs) (by rw [dep_T]; decide)
theorem shp_Ts (xs : List (List Int)) : SeqAt.shaped (.list (xs.map dT)) = true := shp (by simp only [PyData.canLay0]; exact lay_all xs fun x _ => lay_T x) (by
  simp only [PyData.depth]
  have := dep_all (n := 1) (f := dT) xs fun x _ => by rw [dep_T]; exact Nat.le_refl _
  omega)
theorem shp_strs {ys : List Str} (h : ∀ y ∈ ys, PyData.strOk y = true) : SeqAt.shaped (.list (ys.map PyData.str)) = true := shp (by simp only [PyData.canLay0]; exact lay_strs ys h) (by
  simp only [PyData.depth, dep_strs]
  decide)
theorem lay_N {ys : List Str} (h : ∀ y ∈ ys, PyData.strOk y = true) : (dN ys).canLay0 = true := by
  unfold dN
  simp only [PyData.canLay0]
  exact lay_strs ys h
theorem dep_N (ys : List Str) : (dN ys).depth = 1 := by
  unfold dN
  simp only [PyData.depth, dep_strs]
theorem shp_Ns {zs : List (List Str)} (h : ∀ z ∈ zs, ∀ y ∈ z, PyData.strOk y = true) : SeqAt.shaped (.list (zs.map dN)) = true := shp (by simp only [PyData.canLay0]; exact lay_all zs fun x hx => lay_N (h x hx)) (by
  simp only [PyData.depth]
  have := dep_all (n := 1) (f := dN) zs fun x _ => by rw [dep_N]; exact Nat.le_refl _
  omega)
theorem eqv_shp {d : PyData} (h : SeqAt.shaped d = true) : PyData.eqv d d = true := SeqAt.eqv_refl d (SeqAt.canLay_of_shaped h)
theorem eqvAll_ints : ∀ xs ys : List Int, PyData.eqvAll (xs.map PyData.int) (ys.map PyData.int) = decide (xs = ys)
  | [], [] => by simp [PyData.eqvAll]
  | [], _ :: _ => by simp [PyData.eqvAll]
  | _ :: _, [] => by simp [PyData.eqvAll]
  | a :: r, b :: t => by
    simp only [List.map_cons, PyData.eqvAll, PyData.eqv, eqvAll_ints r t]
    by_cases h : a = b <;> by_cases h' : r = t <;> simp [h, h']
theorem eqv_T (xs ys : List Int) : PyData.eqv (dT xs) (dT ys) = decide (xs = ys) := by
  unfold dT
  simp only [PyData.eqv]
  exact eqvAll_ints xs ys
section
variable {K : PySem.W.Frag} {H : Hp}
theorem dp_ints : ∀ xs : List Int, DpAll K H (xs.map V.int) (xs.map PyData.int)
  | [] => .nil
  | x :: xs => .cons (.int x) (dp_ints xs)
theorem dp_strs : ∀ xs : List Str, DpAll K H (xs.map V.str) (xs.map PyData.str)
  | [] => .nil
  | x :: xs => .cons (.str x) (dp_strs xs)
theorem dp_T {a : Addr} {xs : List Int} (h : H a = some (.tup (xs.map V.int))) : Dp K H (.ref a) (dT xs) := .tup (SqT.of h) (dp_ints xs)
theorem dp_N {a : Addr} {xs : List Str} (h : H a = some (.tup (xs.map V.str))) : Dp K H (.ref a) (dN xs) := .tup (SqT.of h) (dp_strs xs)
theorem dp_refs : ∀ S : Sts, StsAt H S → DpAll K H (refs S) ((S.map (·.2)).map dT)
  | [], _ => .nil
  | p :: S, h => .cons (dp_T (h p List.mem_cons_self)) (dp_refs S fun q hq => h q (List.mem_cons_of_mem _ hq))
theorem dp_Ts {l : Addr} {S : Sts} (hl : H l = some (.lst (refs S))) (h : StsAt H S) : Dp K H (.ref l) (.list ((S.map (·.2)).map dT)) := .lst (SqL.of hl) (dp_refs S h)
end
/-! ### the same rules, the written part by its name -/
section
variable {X : Cx}
theorem op_eqDK (K : PySem.W.Frag) (hu : X.A.units + 64 < cLine) (hK : X.K = K := by rfl) : OpR X (compareOp .Eq) (rEqD K) := by
  subst hK
  exact op_eqD hu
theorem op_neDK (K : PySem.W.Frag) (hu : X.A.units + 64 < cLine) (hK : X.K = K := by rfl) : OpR X (compareOp .NotEq) (rNeD K) := by
  subst hK
  exact op_neD hu
theorem ix_tupK (K : PySem.W.Frag) (hK : X.K = K := by rfl) : IxR X (rIxT K) := by
  subst hK
  exact ix_tup
theorem ix_listK (K : PySem.W.Frag) (hK : X.K = K := by rfl) : IxR X (rIxL K) := by
  subst hK
  exact ix_list
theorem op_catAK (K : PySem.W.Frag) (hK : X.K = K := by rfl) : OpR X (binaryOp .Add) (rCatA K) := by
  subst hK
  exact op_catA
end
end OP
namespace OP
open PySem PySem.Spec PyProof.Rows L2
/-! ### one_larger -/
def below (p : List Int) (at' : Nat) : Bool := p.isEmpty || decide (p.getLastD 0 < (at' : Int))
def ext1 (p : List Int) : Nat → List (List Int)
  | 0 => []
  | n + 1 => ext1 p n ++ if below p n = true then [p ++ [(n : Int)]] else []
def larger (ps : List (List Int)) (n : Nat) : List (List Int) := ps.flatMap fun p => ext1 p n
theorem ext1_len (p : List Int) : ∀ n, (ext1 p n).length ≤ n
  | 0 => Nat.le_refl _
  | n + 1 => by
    have := ext1_len p n
    unfold ext1
    rw [List.length_append]
    split
    · rw [List.length_singleton]; omega
    · rw [List.length_nil]; omega
theorem larger_len (n : Nat) : ∀ ps : List (List Int), (larger ps n).length ≤ ps.length * n
  | [] => Nat.zero_le _
  | p :: ps => by
    have h1 := larger_len n ps
    have h2 := ext1_len p n
    unfold larger at h1 ⊢
    rw [List.flatMap_cons, List.length_append, List.length_cons, Nat.succ_mul]
    omega
theorem larger_take {ps : List (List Int)} {n i : Nat} (h : i < ps.length) : larger (ps.take (i + 1)) n = larger (ps.take i) n ++ ext1 ps[i] n := by
  unfold larger
  rw [List.take_add_one, List.getElem?_eq_getElem h, Option.toList_some, List.flatMap_append]
  congr 1
  simp
theorem below_ne {p : List Int} {j : Nat} (h : p ≠ []) : below p j = decide (p.getLastD 0 < (j : Int)) := by
  cases p with
  | nil => exact absurd rfl h
  | cons z zs => exact Bool.false_or _
theorem at_lastI {p : List Int} (h : p ≠ []) : atI (p.map V.int) (-1) = some (V.int (p.getLastD 0)) := by
  have e3 : p.dropLast ++ [p.getLast h] = p := List.dropLast_concat_getLast h
  have e4 : p.getLastD 0 = p.getLast h := by rw [List.getLastD_eq_getLast?, List.getLast?_eq_some_getLast h] <;> rfl
  rw [e4, ← show (p.dropLast.map V.int) ++ [V.int (p.getLast h)] = p.map V.int by rw [show [V.int (p.getLast h)] = [p.getLast h].map V.int from rfl, ← List.map_append, e3]]
  exact atI_last _ _
/-- tuples at their places in the list at D -/
structure GrT (H1 : Hp) (D : Addr) (A : Sts) (H : Hp) : Prop where
  same : Same H1 H
  lst : H D = some (.lst (refs A))
  at' : StsAt H A
theorem GrT.start {H1 : Hp} {D : Addr} (hD : H1 D = none) : GrT H1 D [] (upd H1 D (.lst [])) := ⟨same_upd hD, upd_same, fun _ h => by cases h⟩
theorem tup_ne {H : Hp} {a D : Addr} {xs ys : List V} (h : H a = some (.tup xs)) (hd : H D = some (.lst ys)) : a ≠ D := fun z => by
  rw [z, hd] at h
  cases h
theorem StsAt.snoc {H : Hp} {A : Sts} {a : Addr} {xs : List Int} (h : StsAt H A) (ha : H a = some (.tup (xs.map V.int))) : StsAt H (A ++ [(a, xs)]) := fun p hp => by
  rcases List.mem_append.mp hp with q | q
  · exact h p q
  · obtain rfl := List.mem_singleton.mp q
    exact ha
theorem StsAt.off {H : Hp} {A : Sts} {D : Addr} {ys : List V} {o : HO} (hd : H D = some (.lst ys)) (h : StsAt H A) : StsAt (upd H D o) A := fun p hp => by
  rw [upd_ne (tup_ne (h p hp) hd)]
  exact h p hp
theorem GrT.step {H1 H H4 : Hp} {D : Addr} {A : Sts} {a : Addr} {xs : List Int} (hD : H1 D = none) (g : GrT H1 D A H) (s : Same H H4) (ha : H4 a = some (.tup (xs.map V.int))) : H4 D = some (.lst (refs A)) ∧ GrT H1 D (A ++ [(a, xs)]) (upd H4 D (.lst (refs A ++ [V.ref a]))) := by
  have e := s _ _ g.lst
  refine ⟨e, fun b o eb => by rw [upd_ne (ne_of_none eb hD)]; exact s _ _ (g.same _ _ eb), ?_, StsAt.off e (((g.at').ext s).snoc ha)⟩
  rw [upd_same]
  unfold refs
  rw [List.map_append] <;> rfl
theorem GrT.ext {H1 H H4 : Hp} {D : Addr} {A : Sts} (g : GrT H1 D A H) (s : Same H H4) : GrT H1 D A H4 := ⟨g.same.trans s, s _ _ g.lst, g.at'.ext s⟩
section
variable {P : Program} {w : World} {K : PySem.W.Frag} {mg : Str → Option Value} {base : Heap}
def spLarger (K : PySem.W.Frag) : Sp := fun vs H Q _ => ∃ (l : Addr) (C : Sts) (n : Nat), vs = [.ref l, .int n] ∧ H l = some (.lst (refs C)) ∧ StsAt H C ∧ n ≤ 4 ∧ C.length ≤ 16 ∧ (∀ p ∈ C, p.2.length ≤ 4) ∧
  ∀ r (C' : Sts) H', Same H H' → H' r = some (.lst (refs C')) → StsAt H' C' → C'.map (·.2) = larger (C.map (·.2)) n → Q (.ref r) H'
theorem sc_ol : FnScope ["chosen", "many", "places", "at"] ["chosen", "many"] (defScope s_one_larger) := ⟨rfl, rfl, rfl, by decide +kernel, rfl, by decide +kernel, by decide +kernel⟩
theorem ok_one_larger (T : Txt K mg) : Ok P w K mg base (a_one_larger K) ["chosen", "many"] 1 (spLarger K) := by
  refine ok_of T.f_one_larger sc_ol (fun _ _ _ _ _ _ us hl => match us, hl with | [_, _], _ => rfl) (fun vs H Q E h => ?_) (fun cdv A outer s H vs Q E hr h => ?_)
  · obtain ⟨l, C, n, rfl, _⟩ := h
    rfl
  · obtain ⟨l, C, n, rfl, hl, hC, hn, h16, h4, k⟩ := h
    have hu : _ + 64 < cLine := hr.units
    have hlen : (refs C).length = C.length := List.length_map ..
    refine ⟨_, pss_one (ps_ret (pe_lc2 (own := [("places", 2), ("at", 3)]) (vs1 := [3]) (g := gName 2) (g1 := gName 3) (tt := tYes) rfl sc_ol.nd (pi_list (pv 0)) (blkOk_by (own := [("places", 2), ("at", 3)]) (N := ["chosen", "many", "places", "at"]) (sc := defScope s_one_larger) (by decide +kernel)) (by decide)
        (fun _ _ _ _ _ => pg_name (i := 2) sc_ol.nd rfl (Or.inl rfl)) (fun _ _ _ _ _ => pts_nil)
        (fun _ _ _ _ _ => pi_range1 (by rfl) T.z_range (pa_cons (pv 1) pa_nil))
        (fun _ _ _ _ _ => pg_name (i := 3) sc_ol.nd rfl (Or.inl rfl))
        (fun _ _ _ _ _ => pts_one (PW.pt (pw_or (pt_cmpR (op_eqDK K hu) (pv 2) (pe_tup pa_nil) (nomark _)) (pw_or1 (pt_cmpR op_lt (pe_ix (ix_tupK K) (pv 2) (pe_un un_neg pe_int) (fun _ _ => rfl)) (pv 3) (nomark _))))))
        (fun _ _ _ _ _ => pe_op (op_catAK K) (pv 2) (pe_tup (pa_cons (pv 3) pa_nil))))), ?_⟩
    refine ⟨_, rfl, l, rfl, ⟨_, SqL.of hl⟩, fun D hD => ?_⟩
    refine ⟨fun i m H' => m = C.length - i ∧ i ≤ C.length ∧ ∃ A, GrT H D A H' ∧ A.map (·.2) = larger ((C.map (·.2)).take i) n, ⟨C.length, rfl, Nat.zero_le _, [], GrT.start hD, rfl⟩, fun i m H' hW => ?_⟩
    obtain ⟨rfl, hi, A0, g, eA⟩ := hW
    have hlC : (C.map (·.2)).length = C.length := List.length_map ..
    by_cases lt : i < C.length
    · refine .inr ⟨walk_list.goes i H' (by rw [hlen]; exact lt) (Same.seq g.same (SqL.of hl)), fun H2 => ∃ A, GrT H D A H2 ∧ A.map (·.2) = larger ((C.map (·.2)).take (i + 1)) n, fun H2 q => ⟨C.length - (i + 1), by omega, rfl, lt, q⟩, fun x H2 y => ?_⟩
      obtain ⟨rfl, ex⟩ := walk_list.yields i H' x H2 (by rw [hlen]; exact lt) (Same.seq g.same (SqL.of hl)) y
      unfold refs at ex
      rw [List.getElem?_map, List.getElem?_eq_getElem lt] at ex
      obtain rfl := (Option.some.inj ex).symm
      have mem : C[i] ∈ C := List.getElem_mem lt
      have hp : H2 C[i].1 = some (.tup (C[i].2.map V.int)) := g.same _ _ (hC _ mem)
      have e2 : (C.map (·.2))[i]'(by rw [hlC]; exact lt) = C[i].2 := List.getElem_map ..
      refine ⟨rfl, tyes (iteT ?_)⟩
      refine ⟨_, rfl, n, rfl, by omega, by omega, ?_⟩
      refine ⟨fun j m H3 => m = n - j ∧ j ≤ n ∧ ∃ A, GrT H D A H3 ∧ A.map (·.2) = larger ((C.map (·.2)).take i) n ++ ext1 C[i].2 j, ⟨n, rfl, Nat.zero_le _, A0, g, by rw [eA]; exact (List.append_nil _).symm⟩, fun j m H3 hW => ?_⟩
      obtain ⟨rfl, hj, A1, g1, eA1⟩ := hW
      by_cases ltj : j < n
      · refine .inr ⟨ltj, fun H4 => ∃ A, GrT H D A H4 ∧ A.map (·.2) = larger ((C.map (·.2)).take i) n ++ ext1 C[i].2 (j + 1), fun H4 q => ⟨n - (j + 1), by omega, rfl, ltj, q⟩, fun x H4 y => ?_⟩
        obtain ⟨rfl, rfl⟩ := y
        have hz : (0 : Int) + (j : Int) = (j : Int) := Int.zero_add _
        rw [hz]
        refine ⟨rfl, ?_⟩
        have hp3 : H4 C[i].1 = some (.tup (C[i].2.map V.int)) := g1.same _ _ (hC _ mem)
        have room : A1.length ≤ 1000 - 1 := by
          have h1 : A1.length = (A1.map (·.2)).length := (List.length_map ..).symm
          rw [h1, eA1, List.length_append]
          have h2 := larger_len n ((C.map (·.2)).take i)
          have h3 := ext1_len C[i].2 j
          rw [List.length_take, hlC] at h2
          have h5 : min i C.length * n ≤ 16 * 4 := Nat.mul_le_mul (by omega) hn
          omega
        have rl : (refs A1).length = A1.length := List.length_map ..
        have step : below C[i].2 j = true → ∀ (H7 : Hp) (q : Addr), Same H4 H7 → H7 q = some (.tup ((C[i].2 ++ [(j : Int)]).map V.int)) → ∃ acc, H7 D = some (.lst acc) ∧ acc.length < sizeLine ∧ ∃ A, GrT H D A (upd H7 D (.lst (acc ++ [V.ref q]))) ∧ A.map (·.2) = larger ((C.map (·.2)).take i) n ++ ext1 C[i].2 (j + 1) := fun hb H7 q s7 hq => by
          obtain ⟨e1, g2⟩ := g1.step hD s7 hq
          refine ⟨_, e1, small1000 (by rw [rl]; omega), _, g2, ?_⟩
          rw [List.map_append, eA1, ext1, if_pos hb, List.append_assoc] <;> rfl
        have elt : below C[i].2 j = true → ∀ (H5 : Hp) (t : Addr), Same H4 H5 → H5 t = none → rCatA K (.ref C[i].1) (.ref t) (upd H5 t (.tup [V.int j])) (fun y H7 => ∃ acc, H7 D = some (.lst acc) ∧ acc.length < sizeLine ∧ ∃ A, GrT H D A (upd H7 D (.lst (acc ++ [y]))) ∧ A.map (·.2) = larger ((C.map (·.2)).take i) n ++ ext1 C[i].2 (j + 1)) := fun hb H5 t s5 ht => by
          have s6 : Same H4 (upd H5 t (.tup [V.int j])) := s5.push ht
          have l4 := h4 _ mem
          refine ⟨C[i].1, t, C[i].2.map V.int, [V.int j], rfl, rfl, SqT.of (s6 _ _ hp3), SqT.of upd_same, ?_, fun e => ?_, fun _ z => absurd z (List.cons_ne_nil _ _), fun _ _ q hq => ?_⟩
          · rw [List.length_map, List.length_singleton]
            exact Nat.le_trans (show C[i].2.length + 1 ≤ 1000 by omega) (by decide)
          · refine step hb _ t s6 ?_
            rw [List.map_append, e] <;> exact upd_same
          · refine step hb _ q (s6.push hq) ?_
            rw [List.map_append] <;> exact upd_same
        have no : below C[i].2 j = false → ∀ H5, Same H4 H5 → ∃ A, GrT H D A H5 ∧ A.map (·.2) = larger ((C.map (·.2)).take i) n ++ ext1 C[i].2 (j + 1) := fun hb H5 s5 => ⟨A1, g1.ext s5, by rw [eA1, ext1, if_neg (by rw [hb]; decide), List.append_nil]⟩
        refine ⟨_, rfl, (by show 0 ≤ sizeLine; exact Nat.zero_le _), fun t ht => ?_⟩
        have s5 : Same H4 _ := same_upd (o := .tup []) ht
        refine ⟨dT C[i].2, dT [], dp_T (s5 _ _ hp3), dp_T upd_same, shp_T _, shp_T _, _, rfl, ?_⟩
        rw [eqv_T]
        by_cases ep : C[i].2 = []
        · have hb : below C[i].2 j = true := by rw [ep]; rfl
          rw [decide_eq_true ep]
          refine iteT (iteT ?_)
          exact ⟨_, rfl, _, rfl, (by show 1 ≤ sizeLine; decide), fun t2 ht2 => elt hb _ t2 s5 ht2⟩
        · rw [decide_eq_false ep]
          refine iteF ?_
          have hb : below C[i].2 j = decide (C[i].2.getLastD 0 < (j : Int)) := below_ne ep
          refine ⟨_, rfl, _, rfl, C[i].1, _, -1, _, rfl, rfl, SqT.of (s5 _ _ hp3), at_lastI ep, _, rfl, _, _, rfl, rfl, _, rfl, ?_⟩
          rw [← hb]
          cases hb2 : below C[i].2 j with
          | false => exact iteF (no hb2 _ s5)
          | true =>
            refine iteT ?_
            exact ⟨_, rfl, _, rfl, (by show 1 ≤ sizeLine; decide), fun t2 ht2 => elt hb2 _ t2 s5 ht2⟩
      · obtain rfl : j = n := by omega
        refine .inl ⟨Nat.le_refl _, A1, g1, ?_⟩
        rw [eA1, larger_take (by rw [hlC]; exact lt), e2]
    · obtain rfl : i = C.length := by omega
      refine .inl ⟨(by have := walk_list.stops H' (Same.seq (K := K) g.same (SqL.of hl)); rw [hlen] at this; exact this), ?_⟩
      refine k D A0 H' g.same g.lst g.at' ?_
      rw [eA, List.take_of_length_le (by rw [hlC]; exact Nat.le_refl _)]
end
end OP
namespace OP
open PySem PySem.Spec PyProof.Rows GenW L2
theorem gfor_it {J : It} {n : Nat} {G : Hp → Prop} {Y : Nat → Hp → V → Hp → Prop} (w : Walk J n G Y) {g : TG} {tb : TGn} {D : GEnds} {ys : List V} {σ : L2.St} {H : Hp} (Pv : Nat → List V → L2.St → Hp → Prop) (h0 : Pv 0 ys σ H) (hG : ∀ i ys σ H, i ≤ n → Pv i ys σ H → G H)
    (hs : ∀ i x ys σ H H', i < n → Pv i ys σ H → Y i H x H' → g x σ H' fun σ2 H2 => tb { D with nx := Pv (i + 1), ct := Pv (i + 1), bk := D.nx } ys σ2 H2) (hd : ∀ ys σ H, Pv n ys σ H → D.nx ys σ H) :
    ∃ W : Nat → Nat → List V → L2.St → Hp → Prop, (∃ m, W 0 m ys σ H) ∧ ∀ i m ys σ H, W i m ys σ H → (J.stop i H ∧ D.nx ys σ H) ∨ (J.go i H ∧ ∃ N : List V → L2.St → Hp → Prop, (∀ ys' σ' H', N ys' σ' H' → ∃ m', m' < m ∧ W (i + 1) m' ys' σ' H') ∧
      ∀ x H', J.yld i H x H' → g x σ H' fun σ2 H2 => tb { D with nx := N, ct := N, bk := D.nx } ys σ2 H2) := by
  refine ⟨fun i m ys σ H => m = n - i ∧ i ≤ n ∧ Pv i ys σ H, ⟨n, rfl, Nat.zero_le _, h0⟩, ?_⟩
  rintro i m ys σ H ⟨rfl, hi, p⟩
  have q := hG i ys σ H hi p
  by_cases hlt : i < n
  · exact .inr ⟨w.goes i H hlt q, Pv (i + 1), fun ys' σ' H' p' => ⟨n - (i + 1), by omega, rfl, hlt, p'⟩, fun x H' y => hs i x ys σ H H' hlt p (w.yields i H x H' hlt q y)⟩
  · obtain rfl : i = n := by omega
    exact .inl ⟨w.stops H q, hd ys σ H p⟩
/-! ### the sets of a world, by their sizes -/
def lev (n : Nat) : Nat → List (List Int)
  | 0 => [[]]
  | i + 1 => larger (lev n i) n
def upTo (n : Nat) : Nat → List (List Int)
  | 0 => []
  | i + 1 => upTo n i ++ lev n i
def pick (ys : List Str) (p : List Int) : List Str := p.map fun z => ys.getD z.toNat ""
/-- texts at their places -/
abbrev Nts := List (Addr × List Str)
def NtsAt (H : Hp) (Z : Nts) : Prop := ∀ p ∈ Z, H p.1 = some (.tup (p.2.map V.str))
def nrefs (Z : Nts) : List V := Z.map fun p => V.ref p.1
theorem NtsAt.ext {H H' : Hp} {Z : Nts} (e : Same H H') (h : NtsAt H Z) : NtsAt H' Z := fun p hp => e _ _ (h p hp)
theorem NtsAt.snoc {H : Hp} {A : Nts} {a : Addr} {xs : List Str} (h : NtsAt H A) (ha : H a = some (.tup (xs.map V.str))) : NtsAt H (A ++ [(a, xs)]) := fun p hp => by
  rcases List.mem_append.mp hp with q | q
  · exact h p q
  · obtain rfl := List.mem_singleton.mp q
    exact ha
theorem nrefs_snoc (A : Nts) (a : Addr) (xs : List Str) : nrefs (A ++ [(a, xs)]) = nrefs A ++ [V.ref a] := by
  unfold nrefs
  rw [List.map_append] <;> rfl
def setsOf (ys : List Str) : List (List Str) := (upTo ys.length (ys.length + 1)).map (pick ys)
structure LevOk (n : Nat) : Prop where
  len : ∀ i, i ≤ n + 1 → (lev n i).length ≤ 16
  each : ∀ i, i ≤ n + 1 → ∀ p ∈ lev n i, p.length ≤ 4 ∧ ∀ z ∈ p, 0 ≤ z ∧ z < (n : Int)
  some : ∀ i, i ≤ n → lev n i ≠ []
  none : lev n (n + 1) = []
  all : ∀ i, i ≤ n + 1 → (upTo n i).length ≤ 16
theorem lev_ok {n : Nat} (h2 : 2 ≤ n) (h4 : n ≤ 4) : LevOk n := by
  obtain rfl | rfl | rfl : n = 2 ∨ n = 3 ∨ n = 4 := by omega
  · exact ⟨by decide +kernel, by decide +kernel, by decide +kernel, by decide +kernel, by decide +kernel⟩
  · exact ⟨by decide +kernel, by decide +kernel, by decide +kernel, by decide +kernel, by decide +kernel⟩
  · exact ⟨by decide +kernel, by decide +kernel, by decide +kernel, by decide +kernel, by decide +kernel⟩
section
variable {P : Program} {w : World} {K : PySem.W.Frag} {mg : Str → Option Value} {base : Heap}
def spSets (K : PySem.W.Frag) : SpG := fun vs H Q _ => ∃ (p : Addr) (n : Nat) (S : Sts) (L : Ncs), vs = [.ref p] ∧ WorldAt K H p n S L ∧ WOk n S L ∧ ∀ (Z : Nts) H', Same H H' → NtsAt H' Z → Z.map (·.2) = setsOf (names L) → Q (nrefs Z) H'
theorem sc_ss : GScope ["self", "names", "chosen", "places", "at"] ["self"] (defScope s_World_sets) := ⟨rfl, rfl, rfl, by decide +kernel, rfl, by decide +kernel, by decide +kernel⟩
theorem gok_sets (T : Txt K mg) : ∃ fd, GFn P w K mg base 3 (a_World_sets K) fd ["self"] (spSets K) ∧ Binds K fd ["self"] [] ∧ PySem.W.keepIn K (.ref (a_World_sets K)) = true := by
  have GN : Ok P w K mg base (a_World_names K) _ 1 (spNames K) := ok_World_names T
  have GL : Ok P w K mg base (a_one_larger K) _ 1 (spLarger K) := ok_one_larger T
  obtain ⟨fd, F⟩ := T.f_World_sets
  obtain ⟨oc, od, kV, doc, pm, an, cdv, ct, osl, rfl, lk, hcd⟩ := F.ex
  refine ⟨_, gfn_of lk hcd sc_ss (fun vs H Q E h => ?_) (fun A outer s H vs Q E pn hr h => ?_), F.binds (fun _ _ _ _ _ _ us hl => match us, hl with | [_], _ => rfl), F.kp⟩
  · obtain ⟨p, n, S, L, rfl, _⟩ := h
    rfl
  · obtain ⟨p, n, S, L, rfl, W, ok, k⟩ := h
    have hr1 : Room 1 _ := hr.mono (by decide)
    refine ⟨_, gss_cons (gs_ps (ps_set (i := 1) sc_ss.nd rfl (Or.inr rfl) (pe_pr (pv 0) T.o_World T.p_World_names GN hr)))
      (gss_cons (gs_ps (ps_set (i := 2) sc_ss.nd rfl (Or.inl rfl) (pe_lst (pa_cons (pe_tup pa_nil) pa_nil))))
      (gss_cons (gs_while owns_gcx (pt_truth (pv 2) (fun _ => rfl))
        (gss_cons (gs_for owns_gcx rfl (pi_list (pv 2)) (pg_name (i := 3) sc_ss.nd rfl (Or.inl rfl))
            (gss_cons (gs_yield (pe_tupleOf (by rfl) T.z_tuple (pe_lc (own := [("at", 4)]) (g := gName 4) (tt := tYes) rfl sc_ss.nd (pi_tup (pv 3)) (blkOk_by (own := [("at", 4)]) (N := ["self", "names", "chosen", "places", "at"]) (sc := defScope s_World_sets) (by decide +kernel))
              (fun _ _ _ _ _ => pg_name (i := 4) sc_ss.nd rfl (Or.inl rfl)) (fun _ _ _ _ _ => pts_nil)
              (fun _ _ _ _ _ => pe_ix (ix_listK K) (pv 1) (pv 4) (fun _ _ => rfl))))) gss_nil))
        (gss_cons (gs_ps (ps_set (i := 2) sc_ss.nd rfl (Or.inl rfl) (pe_c GL hr1 T.g_one_larger (pa_cons (pv 2) (pa_cons (pe_callB call_len_seq (by rfl) T.z_len PySem.boot_len (pa_cons (pv 1) pa_nil)) pa_nil))))) gss_nil)))
      gss_nil)), ?_⟩
    have hL := ok.chgs
    have hnl : (names L).length = L.length := List.length_map ..
    have lv : LevOk L.length := lev_ok hL.lo hL.hi
    obtain ⟨⟨dx, l, d, hp, hl, hd⟩, _⟩ := id W
    refine ⟨_, rfl, p, dx, _, rfl, hp, p, n, S, L, rfl, W, fun a H1 s1 ha => ?_⟩
    refine ⟨(by show 0 ≤ sizeLine; exact Nat.zero_le _), fun t ht => ⟨(by show 1 ≤ sizeLine; decide), fun c hc => ?_⟩⟩
    have s2 : Same H1 _ := same_upd (o := .tup []) ht
    have s3 : Same _ _ := s2.push (o := .lst [V.ref t]) hc
    refine ⟨fun m ys σ H' => ∃ i, i ≤ L.length + 1 ∧ m = L.length + 1 - i ∧ ∃ (c : Addr) (v3 : Option V) (C : Sts) (Z : Nts), σ = [some (.ref p), some (.ref a), some (.ref c), v3, none] ∧ ys = nrefs Z ∧ Same H1 H' ∧ H' c = some (.lst (refs C)) ∧ StsAt H' C ∧ C.map (·.2) = lev L.length i ∧ NtsAt H' Z ∧ Z.map (·.2) = (upTo L.length i).map (pick (names L)),
      ⟨L.length + 1, 0, Nat.zero_le _, rfl, c, none, [(t, [])], [], rfl, rfl, s3, upd_same, fun q hq => ?_, rfl, fun q hq => (by cases hq), rfl⟩, fun m ys σ H' hW => ?_⟩
    · obtain rfl := List.mem_singleton.mp hq
      show upd _ c _ t = _
      rw [upd_ne (ne_of_none upd_same hc)]
      exact upd_same
    obtain ⟨i, hi, rfl, c, v3, C, Z, rfl, rfl, s4, hc, hC, eC, hZ, eZ⟩ := hW
    have lC : C.length = (lev L.length i).length := by rw [← eC, List.length_map]
    have lrC : (refs C).length = C.length := List.length_map ..
    have a4 := s4 _ _ ha
    refine ⟨_, rfl, _, .inl ⟨_, SqL.of hc, rfl⟩, ?_⟩
    by_cases hin : i ≤ L.length
    · have hne : C ≠ [] := fun z => lv.some i hin (by rw [← eC, z]; rfl)
      have e1 : (!(refs C).isEmpty) = true := by
        cases C with
        | nil => exact absurd rfl hne
        | cons _ _ => rfl
      rw [e1]
      refine iteT ⟨fun ys' σ' H2 => ∃ (c : Addr) (v3 : Option V) (C : Sts) (Z : Nts), σ' = [some (.ref p), some (.ref a), some (.ref c), v3, none] ∧ ys' = nrefs Z ∧ Same H1 H2 ∧ H2 c = some (.lst (refs C)) ∧ StsAt H2 C ∧ C.map (·.2) = lev L.length (i + 1) ∧ NtsAt H2 Z ∧ Z.map (·.2) = (upTo L.length (i + 1)).map (pick (names L)),
        fun ys' σ' H2 q => ⟨L.length + 1 - (i + 1), by omega, i + 1, by omega, rfl, q⟩, ?_⟩
      refine ⟨_, rfl, c, rfl, ⟨_, SqL.of hc⟩, ?_⟩
      refine gfor_it (walk_list (K := K) (a := c) (xs := refs C)) (fun j ys' σ' H2 => ∃ v3 Z', σ' = [some (.ref p), some (.ref a), some (.ref c), v3, none] ∧ ys' = nrefs Z' ∧ Same H' H2 ∧ NtsAt H2 Z' ∧ Z'.map (·.2) = (upTo L.length i ++ (lev L.length i).take j).map (pick (names L))) ?_ ?_ ?_ ?_
      · exact ⟨v3, Z, rfl, rfl, Same.refl _, hZ, by rw [eZ, List.take_zero, List.append_nil]⟩
      · rintro j ys' σ' H2 _ ⟨_, _, _, _, s5, _⟩
        exact SqL.of (s5 _ _ hc)
      · rintro j x ys' σ' H2 H3 hj ⟨v3', Z', rfl, rfl, s5, hZ', eZ'⟩ ⟨rfl, hx⟩
        have hjC : j < C.length := by rw [← lrC]; exact hj
        unfold refs at hx
        rw [List.getElem?_map, List.getElem?_eq_getElem hjC] at hx
        obtain rfl := (Option.some.inj hx).symm
        have mem : C[j] ∈ C := List.getElem_mem hjC
        have hjl : j < (lev L.length i).length := by rw [← lC]; exact hjC
        have e2 : (lev L.length i)[j] = C[j].2 := by
          rw [List.getElem_of_eq eC.symm hjl, List.getElem_map]
        obtain ⟨len4, bnd⟩ := lv.each i hi C[j].2 (by rw [← e2]; exact List.getElem_mem hjl)
        have hq : H3 C[j].1 = some (.tup (C[j].2.map V.int)) := s5 _ _ (hC _ mem)
        have lz : (nrefs Z').length ≤ 1000 := by
          have h1 : (nrefs Z').length = (Z'.map (·.2)).length := by unfold nrefs; rw [List.length_map, List.length_map]
          rw [h1, eZ', List.length_map, List.length_append, List.length_take]
          have h2 := lv.all i hi
          have h3 := lv.len i hi
          omega
        refine ⟨small1000 lz, ?_⟩
        refine ⟨_, rfl, C[j].1, rfl, ⟨_, SqT.of hq⟩, fun D hD => ?_⟩
        have hm : (C[j].2.map V.int).length = C[j].2.length := List.length_map ..
        refine lcT_map (K := K) (a := C[j].1) (xs := C[j].2.map V.int) ((pick (names L) C[j].2).map V.str) hD (SqT.of hq) (by rw [hm]; omega) (by rw [hm, List.length_map]; exact List.length_map ..) (fun i' x y H4 Qe hx' hy s6 kk => ?_) fun H4 s6 e => ?_
        · obtain ⟨z, hz, rfl⟩ := ints_at hx'
          obtain ⟨b1, b2⟩ := bnd z (List.mem_of_getElem? hz)
          unfold pick at hy
          rw [List.getElem?_map, List.getElem?_map, hz] at hy
          obtain rfl := Option.some.inj hy
          have hzl : z.toNat < (names L).length := by rw [hnl]; omega
          refine ⟨_, rfl, _, rfl, a, (names L).map V.str, z, _, rfl, rfl, SqL.of (s6 _ _ (s5 _ _ a4)), ?_, kk H4 (Same.refl _)⟩
          unfold atI ixN
          rw [if_pos b1, List.length_map, if_pos (by rw [hnl]; omega)]
          show ((names L).map V.str)[z.toNat]? = _
          have e5 : (names L).getD z.toNat "" = (names L)[z.toNat] := by rw [List.getD_eq_getElem?_getD, List.getElem?_eq_getElem hzl] <;> rfl
          rw [List.getElem?_map, List.getElem?_eq_getElem hzl]
          show some (V.str (names L)[z.toNat]) = some (V.str ((names L).getD z.toNat ""))
          rw [e5]
        · refine .inl ⟨D, _, rfl, SqL.of e, fun q hq' => ?_⟩
          have s7 : Same H4 _ := same_upd (o := .tup ((pick (names L) C[j].2).map V.str)) hq'
          refine ⟨_, Z' ++ [(q, pick (names L) C[j].2)], rfl, (nrefs_snoc _ _ _).symm, (s5.trans s6).trans s7, (hZ'.ext (s6.trans s7)).snoc upd_same, ?_⟩
          have e6 : (lev L.length i).take (j + 1) = (lev L.length i).take j ++ [C[j].2] := by
            rw [List.take_add_one, List.getElem?_eq_getElem hjl, e2] <;> rfl
          rw [List.map_append, eZ', e6, ← List.append_assoc, List.map_append, List.map_append, List.map_append] <;> rfl
      · rintro ys' σ' H2 ⟨v3', Z', rfl, rfl, s5, hZ', eZ'⟩
        refine ⟨_, rfl, _, rfl, a, _, rfl, .inl (SqL.of (s5 _ _ a4)), c, C, L.length, ?_, s5 _ _ hc, hC.ext s5, hL.hi, by rw [lC]; exact lv.len i hi, fun q hq => ?_, fun r C' H3 s6 hr' hC' eC' => ?_⟩
        · show [V.ref c, V.int (((names L).map V.str).length : Int)] = _
          rw [List.length_map, hnl]
        · have : q.2 ∈ lev L.length i := by rw [← eC]; exact List.mem_map.mpr ⟨q, hq, rfl⟩
          exact (lv.each i hi _ this).1
        · refine ⟨r, v3', C', Z', rfl, rfl, (s4.trans s5).trans s6, hr', hC', by rw [eC', eC]; rfl, hZ'.ext s6, ?_⟩
          rw [eZ', List.take_of_length_le (by rw [lrC, lC]; exact Nat.le_refl _)]
          rfl
    · obtain rfl : i = L.length + 1 := by omega
      have e0 : C = [] := by
        rw [lv.none] at eC
        exact List.map_eq_nil_iff.mp eC
      rw [e0]
      refine iteF ?_
      refine k Z H' (s1.trans s4) hZ ?_
      unfold setsOf
      rw [eZ, hnl]
end
end OP
/-! two dicts compared whose values have their own == -/
namespace OP
open PySem PySem.Calls PySem.Spec PyProof.Rows L2
section
variable {prog : Program} {w : World} {κ : Type} [DecidableEq κ] {knd : KeyKind prog w κ} {A : Around} {E : Value → Shared → Prop}
/-- all pairs the same: the two objects stand as they were at every turn -/
theorem pairs_same {nm : String} {a b : Addr} {oa ob : Obj} {es es' : Array DictEntry} {ep ep' : Nat} {ka kb : List (κ × Value)} {Q : Bool → Shared → Prop} (ya : (a == sysModules) = false) (yb : (b == sysModules) = false)
    (fa : oa.data = .dict es ep) (fb : ob.data = .dict es' ep') (qa : KeysOf knd es) (qb : KeysOf knd es') (ra : Pairs knd es.toList ka) (rb : Pairs knd es'.toList kb) (hl : ka.length = kb.length)
    (I : Nat → Shared → Prop) (at' : ∀ i s, I i s → s.heap.get? a = some oa ∧ s.heap.get? b = some ob)
    (turn : ∀ i k v s, ka[i]? = some (k, v) → I i s → ∃ y, valueAt kb k = some y ∧ wpAny (model prog w) A (eqBool v y) (fun r s' => r = true ∧ I (i + 1) s') E s)
    (fin : ∀ s, I ka.length s → Q true s) {s : Shared} (h0 : I 0 s) : wpAny (model prog w) A (Builtin.Dict.samePairs nm a b) Q E s := by
  have n1 : ka.length = es.size := ra.length.symm.trans Array.length_toList
  have n2 : kb.length = es'.size := rb.length.symm.trans Array.length_toList
  have n3 : es.size = es'.size := by omega
  have look : ∀ k, findBy knd.is es' k = valueAt kb k := fun k => by
    rw [← rb.find k]; clear n2 n3 rb qb fb turn; obtain ⟨l⟩ := es'; simp [findBy]
  obtain ⟨ga, gb⟩ := at' 0 s h0
  have no_a : ¬ (a == sysModules) = true := by rw [ya]; decide
  have no_b : ¬ (b == sysModules) = true := by rw [yb]; decide
  unfold Builtin.Dict.samePairs Builtin.Dict.showsAll
  rw [if_neg no_a, if_neg no_b]
  refine wpAny_bind (wpAny_pure (wpAny_bind (wpAny_pure (wpAny_bind (wpAny_dictEntries ga fa ?_)))))
  dsimp only
  refine wpAny_bind (wpAny_dictEntries gb fb ?_)
  rw [if_neg (by rw [n3]; simp)]
  refine wpAny_bind (wpAny_dictEpoch ga fa (wpAny_bind ?_))
  rw [Std.Legacy.Range.forIn_eq_forIn_range']
  simp only [Std.Legacy.Range.size, Nat.sub_zero, Nat.add_sub_cancel, Nat.div_one]
  refine wpAny_forIn_list _ (fun rest q s1 => q = (none, ()) ∧ ∃ i, rest = List.range' i (es.size - i) ∧ i ≤ es.size ∧ I i s1) _ ?_ ?_ _ _ ⟨rfl, 0, by simp, Nat.zero_le _, h0⟩
  · rintro x rest q s1 ⟨rfl, i, er, le, hI⟩
    have lt : i < es.size := by
      refine Nat.lt_of_not_le fun z => ?_
      rw [Nat.sub_eq_zero_of_le z] at er; simp at er
    have er2 : x = i ∧ rest = List.range' (i + 1) (es.size - (i + 1)) := by
      rw [show es.size - i = (es.size - (i + 1)) + 1 by omega, List.range'_succ] at er
      injection er with z1 z2; exact ⟨z1, z2⟩
    obtain ⟨rfl, er3⟩ := er2
    obtain ⟨g1, g2⟩ := at' x s1 hI
    refine wpAny_bind (wpAny_dictEntries g1 fa ?_)
    rw [Array.getElem?_eq_getElem lt]
    have ltk : x < ka.length := by rw [n1]; exact lt
    obtain ⟨k, v, ekv⟩ : ∃ k v, ka[x]? = some (k, v) := ⟨ka[x].1, ka[x].2, List.getElem?_eq_getElem ltk⟩
    obtain ⟨isk, isv⟩ := ra.get? (i := x) (e := es[x]) (k := k) (v := v) ((Array.getElem?_toList).trans (Array.getElem?_eq_getElem lt)) ekv
    obtain ⟨k2, isk2, hash⟩ := qa es[x] (Array.getElem_mem lt)
    rw [knd.inj _ _ _ isk2 isk] at hash
    obtain ⟨y, hy, cmp⟩ := turn x k v s1 ekv hI
    show wpAny _ _ (holding [es[x].key, es[x].val] _ >>= _) _ _ _
    rw [hash]
    refine wpAny_bind (wpAny_holding (wpAny_bind (wpAny_dictFind_of isk g2 fb qb ?_)))
    cases ej : es'.findIdx? fun e => knd.is k e.key with
    | none =>
      have z : valueAt kb k = none := by rw [← look k, findBy_of_findIdx?, ej]
      rw [hy] at z; cases z
    | some j =>
      have jl : j < es'.size := (Array.findIdx?_eq_some_iff_getElem.mp ej).1
      have ey : es'[j].val = y := by
        have z : valueAt kb k = some es'[j].val := by rw [← look k, findBy_of_findIdx?, ej]; simp [Array.getElem?_eq_getElem jl]
        exact Option.some.inj (z.symm.trans hy)
      refine wpAny_bind (wpAny_dictEntries g2 fb ?_)
      rw [Array.getElem?_eq_getElem jl]
      show wpAny _ _ (holding [es'[j].val] (eqBool es[x].val es'[j].val)) _ _ _
      rw [ey, isv]
      refine wpAny_holding (wpAny_mono cmp (fun r s2 z => ?_) fun _ _ z => z)
      obtain ⟨rfl, hI2⟩ := z
      rw [if_neg (by decide)]
      refine wpAny_bind (wpAny_dictEpoch (at' _ s2 hI2).1 fa ?_)
      rw [if_neg (by simp)]
      exact wpAny_pure ⟨rfl, x + 1, er3, lt, hI2⟩
  · rintro q s1 ⟨rfl, i, er, le, hI⟩
    have ei : i = es.size := Nat.le_antisymm le (Nat.le_of_not_lt fun z => by
      rw [show es.size - i = (es.size - (i + 1)) + 1 by omega, List.range'_succ] at er; cases er)
    exact wpAny_pure (fin s1 (by rw [n1, ← ei]; exact hI))
theorem dict_rc {a b : Addr} {oa ob : Obj} {es es' : Array DictEntry} {ep ep' : Nat} {ka kb : List (κ × Value)} {Q : Value → Shared → Prop} (ya : (a == sysModules) = false) (yb : (b == sysModules) = false)
    (fa : oa.data = .dict es ep) (fb : ob.data = .dict es' ep') (qa : KeysOf knd es) (qb : KeysOf knd es') (ra : Pairs knd es.toList ka) (rb : Pairs knd es'.toList kb) (hl : ka.length = kb.length)
    (I : Nat → Shared → Prop) (at' : ∀ i s, I i s → s.heap.get? a = some oa ∧ s.heap.get? b = some ob)
    (turn : ∀ i k v s, ka[i]? = some (k, v) → I i s → ∃ y, valueAt kb k = some y ∧ wpAny (model prog w) A.in1 (eqBool v y) (fun r s' => r = true ∧ I (i + 1) s') E s)
    (hu : A.units < cLine) (fin : ∀ s, I ka.length s → Q (.bool true) s) {s : Shared} (ta : s.TypeIs (.ref a) "dict") (tb : s.TypeIs (.ref b) "dict") (h0 : I 0 s) : wpAny (model prog w) A (richCompare .Eq (.ref a) (.ref b)) Q E s := by
  refine wpAny_richCompare_same_room (op := .Eq) ta tb PySem.F.slot_dict_eq (wpAny_call_entry PySem.F.slot_dict_eq ta PySem.F.entry_dict_eq ?_ (PySem.F.args_dict_eq_2 _ _)) hu
  refine wpAny_bind (?_ : wpAny _ _ (Builtin.Dict.dictSlotArgs "__eq__" ⟨[.ref a, .ref b], []⟩) _ _ s)
  unfold Builtin.Dict.dictSlotArgs
  refine wpAny_bind (wpAny_notOrdered_dict ta (?_ : wpAny _ _ (pure (Value.ref a, Value.ref b)) _ _ s))
  refine wpAny_pure (wpAny_bind (wpAny_isInstance (T := "dict") tb PySem.F.sub_dict_dict ?_))
  simp only [Bool.not_true, Bool.false_eq_true, if_false]
  refine wpAny_bind (wpAny_pure (wpAny_bind (wpAny_pure (wpAny_bind ?_))))
  refine pairs_same ya yb fa fb qa qb ra rb hl I at' turn (fun s1 hI => wpAny_pure ⟨_, rfl, ?_, ?_⟩) h0
  · exact fun z => nomatch z
  · simpa using fin s1 hI
end
/-- two dicts at different places, the value of each key the same by D while both are locked -/
def DDict (D : Eqv) : Eqv := fun x y H => ∃ a b ks ls, x = .ref a ∧ y = .ref b ∧ H a = some (.dK ks) ∧ H b = some (.dK ls) ∧ ks.length = ls.length ∧
  ∀ oa ob, ∀ p ∈ ks, ∃ y, valV ls p.1 = some y ∧ D p.2 y (upd (upd H a (.frz oa (.dK ks))) b (.frz ob (.dK ls)))
theorem kv_mem {ks : List (Key × V)} {va : List (Key × Value)} (r : KV ks va) : ∀ {i : Nat} {k : Key} {v : Value}, va[i]? = some (k, v) → ∃ p, p ∈ ks ∧ p.1 = k ∧ RelV p.2 v := by
  unfold KV at r
  induction r with
  | nil => intro i k v h; simp at h
  | @cons p q ps qs h t ih =>
    intro i k v e
    cases i with
    | zero =>
      obtain rfl := Option.some.inj e
      exact ⟨p, List.mem_cons_self, h⟩
    | succ i =>
      obtain ⟨p', hp, z⟩ := ih (i := i) e
      exact ⟨p', List.mem_cons_of_mem _ hp, z⟩
section
variable {X : Cx} {n : Nat} {D : Eqv}
theorem rcG_dict (hD : Mon D) (h : EqG X n D) : RcG X (n + 1) (DDict D) := by
  intro A pins s σ H x y u v sb I rx ry d
  obtain ⟨a, b, ks, ls, rfl, rfl, ha, hb, hlen, hp⟩ := d
  cases rx
  cases ry
  by_cases ne : a = b
  · obtain rfl := ne
    obtain rfl : ks = ls := by
      rw [ha] at hb
      injection hb with z
      injection z
    obtain ⟨oa, I1⟩ := I.lock ha trivial
    obtain ⟨ea, _, ya, va, rva, oa', es, ep, ea', xa, da, kka, pa, _⟩ := (show ObjOk X.prog X.w _ s.heap a (.frz oa (.dK ks)) from I1.hok a _ upd_same)
    obtain rfl : oa' = oa := Option.some.inj (ea'.symm.trans ea)
    have uu : upd (upd H a (.frz oa' (.dK ks))) a (.frz oa' (.dK ks)) = upd H a (.frz oa' (.dK ks)) := by
      funext c
      by_cases hc : c = a
      · rw [hc, upd_same, upd_same]
      · rw [upd_ne hc]
    refine dict_rc (knd := mixKind X.prog X.w) ya ya da da kka kka pa pa rfl (fun _ s' => ∃ H', Inv X pins σ H' s' ∧ Ext (upd H a (.frz oa' (.dK ks))) H') (fun i s' hI => ?_) (fun i k v s' hk hI => ?_) sb.room.units0 (fun s' hI => ?_) ⟨_, ea, xa.1⟩ ⟨_, ea, xa.1⟩ ⟨_, I1, Ext.rfl'⟩
    · obtain ⟨H', J, ex⟩ := hI
      have z := (show ObjOk X.prog X.w _ s'.heap a (.frz oa' (.dK ks)) from J.hok a _ (ex _ _ upd_same)).1
      exact ⟨z, z⟩
    · obtain ⟨H', J, ex⟩ := hI
      obtain ⟨p, hpk, e1, rp⟩ := kv_mem rva hk
      obtain ⟨z, hz, dz⟩ := hp oa' oa' p hpk
      rw [uu] at dz
      have rr : RelO (some z) (valueAt va k) := by rw [← hz, e1]; exact rva.val k
      obtain ⟨y, hy, ry⟩ := rr.some_of
      refine ⟨y, hy, wpAny_mono (h A.in1 pins s' σ H' p.2 z v y sb.in1 J rp ry (hD _ _ _ _ ex dz)) (fun r s2 q => ?_) fun _ _ q => q⟩
      obtain ⟨hr, H2, J2, ex2⟩ := q
      exact ⟨hr, H2, J2, ex.trans ex2⟩
    · obtain ⟨H', J, ex⟩ := hI
      refine ⟨rfl, _, J.unlock (ex _ _ upd_same) (I.nofrz ha trivial), fun c o e => ?_⟩
      by_cases ca : c = a
      · rw [ca, upd_same, ← ha, ← e, ca]
      · rw [upd_ne ca]
        exact ex _ _ (by rw [upd_ne ca]; exact e)
  obtain ⟨oa, I1⟩ := I.lock ha trivial
  have hb1 : upd H a (.frz oa (.dK ks)) b = some (.dK ls) := by rw [upd_ne (Ne.symm ne)]; exact hb
  obtain ⟨ob, I2⟩ := I1.lock hb1 trivial
  have ha2 : upd (upd H a (.frz oa (.dK ks))) b (.frz ob (.dK ls)) a = some (.frz oa (.dK ks)) := by rw [upd_ne ne, upd_same]
  have hb2 : upd (upd H a (.frz oa (.dK ks))) b (.frz ob (.dK ls)) b = some (.frz ob (.dK ls)) := upd_same
  obtain ⟨ea, _, ya, va, rva, oa', es, ep, ea', xa, da, kka, pa, _⟩ := (show ObjOk X.prog X.w _ s.heap a (.frz oa (.dK ks)) from I2.hok a _ ha2)
  obtain ⟨eb, _, yb, vb, rvb, ob', es', ep', eb', xb, db, kkb, pb, _⟩ := (show ObjOk X.prog X.w _ s.heap b (.frz ob (.dK ls)) from I2.hok b _ hb2)
  obtain rfl : oa' = oa := Option.some.inj (ea'.symm.trans ea)
  obtain rfl : ob' = ob := Option.some.inj (eb'.symm.trans eb)
  refine dict_rc (knd := mixKind X.prog X.w) ya yb da db kka kkb pa pb (by rw [← rva.length, ← rvb.length]; exact hlen)
    (fun _ s' => ∃ H', Inv X pins σ H' s' ∧ Ext (upd (upd H a (.frz oa' (.dK ks))) b (.frz ob' (.dK ls))) H') (fun i s' hI => ?_) (fun i k v s' hk hI => ?_) sb.room.units0 (fun s' hI => ?_) ?_ ?_ ⟨_, I2, Ext.rfl'⟩
  · obtain ⟨H', J, ex⟩ := hI
    exact ⟨(show ObjOk X.prog X.w _ s'.heap a (.frz oa' (.dK ks)) from J.hok a _ (ex _ _ ha2)).1, (show ObjOk X.prog X.w _ s'.heap b (.frz ob' (.dK ls)) from J.hok b _ (ex _ _ hb2)).1⟩
  · obtain ⟨H', J, ex⟩ := hI
    obtain ⟨p, hpk, e1, rp⟩ : ∃ p, p ∈ ks ∧ p.1 = k ∧ RelV p.2 v := by
      exact kv_mem rva hk
    obtain ⟨z, hz, dz⟩ := hp oa' ob' p hpk
    have rr : RelO (some z) (valueAt vb k) := by rw [← hz, e1]; exact rvb.val k
    obtain ⟨y, hy, ry⟩ := rr.some_of
    refine ⟨y, hy, wpAny_mono (h A.in1 pins s' σ H' p.2 z v y sb.in1 J rp ry (hD _ _ _ _ ex dz)) (fun r s2 q => ?_) fun _ _ q => q⟩
    obtain ⟨hr, H2, J2, ex2⟩ := q
    exact ⟨hr, H2, J2, ex.trans ex2⟩
  · obtain ⟨H', J, ex⟩ := hI
    have J1 := J.unlock (ex _ _ hb2) (I1.nofrz hb1 trivial)
    have ha3 : upd H' b (.dK ls) a = some (.frz oa' (.dK ks)) := by rw [upd_ne ne]; exact ex _ _ ha2
    have J2 := J1.unlock ha3 (I.nofrz ha trivial)
    refine ⟨rfl, _, J2, fun c o e => ?_⟩
    by_cases ca : c = a
    · rw [ca, upd_same, ← ha, ← e, ca]
    · rw [upd_ne ca]
      by_cases cb : c = b
      · rw [cb, upd_same, ← hb, ← e, cb]
      · rw [upd_ne cb]
        exact ex _ _ (by rw [upd_ne cb, upd_ne ca]; exact e)
  · exact ⟨_, ea, xa.1⟩
  · exact ⟨_, eb, xb.1⟩
end
end OP
namespace OP
open PySem PySem.Spec PyProof.Rows L2
/-- the same world at two places -/
structure Twin (S S' : Sts) (L L' : Ncs) : Prop where
  sts : S.map (·.2) = S'.map (·.2)
  chgs : L.map (fun p => (p.1, p.2.2)) = L'.map (fun p => (p.1, p.2.2))
def DChg (K : PySem.W.Frag) : Eqv := fun x y H => ∃ q : CK, DIns (q.cls K) (REq K q) x y H
theorem mon_chg {K : PySem.W.Frag} : Mon (DChg K) := fun x y H H' e ⟨q, d⟩ => ⟨q, mon_ins (fun a b H H' e ⟨c, h1, h2, h3⟩ => ⟨c, h1, h2.ext e, h3.ext e⟩) x y H H' e d⟩
theorem eqG_chg {X : Cx} (h : ∀ q : CK, RcG X 2 (DIns (q.cls X.K) (REq X.K q))) : EqG X 2 (DChg X.K) := by
  intro A pins s σ H x y u v sb I rx ry ⟨q, d⟩
  exact (h q).eqG (fun _ _ _ d => let ⟨a, b, _, _, _, _, hx, hy, _⟩ := d; ⟨a, b, hx, hy⟩) A pins s σ H x y u v sb I rx ry d
def REqW (K : PySem.W.Frag) (a b : Addr) (H : Hp) : Prop := ∃ n S L S' L', WorldAt K H a n S L ∧ WorldAt K H b n S' L' ∧ Twin S S' L L' ∧ ChgsOk n L
theorem strOk_name {x : Str} (h : NameOk x) : PyData.strOk x = true := by
  unfold PyData.strOk
  rw [Array.all_eq_true_iff_forall_mem]
  intro c hc
  have all : ∀ c ∈ ("abcdefghijklmnopqrstuvwxyz" : Str).cps.toList, decide (c < 0x110000) = true := by decide +kernel
  exact all c (h.each c (Array.mem_toList_iff.mpr hc))
theorem Twin.names {S S' : Sts} {L L' : Ncs} (t : Twin S S' L L') : names L = names L' := by
  have := congrArg (List.map Prod.fst) t.chgs
  rw [List.map_map, List.map_map] at this
  exact this
section
variable {P : Program} {w : World} {K : PySem.W.Frag} {mg : Str → Option Value} {base : Heap}
theorem kit_World {K : PySem.W.Frag} : PySem.W.kitOne K (.ref (c_World K)) (.ref (c_World K)) = some true := by
  unfold PySem.W.kitOne
  rw [if_pos (by simp)]
theorem sc_weq : FnScope ["self", "other"] ["self", "other"] (defScope s_World_eq) := ⟨rfl, rfl, rfl, by decide +kernel, rfl, by decide +kernel, by decide +kernel⟩
theorem ok_World_eq (T : Txt K mg) : Ok P w K mg base (a_World_eq K) ["self", "other"] 4 (spEq (REqW K)) := by
  have GE : ∀ q, Ok P w K mg base (CK.eqA K q) ["self", "other"] 2 (spEq (REq K q)) := okC_eq T
  have GN : Ok P w K mg base (a_World_names K) _ 1 (spNames K) := ok_World_names T
  refine ok_of T.f_World_eq sc_weq (fun _ _ _ _ _ _ us hl => match us, hl with | [_, _], _ => rfl) (fun vs H Q E h => ?_) (fun cdv A outer s0 H vs Q E hr h => ?_)
  · obtain ⟨a, b, rfl, _⟩ := h
    rfl
  · obtain ⟨a, b, rfl, ⟨n, S, L, S', L', W, W', tw, cok⟩, k⟩ := h
    have hu : _ + 64 < cLine := hr.units
    have hr2 : Room 2 _ := hr.mono (by decide)
    refine ⟨_, pss_one (ps_ret (pe_and (pe_callB call_isi (by rfl) T.z_isinstance (by decide +kernel) (pa_cons (pv 1) (pa_cons (pe_glob (v := .ref (c_World K)) (by rfl) T.g_World rfl) pa_nil)))
        (pe_and (pe_cmpR op_eq (pe_fld (pv 0) rfl) (pe_fld (pv 1) rfl) (nomark _)) (pe_and (pe_cmpR (op_eqD hu) (pe_fld (pv 0) rfl) (pe_fld (pv 1) rfl) (nomark _))
        (pe_and (pe_cmpR (op_eqD hu) (pe_pr (pv 0) T.o_World T.p_World_names GN hr2) (pe_pr (pv 1) T.o_World T.p_World_names GN hr2) (nomark _))
        (pe_one (pe_cmpR (op_eqG (rcG_dict mon_chg (eqG_chg fun q => rc_of (GE q) (T.methEC q))) hr) (pe_fld (pv 0) rfl) (pe_fld (pv 1) rfl) (nomark _)))))))), ?_⟩
    obtain ⟨⟨dx, l, d, hp, hl, hd⟩, hS, hL⟩ := id W
    obtain ⟨⟨dx', l', d', hp', hl', hd'⟩, hS', hL'⟩ := id W'
    refine ⟨_, rfl, _, _, _, _, true, rfl, .own (c_World K), T.o_World.ty hp', kit_World, true, rfl, iteT ?_⟩
    refine ⟨_, rfl, a, c_World K, dx, _, _, rfl, hp, T.o_World.cl, T.n_World_width, lookA, _, rfl, b, c_World K, dx', _, _, rfl, hp', T.o_World.cl, T.n_World_width, lookA, rfl, true, congrArg V.bl (decide_eq_true rfl), iteT ?_⟩
    have dS := dp_Ts (K := K) hl hS
    have dS' := dp_Ts (K := K) hl' hS'
    rw [tw.sts] at dS
    refine ⟨_, rfl, a, c_World K, dx, _, _, rfl, hp, T.o_World.cl, T.n_World_starts, lookB w_s, _, rfl, b, c_World K, dx', _, _, rfl, hp', T.o_World.cl, T.n_World_starts, lookB w_s, _, _, dS, dS', shp_Ts _, shp_Ts _, true, congrArg V.bl (eqv_shp (shp_Ts _)), iteT ?_⟩
    refine ⟨_, rfl, a, dx, _, rfl, hp, a, n, S, L, rfl, W, fun r1 H1 s1 e1 => ?_⟩
    refine ⟨_, rfl, b, dx', _, rfl, s1 _ _ hp', b, n, S', L', rfl, W'.ext s1, fun r2 H2 s2 e2 => ?_⟩
    have e1' := s2 _ _ e1
    rw [tw.names] at e1'
    have so : ∀ y ∈ names L', PyData.strOk y = true := fun y hy => by
      rw [← tw.names] at hy
      obtain ⟨p, hp, rfl⟩ := List.mem_map.mp hy
      exact strOk_name (cok.name p hp)
    refine ⟨_, _, .lst (SqL.of e1') (dp_strs _), .lst (SqL.of e2) (dp_strs _), shp_strs so, shp_strs so, true, congrArg V.bl (eqv_shp (shp_strs so)), iteT ?_⟩
    have s3 := s1.trans s2
    refine ⟨_, rfl, a, c_World K, dx, _, _, rfl, s3 _ _ hp, T.o_World.cl, T.n_World_made, lookC w_m s_m, _, rfl, b, c_World K, dx', _, _, rfl, s3 _ _ hp', T.o_World.cl, T.n_World_made, lookC w_m s_m, ?_, fun H' e => k H' (s3.trans e)⟩
    have ll : L.length = L'.length := by
      have := congrArg List.length tw.chgs
      rw [List.length_map, List.length_map] at this
      exact this
    refine ⟨d, d', kvs L, kvs L', rfl, rfl, s3 _ _ hd, s3 _ _ hd', by rw [kvs_len, kvs_len]; exact ll, fun oa ob p hp => ?_⟩
    obtain ⟨z, hz, rfl⟩ := List.mem_map.mp hp
    obtain ⟨i, hi, rfl⟩ := List.mem_iff_getElem.mp hz
    have hi' : i < L'.length := by rw [← ll]; exact hi
    have nd' : (names L').Nodup := by rw [← tw.names]; exact cok.nd
    have e5 : (L[i].1, L[i].2.2) = (L'[i].1, L'[i].2.2) := by
      have := List.getElem_of_eq tw.chgs (i := i) (by rw [List.length_map]; exact hi)
      rw [List.getElem_map, List.getElem_map] at this
      exact this
    obtain ⟨e6, e7⟩ := Prod.mk.inj e5
    refine ⟨V.ref L'[i].2.1, by rw [e6]; exact valV_kvs nd' hi', L[i].2.2.ck, ?_⟩
    have c1 : ChgAt K H2 L[i].2.1 L[i].2.2 := (hL _ (List.getElem_mem hi)).ext s3
    have c2 : ChgAt K H2 L'[i].2.1 L[i].2.2 := by rw [e7]; exact (hL' _ (List.getElem_mem hi')).ext s3
    have hd2 := s3 _ _ hd
    have hd2' := s3 _ _ hd'
    have lk : ∀ {x : Addr} {c : Chg} {u v : HO}, ChgAt K H2 x c → ChgAt K (upd (upd H2 d u) d' v) x c := fun {x c u v} h => by
      by_cases dd : d' = d
      · rw [dd]
        have uu : upd (upd H2 d u) d v = upd H2 d v := by
          funext y
          by_cases hy : y = d
          · rw [hy, upd_same, upd_same]
          · rw [upd_ne hy, upd_ne hy, upd_ne hy]
        rw [uu]
        exact h.lock hd2
      · exact (h.lock hd2).lock (kv := kvs L') (by rw [upd_ne dd]; exact hd2')
    obtain ⟨dc, fs, ho, _⟩ := (lk (u := .frz oa (.dK (kvs L))) (v := .frz ob (.dK (kvs L'))) c1).obj
    obtain ⟨dc', fs', ho', _⟩ := (lk (u := .frz oa (.dK (kvs L))) (v := .frz ob (.dK (kvs L'))) c2).obj
    exact ⟨_, _, dc, dc', fs, fs', rfl, rfl, ho, ho', L[i].2.2, rfl, lk c1, lk c2⟩
end
end OP
namespace OP
open PySem PySem.Spec PyProof.Rows L2
/-! ### numbers drawn: only their bounds matter -/
theorem at_in {α : Type} {xs : List α} {i : Int} (h0 : 0 ≤ i) (h1 : i < xs.length) : ∃ (h : i.toNat < xs.length), atI xs i = some xs[i.toNat] := by
  refine ⟨by omega, ?_⟩
  unfold atI ixN
  rw [if_pos h0, if_pos h1]
  exact List.getElem?_eq_getElem (by omega)
section
variable {P : Program} {w : World} {K : PySem.W.Frag} {mg : Str → Option Value} {base : Heap}
def spCell (K : PySem.W.Frag) : Sp := fun vs H Q _ => ∃ (sc : Addr) (ns : List Int) (k : Int), vs = [.ref sc, .int k] ∧ SqL K H sc (ns.map V.int) ∧ 0 ≤ k ∧ ∀ v, Q (.int v) H
theorem sc_cell : FnScope ["_law_script", "_law_k"] ["_law_script", "_law_k"] (defScope s__law_cell_at) := ⟨rfl, rfl, rfl, by decide +kernel, rfl, by decide +kernel, by decide +kernel⟩
theorem ok_cell (T : Txt K mg) : Ok P w K mg base (a__law_cell_at K) ["_law_script", "_law_k"] 1 (spCell K) := by
  refine ok_of T.f__law_cell_at sc_cell (fun _ _ _ _ _ _ us hl => match us, hl with | [_, _], _ => rfl) (fun vs H Q E h => ?_) (fun cdv A outer s H vs Q E hr h => ?_)
  · obtain ⟨sc, ns, k, rfl, _⟩ := h
    rfl
  · obtain ⟨sc, ns, k, rfl, hs, hk, kk⟩ := h
    refine ⟨_, pss_cons (ps_if (pt_cmpR op_lt (pv 1) (pe_callB call_len_seq (by rfl) T.z_len PySem.boot_len (pa_cons (pv 0) pa_nil)) (nomark _)) (pss_one (ps_ret (pe_ix ix_list (pv 0) (pv 1) (fun _ _ => rfl)))) pss_nil) (pss_one (ps_ret pe_int)), ?_⟩
    refine ⟨_, rfl, _, rfl, sc, _, rfl, .inl hs, _, _, rfl, rfl, _, rfl, ?_⟩
    by_cases lt : k < ((ns.map V.int).length : Int)
    · rw [decide_eq_true lt]
      obtain ⟨hl, e⟩ := at_in hk lt
      refine iteT ⟨_, rfl, _, rfl, sc, _, k, _, rfl, rfl, hs, e, ?_⟩
      rw [List.getElem_map]
      exact kk _
    · rw [decide_eq_false lt]
      exact iteF (kk 0)
def primes : List Int := [1000003, 1000033, 1000037, 1000039, 1000081, 1000099, 1000117, 1000121, 1000133, 1000151, 1000159, 1000171, 1000183, 1000187, 1000193, 1000199]
theorem primes_pos : ∀ p ∈ primes, 0 < p := by decide
def Below (b : Int) (Q : VK) (H : Hp) : Prop := ∀ v, 0 ≤ v → v < b → Q (.int v) H
def spDraw : Sp := fun vs H Q _ => ∃ c k b : Int, vs = [.int c, .int k, .int b] ∧ 0 < b ∧ ∀ H', Same H H' → Below b Q H'
theorem sc_draw : FnScope ["_law_cell", "_law_k", "_law_below", "_law_primes"] ["_law_cell", "_law_k", "_law_below"] (defScope s__law_draw) := ⟨rfl, rfl, rfl, by decide +kernel, rfl, by decide +kernel, by decide +kernel⟩
theorem ok_draw (T : Txt K mg) : Ok P w K mg base (a__law_draw K) ["_law_cell", "_law_k", "_law_below"] 1 spDraw := by
  refine ok_of T.f__law_draw sc_draw (fun _ _ _ _ _ _ us hl => match us, hl with | [_, _, _], _ => rfl) (fun vs H Q E h => ?_) (fun cdv A outer s H vs Q E hr h => ?_)
  · obtain ⟨c, k, b, rfl, _⟩ := h
    rfl
  · obtain ⟨c, k, b, rfl, hb, kk⟩ := h
    refine ⟨_, pss_cons (ps_set (i := 3) sc_draw.nd rfl (Or.inl rfl) (pe_tup (pa_cons pe_int (pa_cons pe_int (pa_cons pe_int (pa_cons pe_int (pa_cons pe_int (pa_cons pe_int (pa_cons pe_int (pa_cons pe_int (pa_cons pe_int (pa_cons pe_int (pa_cons pe_int (pa_cons pe_int (pa_cons pe_int (pa_cons pe_int (pa_cons pe_int (pa_cons pe_int pa_nil))))))))))))))))))
      (pss_one (ps_ret (pe_op op_mod (pe_op op_mod (pe_op op_add (pe_op op_mul (pv 0) pe_int) (pe_op op_mul (pv 1) pe_int)) (pe_ix ix_tup (pv 3) (pe_op op_mod (pv 1) pe_int) (fun _ _ => rfl))) (pv 2)))), ?_⟩
    refine ⟨(by show 16 ≤ sizeLine; decide), fun t ht => ?_⟩
    have s1 : Same H _ := same_upd (o := .tup (primes.map V.int)) ht
    have hm : 0 ≤ k % 16 ∧ k % 16 < ((primes.map V.int).length : Int) := ⟨by omega, by show _ < (16 : Int); omega⟩
    obtain ⟨hl, e⟩ := at_in hm.1 hm.2
    rw [List.getElem_map] at e
    have hp : 0 < primes[(k % 16).toNat]'(by rw [← List.length_map (f := V.int)]; exact hl) := primes_pos _ (List.getElem_mem _)
    refine ⟨_, rfl, _, _, rfl, rfl, .inr ⟨by decide, by decide⟩, _, rfl, _, _, rfl, rfl, .inr ⟨by decide, by decide⟩, _, _, rfl, rfl, _, rfl, _, rfl, _, _, rfl, rfl, (show (0 : Int) < 16 by decide), t, _, k % 16, _, rfl, rfl, SqT.of (show _ = some (.tup (primes.map V.int)) from upd_same), e, _, _, rfl, rfl, hp, _, rfl, _, _, rfl, rfl, hb, ?_⟩
    exact kk _ s1 _ (Int.emod_nonneg _ (by omega)) (Int.emod_lt_of_pos _ hb)
def spNumber : Sp := fun vs H Q _ => ∃ c k b : Int, vs = [.int c, .int k, .int b] ∧ 0 < b ∧ 0 ≤ k ∧ k < 100 ∧ ∀ H', Same H H' → Below b Q H'
theorem sc_number : FnScope ["_law_cell", "_law_k", "_law_below", "_law_power", "_law_times", "_law_remains", "_law_small"] ["_law_cell", "_law_k", "_law_below"] (defScope s__law_number) := ⟨rfl, rfl, rfl, by decide +kernel, rfl, by decide +kernel, by decide +kernel⟩
theorem ok_number (T : Txt K mg) : Ok P w K mg base (a__law_number K) ["_law_cell", "_law_k", "_law_below"] 2 spNumber := by
  have GD : Ok P w K mg base (a__law_draw K) _ 1 spDraw := ok_draw T
  refine ok_of T.f__law_number sc_number (fun _ _ _ _ _ _ us hl => match us, hl with | [_, _, _], _ => rfl) (fun vs H Q E h => ?_) (fun cdv A outer s H vs Q E hr h => ?_)
  · obtain ⟨c, k, b, rfl, _⟩ := h
    rfl
  · obtain ⟨c, k, b, rfl, hb, hk0, hk1, kk⟩ := h
    refine ⟨_, pss_cons (ps_set (i := 3) sc_number.nd rfl (Or.inl rfl) pe_int)
      (pss_cons (ps_for PassesOwn.never rfl (pi_range1 (by rfl) T.z_range (pa_cons (pe_op op_mod (pv 1) pe_int) pa_nil)) (pg_name (i := 4) sc_number.nd rfl (Or.inl rfl)) (pss_one (ps_set (i := 3) sc_number.nd rfl (Or.inl rfl) (pe_op op_mul (pv 3) pe_int))))
      (pss_cons (ps_set (i := 5) sc_number.nd rfl (Or.inl rfl) (pe_op op_fdivW (pe_op op_sub (pv 0) (pe_op op_pow pe_int pe_int)) (pv 3)))
      (pss_cons (ps_if (pt_cmpR op_gt (pv 5) pe_int (nomark _)) (pss_one (ps_ret (pe_op op_mod (pe_op op_mod (pv 5) pe_int) (pv 2)))) pss_nil)
      (pss_cons (ps_set (i := 6) sc_number.nd rfl (Or.inl rfl) (pe_op op_mod (pv 0) pe_int))
      (pss_one (ps_ret (pe_op op_mod (pe_c GD hr T.g__law_draw (pa_cons (pe_op op_mul (pe_op op_add (pv 6) (pe_op op_mul pe_int (pv 1))) (pe_op op_add (pe_op op_add (pv 6) (pe_op op_mul pe_int (pv 1))) pe_int)) (pa_cons (pe_op op_add (pe_op op_mod (pv 1) pe_int) pe_int) (pa_cons pe_int pa_nil)))) (pv 2)))))))), ?_⟩
    refine ⟨_, rfl, _, _, rfl, rfl, (show (0 : Int) < 24 by decide), k % 24, rfl, by omega, by omega, ?_⟩
    have hn : (k % 24).toNat < 24 := by omega
    refine for_range (fun i σ H' => i < 24 ∧ H' = H ∧ ∃ v4, σ = [some (.int c), some (.int k), some (.int b), some (.int (1009 ^ i)), v4, none, none]) ⟨by decide, rfl, none, rfl⟩ (fun i σ H' hi q => ?_) fun σ H' q => ?_
    · obtain ⟨hi24, rfl, v4, rfl⟩ := q
      exact ⟨_, rfl, _, _, rfl, rfl, .inr ⟨by decide, by decide⟩, by omega, rfl, _, by rw [Int.pow_succ] <;> rfl⟩
    · obtain ⟨hi24, rfl, v4, rfl⟩ := q
      have pw : (1009 : Int) ^ (k % 24).toNat < 2 ^ 240 ∧ 0 < (1009 : Int) ^ (k % 24).toNat := by
        have all : ∀ i, i < 24 → (1009 : Int) ^ i < 2 ^ 240 ∧ 0 < (1009 : Int) ^ i := by decide +kernel
        exact all _ hi24
      refine ⟨_, rfl, _, _, rfl, rfl, ⟨by decide, by decide, by decide⟩, _, _, rfl, rfl, _, rfl, _, _, rfl, rfl, wide_div pw.2 (b := 240) ?_ (by decide) (by decide), ?_⟩
      · have e : ((2 : Int) ^ 240).natAbs = 2 ^ 240 := by decide +kernel
        rw [← e]
        omega
      refine ⟨_, rfl, _, _, rfl, rfl, _, rfl, ?_⟩
      by_cases pos : (0 : Int) < (c - 10 ^ (18 : Int).toNat) / 1009 ^ (k % 24).toNat
      · rw [decide_eq_true pos]
        refine iteT ⟨_, rfl, _, _, rfl, rfl, (show (0 : Int) < 1009 by decide), _, rfl, _, _, rfl, rfl, hb, ?_⟩
        exact kk H' (Same.refl _) _ (Int.emod_nonneg _ (by omega)) (Int.emod_lt_of_pos _ hb)
      · rw [decide_eq_false pos]
        refine iteF ⟨_, rfl, _, _, rfl, rfl, (show (0 : Int) < 1000003 by decide), ?_⟩
        refine ⟨_, rfl, _, rfl, _, _, rfl, rfl, .inl ⟨by decide, by decide⟩, _, _, rfl, rfl, _, rfl, _, rfl, _, _, rfl, rfl, .inl ⟨by decide, by decide⟩, _, _, rfl, rfl, _, _, rfl, rfl, _, _, rfl, rfl, .inl ?_, ?_⟩
        · omega
        refine ⟨_, rfl, _, _, rfl, rfl, (show (0 : Int) < 9 by decide), _, _, rfl, rfl, _, _, _, rfl, by decide, fun H1 s1 v h0 h1 => ?_⟩
        refine ⟨_, rfl, _, _, rfl, rfl, hb, ?_⟩
        exact kk H1 s1 _ (Int.emod_nonneg _ (by omega)) (Int.emod_lt_of_pos _ hb)
end
end OP
namespace OP
open PySem PySem.Spec PyProof.Rows L2
/-! ### the state of the drawing: one list that changes; all else stays -/
def NotSt (u : HO) : Prop := ∀ sc b k, u ≠ .lst [.ref sc, .int b, .int k]
def Keep (H H' : Hp) : Prop := ∀ a u, NotSt u → H a = some u → H' a = some u
theorem Keep.refl (H : Hp) : Keep H H := fun _ _ _ e => e
theorem Keep.trans {H H1 H2 : Hp} (a : Keep H H1) (b : Keep H1 H2) : Keep H H2 := fun c u n e => b c u n (a c u n e)
theorem Keep.of {H H' : Hp} (s : Same H H') : Keep H H' := fun a u _ e => s a u e
theorem notSt_tup (xs : List V) : NotSt (.tup xs) := fun _ _ _ z => by cases z
theorem notSt_ins (C d : Addr) (fs : List (Str × V)) : NotSt (.ins C d fs) := fun _ _ _ z => by cases z
theorem notSt_dK (kv : List (Key × V)) : NotSt (.dK kv) := fun _ _ _ z => by cases z
theorem notSt_ints (ns : List Int) : NotSt (.lst (ns.map V.int)) := fun sc b k z => by
  cases ns with
  | nil => cases z
  | cons n ns => injection z with z; injection z with z _; cases z
theorem notSt_strs (ns : List Str) : NotSt (.lst (ns.map V.str)) := fun sc b k z => by
  cases ns with
  | nil => cases z
  | cons n ns => injection z with z; injection z with z _; cases z
theorem notSt_refs {α : Type} (f : α → Addr) (ns : List α) : NotSt (.lst (ns.map fun p => V.ref (f p))) := fun sc b k z => by
  match ns with
  | [] => cases z
  | [_] => injection z with z; injection z with _ z; cases z
  | _ :: n :: _ => injection z with z; injection z with _ z; injection z with z _; cases z
theorem Keep.tup {H H' : Hp} (k : Keep H H') {a : Addr} {xs : List V} (h : H a = some (.tup xs)) : H' a = some (.tup xs) := k _ _ (notSt_tup _) h
theorem Keep.dK {H H' : Hp} (k : Keep H H') {a : Addr} {kv : List (Key × V)} (h : H a = some (.dK kv)) : H' a = some (.dK kv) := k _ _ (notSt_dK _) h
theorem Keep.ins {H H' : Hp} (k : Keep H H') {a C d : Addr} {fs : List (Str × V)} (h : H a = some (.ins C d fs)) : H' a = some (.ins C d fs) := k _ _ (notSt_ins _ _ _) h
theorem Keep.ints {H H' : Hp} (k : Keep H H') {a : Addr} {ns : List Int} (h : H a = some (.lst (ns.map V.int))) : H' a = some (.lst (ns.map V.int)) := k _ _ (notSt_ints _) h
theorem Keep.strs {H H' : Hp} (k : Keep H H') {a : Addr} {ns : List Str} (h : H a = some (.lst (ns.map V.str))) : H' a = some (.lst (ns.map V.str)) := k _ _ (notSt_strs _) h
theorem Keep.sq {K : PySem.W.Frag} {H H' : Hp} (k : Keep H H') {a : Addr} {ns : List Int} (h : SqL K H a (ns.map V.int)) : SqL K H' a (ns.map V.int) := by
  rcases h with (h | ⟨o, h⟩) | h
  · exact .inl (.inl (k.ints h))
  · exact .inl (.inr ⟨o, k _ _ (fun _ _ _ z => by cases z) h⟩)
  · exact .inr h
def StAt (K : PySem.W.Frag) (sc : Addr) (H : Hp) (st : Addr) : Prop := ∃ (ns : List Int) (b k : Int), H st = some (.lst [.ref sc, .int b, .int k]) ∧ SqL K H sc (ns.map V.int) ∧ 0 ≤ b ∧ 0 ≤ k
/-- where D is the script's own place, the script is a thing of the text -/
def Far (K : PySem.W.Frag) (sc D : Addr) : Prop := D = sc → ∃ ns : List Int, ∀ H : Hp, SqL K H sc (ns.map V.int)
theorem StAt.ext {K : PySem.W.Frag} {sc : Addr} {H H' : Hp} {st : Addr} (s : Same H H') (h : StAt K sc H st) : StAt K sc H' st := by
  obtain ⟨ns, b, k, h1, h2, h3⟩ := h
  exact ⟨ns, b, k, s _ _ h1, Same.seq s h2, h3⟩
theorem sq_off {K : PySem.W.Frag} {H : Hp} {a D : Addr} {xs : List V} {u : HO} (n : D ≠ a) (h : SqL K H a xs) : SqL K (upd H D u) a xs := by
  rcases h with (h | ⟨o, h⟩) | h
  · exact .inl (.inl (by rw [upd_ne (Ne.symm n)]; exact h))
  · exact .inl (.inr ⟨o, by rw [upd_ne (Ne.symm n)]; exact h⟩)
  · exact .inr h
theorem StAt.off {K : PySem.W.Frag} {sc : Addr} {H : Hp} {st D : Addr} {u : HO} (h : StAt K sc H st) (n1 : D ≠ st) (n2 : Far K sc D) : StAt K sc (upd H D u) st := by
  obtain ⟨ns, b, k, h1, h2, h3⟩ := h
  by_cases e : D = sc
  · obtain ⟨ms, hm⟩ := n2 e
    exact ⟨ms, b, k, by rw [upd_ne (Ne.symm n1)]; exact h1, hm _, h3⟩
  · exact ⟨ns, b, k, by rw [upd_ne (Ne.symm n1)]; exact h1, sq_off e h2, h3⟩
theorem far_of {K : PySem.W.Frag} {sc : Addr} {H : Hp} {D : Addr} {ns : List Int} (h2 : SqL K H sc (ns.map V.int)) (hD : H D = none) : Far K sc D := fun e => by
  rw [e] at hD
  refine ⟨ns, fun H' => ?_⟩
  rcases h2 with (h | ⟨o, h⟩) | h
  · rw [hD] at h; cases h
  · rw [hD] at h; cases h
  · exact .inr h
theorem StAt.ne {K : PySem.W.Frag} {sc : Addr} {H : Hp} {st D : Addr} (h : StAt K sc H st) (hD : H D = none) : D ≠ st ∧ Far K sc D := by
  obtain ⟨ns, b, k, h1, h2, h3⟩ := h
  exact ⟨(fun z => by rw [z, h1] at hD; cases hD), far_of h2 hD⟩
theorem upd_keep {H : Hp} {st sc sc' : Addr} {b k b' k' : Int} (h : H st = some (.lst [.ref sc, .int b, .int k])) : Keep H (upd H st (.lst [.ref sc', .int b', .int k'])) := fun a u n e => by
  by_cases ha : a = st
  · rw [ha, h] at e
    exact absurd (Option.some.inj e).symm (n _ _ _)
  · rw [upd_ne ha]
    exact e
section
variable {P : Program} {w : World} {K : PySem.W.Frag} {mg : Str → Option Value} {base : Heap} {sc : Addr}
def spNext (K : PySem.W.Frag) (sc : Addr) : Sp := fun vs H Q _ => ∃ (st : Addr) (b : Int), vs = [.ref st, .int b] ∧ 0 < b ∧ StAt K sc H st ∧ ∀ H', Keep H H' → StAt K sc H' st → Below b Q H'
theorem sc_next : FnScope ["_law_state", "_law_below", "_law_at", "_law_cell"] ["_law_state", "_law_below"] (defScope s__law_next) := ⟨rfl, rfl, rfl, by decide +kernel, rfl, by decide +kernel, by decide +kernel⟩
theorem ok_next (T : Txt K mg) : Ok P w K mg base (a__law_next K) ["_law_state", "_law_below"] 3 (spNext K sc) := by
  have GC : Ok P w K mg base (a__law_cell_at K) _ 1 (spCell K) := ok_cell T
  have GN : Ok P w K mg base (a__law_number K) _ 2 spNumber := ok_number T
  refine ok_of T.f__law_next sc_next (fun _ _ _ _ _ _ us hl => match us, hl with | [_, _], _ => rfl) (fun vs H Q E h => ?_) (fun cdv A outer s H vs Q E hr h => ?_)
  · obtain ⟨st, b, rfl, _⟩ := h
    rfl
  · obtain ⟨st, b, rfl, hb, ⟨ns, b0, k, h1, h2, hb0, hk⟩, kk⟩ := h
    have hr1 : Room 1 _ := hr.mono (by decide)
    refine ⟨_, pss_cons (ps_asg (pe_op op_add (pe_ix ix_list (pv 0) pe_int (fun _ _ => rfl)) pe_int) (pg_sub (pv 0) pe_int set_list))
      (pss_cons (ps_set (i := 2) sc_next.nd rfl (Or.inl rfl) (pe_op op_fdiv (pe_ix ix_list (pv 0) pe_int (fun _ _ => rfl)) pe_int))
      (pss_cons (ps_set (i := 3) sc_next.nd rfl (Or.inl rfl) (pe_op op_add (pe_c GC hr1 T.g__law_cell_at (pa_cons (pe_ix ix_list (pv 0) pe_int (fun _ _ => rfl)) (pa_cons (pe_op op_add (pe_ix ix_list (pv 0) pe_int (fun _ _ => rfl)) (pv 2)) pa_nil))) (pe_op op_mul pe_int (pv 2))))
      (pss_one (ps_ret (pe_c GN hr T.g__law_number (pa_cons (pv 3) (pa_cons (pe_op op_add (pe_op op_mod (pe_ix ix_list (pv 0) pe_int (fun _ _ => rfl)) pe_int) pe_int) (pa_cons (pv 1) pa_nil)))))))), ?_⟩
    refine ⟨_, rfl, st, _, 2, _, rfl, rfl, SqL.of h1, rfl, _, _, rfl, rfl, ?_⟩
    refine ⟨_, rfl, st, _, 2, 2, rfl, rfl, h1, rfl, ?_⟩
    have h3 : upd H st (.lst [.ref sc, .int b0, .int (k + 1)]) st = _ := upd_same
    have kp : Keep H (upd H st (.lst [.ref sc, .int b0, .int (k + 1)])) := upd_keep h1
    refine ⟨_, rfl, st, _, 2, _, rfl, rfl, SqL.of h3, rfl, _, _, rfl, rfl, ⟨by decide, by decide⟩, ?_⟩
    refine ⟨_, rfl, st, _, 0, _, rfl, rfl, SqL.of h3, rfl, _, rfl, st, _, 1, _, rfl, rfl, SqL.of h3, rfl, _, rfl, _, _, rfl, rfl, sc, ns, _, rfl, (kp.sq h2), by omega, fun v => ?_⟩
    refine ⟨_, rfl, _, _, rfl, rfl, .inl ⟨by decide, by decide⟩, _, _, rfl, rfl, ?_⟩
    refine ⟨_, rfl, _, rfl, st, _, 2, _, rfl, rfl, SqL.of h3, rfl, _, _, rfl, rfl, (show (0 : Int) < 12 by decide), _, _, rfl, rfl, _, rfl, _, _, _, rfl, hb, by omega, by omega, fun H' s' => ?_⟩
    exact kk H' (kp.trans (Keep.of s')) ⟨ns, b0, k + 1, s' _ _ h3, Same.seq s' (kp.sq h2), hb0, by omega⟩
def spPick (K : PySem.W.Frag) (sc : Addr) : Sp := fun vs H Q _ => ∃ (st t : Addr) (xs : List V), vs = [.ref st, .ref t] ∧ xs ≠ [] ∧ StAt K sc H st ∧ H t = some (.lst xs) ∧ NotSt (.lst xs) ∧ ∀ H', Keep H H' → StAt K sc H' st → ∀ x ∈ xs, Q x H'
theorem sc_pick : FnScope ["_law_state", "_law_things"] ["_law_state", "_law_things"] (defScope s__law_pick) := ⟨rfl, rfl, rfl, by decide +kernel, rfl, by decide +kernel, by decide +kernel⟩
theorem ok_pick (T : Txt K mg) : Ok P w K mg base (a__law_pick K) ["_law_state", "_law_things"] 4 (spPick K sc) := by
  have GN : Ok P w K mg base (a__law_next K) _ 3 (spNext K sc) := ok_next T
  refine ok_of T.f__law_pick sc_pick (fun _ _ _ _ _ _ us hl => match us, hl with | [_, _], _ => rfl) (fun vs H Q E h => ?_) (fun cdv A outer s H vs Q E hr h => ?_)
  · obtain ⟨st, t, xs, rfl, _⟩ := h
    rfl
  · obtain ⟨st, t, xs, rfl, hne, hst, ht, nt, kk⟩ := h
    refine ⟨_, pss_one (ps_ret (pe_ix ix_list (pv 1) (pe_c GN hr T.g__law_next (pa_cons (pv 0) (pa_cons (pe_callB call_len_seq (by rfl) T.z_len PySem.boot_len (pa_cons (pv 1) pa_nil)) pa_nil))) (fun _ _ => rfl))), ?_⟩
    have pos : 0 < xs.length := List.length_pos_iff.mpr hne
    refine ⟨_, rfl, _, rfl, _, rfl, t, _, rfl, .inl (SqL.of ht), st, _, rfl, by omega, hst, fun H' kp st' v h0 h1 => ?_⟩
    obtain ⟨hl, e⟩ := at_in h0 h1
    exact ⟨t, xs, v, _, rfl, rfl, SqL.of (kp _ _ nt ht), e, kk H' kp st' _ (List.getElem_mem hl)⟩
end
end OP
namespace OP
open PySem PySem.Spec PyProof.Rows L2
/-! ### changes as rows -/
def Kind.word : Kind → Str
  | .put => "put"
  | .move => "move"
  | .add => "add"
  | .addslot => "addslot"
  | .rais => "raise"
  | .lower => "lower"
def word : Option Kind → Str
  | none => "if"
  | some k => k.word
def oneRow (o : One) : List V := [.str o.k.word, .int o.s, .int o.v]
def RowAt (H : Hp) (a : Addr) : Chg → Prop
  | .one o => H a = some (.tup (oneRow o))
  | .iff s v o => ∃ b, H a = some (.tup [.str "if", .int s, .int v, .ref b]) ∧ H b = some (.tup (oneRow o))
theorem RowAt.kp {H H' : Hp} {a : Addr} {c : Chg} (k : Keep H H') (h : RowAt H a c) : RowAt H' a c := by
  cases c with
  | one o => exact k.tup h
  | iff s v o =>
    obtain ⟨b, h1, h2⟩ := h
    exact ⟨b, k.tup h1, k.tup h2⟩
def Fits (n : Nat) (c : Chg) : Prop := ∀ z ∈ c.slots, z < (n : Int)
theorem fits_one {n : Nat} {o : One} (h : o.s < n) (h2 : o.k.src = true → o.v < n) : Fits n (.one o) := fun z hz => by
  have hz : z ∈ o.slots := hz
  unfold One.slots at hz
  split at hz
  · rename_i hs
    have := h2 hs
    unfold two at hz
    split at hz
    · obtain rfl := List.mem_singleton.mp hz; omega
    · split at hz
      · rcases List.mem_cons.mp hz with rfl | hz
        · omega
        · obtain rfl := List.mem_singleton.mp hz; omega
      · rcases List.mem_cons.mp hz with rfl | hz
        · omega
        · obtain rfl := List.mem_singleton.mp hz; omega
  · obtain rfl := List.mem_singleton.mp hz
    omega
theorem fits_iff {n s v : Nat} {o : One} (h : s < n) (h2 : Fits n (.one o)) : Fits n (.iff s v o) := fun z hz => by
  have hz : z ∈ three s o.slots := hz
  unfold three at hz
  obtain ⟨_, q⟩ := List.mem_filter.mp hz
  rcases of_decide_eq_true q with rfl | q
  · omega
  · exact h2 z q
theorem w_if (q : Option Kind) : decide (V.str (word q) = V.str "if") = decide (q = none) := by
  cases q with
  | none => decide +kernel
  | some k => cases k <;> decide +kernel
theorem w_move (q : Option Kind) : decide (V.str (word q) = V.str "move") = decide (q = some .move) := by
  cases q with
  | none => decide +kernel
  | some k => cases k <;> decide +kernel
theorem w_addslot (q : Option Kind) : decide (V.str (word q) = V.str "addslot") = decide (q = some .addslot) := by
  cases q with
  | none => decide +kernel
  | some k => cases k <;> decide +kernel
theorem w_put (q : Option Kind) : decide (V.str (word q) = V.str "put") = decide (q = some .put) := by
  cases q with
  | none => decide +kernel
  | some k => cases k <;> decide +kernel
theorem w_add (q : Option Kind) : decide (V.str (word q) = V.str "add") = decide (q = some .add) := by
  cases q with
  | none => decide +kernel
  | some k => cases k <;> decide +kernel
theorem w_raise (q : Option Kind) : decide (V.str (word q) = V.str "raise") = decide (q = some .rais) := by
  cases q with
  | none => decide +kernel
  | some k => cases k <;> decide +kernel
/-- what a word stands for where it is none of the others -/
def flat : Option Kind → Kind
  | some .add => .add
  | some .rais => .rais
  | some .lower => .lower
  | _ => .put
theorem w_in (q : Option Kind) : (if inV (.str (word q)) [.str "put", .str "add", .str "raise", .str "lower"] = true then word q else "put") = (flat q).word := by
  cases q with
  | none => decide +kernel
  | some k => cases k <;> decide +kernel
theorem flat_src (q : Option Kind) : (flat q).src = false ∧ flat q ≠ .move := by
  cases q with
  | none => decide +kernel
  | some k => cases k <;> decide +kernel
def drawWords : List V := [.str "put", .str "add", .str "add", .str "raise", .str "lower", .str "addslot", .str "move", .str "if", .str "if"]
theorem mem_words {x : V} (h : x ∈ drawWords) : ∃ q, x = .str (word q) := by
  unfold drawWords at h
  simp only [List.mem_cons, List.not_mem_nil, or_false] at h
  rcases h with rfl | rfl | rfl | rfl | rfl | rfl | rfl | rfl | rfl
  · exact ⟨some .put, rfl⟩
  · exact ⟨some .add, rfl⟩
  · exact ⟨some .add, rfl⟩
  · exact ⟨some .rais, rfl⟩
  · exact ⟨some .lower, rfl⟩
  · exact ⟨some .addslot, rfl⟩
  · exact ⟨some .move, rfl⟩
  · exact ⟨none, rfl⟩
  · exact ⟨none, rfl⟩
theorem tand_pure {tA tB : TT} {σ : L2.St} {H : Hp} {Q : Bool → Hp → Prop} (p r : Bool) (hA : ∀ Q' : Bool → Hp → Prop, Q' p H → tA σ H Q') (hB : ∀ Q' : Bool → Hp → Prop, Q' r H → tB σ H Q') (h : Q (p && r) H) : tAnd tA tB σ H Q := by
  refine hA _ ?_
  cases p with
  | false => exact iteF h
  | true => exact iteT (hB _ h)
theorem seq_and {tA tB : TT} {u v z : TS} {D : Ends} {σ : L2.St} {H : Hp} (p r : Bool) (hA : ∀ Q' : Bool → Hp → Prop, Q' p H → tA σ H Q') (hB : ∀ Q' : Bool → Hp → Prop, Q' r H → tB σ H Q') (h : if (p && r) = true then u { D with nx := z D } σ H else v { D with nx := z D } σ H) : tSeq (tIfS (tAnd tA tB) u v) z D σ H := tand_pure p r hA hB h
theorem nat_of {v : Int} (h : 0 ≤ v) : ∃ m : Nat, v = (m : Int) := ⟨v.toNat, by omega⟩
section
variable {P : Program} {w : World} {K : PySem.W.Frag} {mg : Str → Option Value} {base : Heap} {sc : Addr}
/-- never called -/
theorem ok_no {x qual : Str} {st : Stmt} {f : Addr} {ps : List Str} {k : Nat} (F : ∃ fd, Fun K x qual st f fd)
    (hb : ∀ (kV doc pm : Value) (an : Option Addr) (cdv ct : Value) (us : List Value), us.length = ps.length → bindArgs (PySem.W.fnOf x qual (defArgs st) (defBody st) (defScope st) .none kV doc pm an cdv ct) ⟨us, []⟩ = pure (ps.zip us)) : Ok P w K mg base f ps k (fun _ _ _ _ => False) := by
  obtain ⟨fd, F⟩ := F
  exact ⟨⟨fd, ⟨fun _ _ _ _ h => h.elim, fun _ _ _ _ _ _ _ _ _ _ _ _ _ h => h.elim⟩, F.binds hb⟩, F.kp⟩
def spRow (K : PySem.W.Frag) (sc : Addr) (d : Nat) : Sp := fun vs H Q _ => ∃ (st : Addr) (n : Nat), vs = [.ref st, .int n, .int d] ∧ 1 ≤ n ∧ n ≤ 2 ∧ StAt K sc H st ∧
  ∀ H' a c, Keep H H' → StAt K sc H' st → RowAt H' a c → c.Ok → Fits n c → (d = 0 → ∃ o, c = .one o) → Q (.ref a) H'
theorem sc_change : FnScope ["_law_state", "_law_slots", "_law_deep", "_law_word", "_law_slot", "_law_value"] ["_law_state", "_law_slots", "_law_deep"] (defScope s__law_change) := ⟨rfl, rfl, rfl, by decide +kernel, rfl, by decide +kernel, by decide +kernel⟩
theorem change_step (T : Txt K mg) (d k : Nat) (h5 : 5 ≤ k) (GO : d ≠ 0 → Ok P w K mg base (a__law_change K) ["_law_state", "_law_slots", "_law_deep"] k (spRow K sc 0)) : Ok P w K mg base (a__law_change K) ["_law_state", "_law_slots", "_law_deep"] (k + 1) (spRow K sc d) := by
  have GP : Ok P w K mg base (a__law_pick K) _ 4 (spPick K sc) := ok_pick T
  have GN : Ok P w K mg base (a__law_next K) _ 3 (spNext K sc) := ok_next T
  have GR : Ok P w K mg base (a__law_change K) ["_law_state", "_law_slots", "_law_deep"] k (fun vs H Q E => d ≠ 0 ∧ spRow K sc 0 vs H Q E) := by
    by_cases h0 : d = 0
    · exact (ok_no T.f__law_change (fun _ _ _ _ _ _ us hl => match us, hl with | [_, _, _], _ => rfl)).imp fun vs H Q E h => (h.1 h0).elim
    · exact (GO h0).imp fun vs H Q E h => h.2
  refine ok_of T.f__law_change sc_change (fun _ _ _ _ _ _ us hl => match us, hl with | [_, _, _], _ => rfl) (fun vs H Q E h => ?_) (fun cdv A outer s H vs Q E hr h => ?_)
  · obtain ⟨st, n, rfl, _⟩ := h
    rfl
  · obtain ⟨st, n, rfl, n1, n2, hst, kk⟩ := h
    have hr4 : Room 4 _ := hr.mono (by omega)
    have hr3 : Room 3 _ := hr.mono (by omega)
    refine ⟨_, pss_cons (ps_set (i := 3) sc_change.nd rfl (Or.inl rfl) (pe_c GP hr4 T.g__law_pick (pa_cons (pv 0) (pa_cons (pe_lst (pa_cons pe_str (pa_cons pe_str (pa_cons pe_str (pa_cons pe_str (pa_cons pe_str (pa_cons pe_str (pa_cons pe_str (pa_cons pe_str (pa_cons pe_str pa_nil)))))))))) pa_nil))))
      (pss_cons (ps_par rfl sc_change.nd (i := 4) (j := 5) rfl rfl (by decide) rfl rfl (pa_cons (pe_c GN hr3 T.g__law_next (pa_cons (pv 0) (pa_cons (pv 1) pa_nil))) (pa_cons (pe_c GN hr3 T.g__law_next (pa_cons (pv 0) (pa_cons pe_int pa_nil))) pa_nil)) (by rfl))
      (pss_cons (ps_if (PW.pt (pw_and (pt_cmpR op_eq (pv 3) pe_str (nomark _)) (pw_and1 (pt_cmpR op_gt (pv 2) pe_int (nomark _)))))
        (pss_one (ps_ret (pe_tup (pa_cons pe_str (pa_cons (pv 4) (pa_cons (pe_c GP hr4 T.g__law_pick (pa_cons (pv 0) (pa_cons (pe_lst (pa_cons pe_int (pa_cons pe_int (pa_cons (pv 5) pa_nil)))) pa_nil))) (pa_cons (pe_c GR hr T.g__law_change (pa_cons (pv 0) (pa_cons (pv 1) (pa_cons pe_int pa_nil)))) pa_nil))))))) pss_nil)
      (pss_cons (ps_if (PW.pt (pw_and (pt_cmpR op_eq (pv 3) pe_str (nomark _)) (pw_and1 (pt_cmpR op_gt (pv 1) pe_int (nomark _)))))
        (pss_one (ps_ret (pe_tup (pa_cons pe_str (pa_cons (pv 4) (pa_cons (pe_op op_mod (pe_op op_add (pe_op op_add (pv 4) pe_int) (pe_c GN hr3 T.g__law_next (pa_cons (pv 0) (pa_cons (pe_op op_sub (pv 1) pe_int) pa_nil)))) (pv 1)) pa_nil)))))) pss_nil)
      (pss_cons (ps_if (pt_cmpR op_eq (pv 3) pe_str (nomark _))
        (pss_one (ps_ret (pe_tup (pa_cons pe_str (pa_cons (pv 4) (pa_cons (pe_c GN hr3 T.g__law_next (pa_cons (pv 0) (pa_cons (pv 1) pa_nil))) pa_nil)))))) pss_nil)
      (pss_one (ps_ret (pe_tup (pa_cons (pe_ifExp (pt_cmpR op_in_seq (pv 3) (pe_tup (pa_cons pe_str (pa_cons pe_str (pa_cons pe_str (pa_cons pe_str pa_nil))))) (by rfl)) (pv 3) pe_str) (pa_cons (pv 4) (pa_cons (pv 5) pa_nil)))))))))), ?_⟩
    refine ⟨_, rfl, (by show 9 ≤ sizeLine; decide), fun t ht => ?_⟩
    have s1 : Same H _ := same_upd (o := .lst drawWords) ht
    refine ⟨st, t, drawWords, rfl, (by unfold drawWords; exact List.cons_ne_nil _ _), hst.ext s1, upd_same, (notSt_strs ["put", "add", "add", "raise", "lower", "addslot", "move", "if", "if"]), fun H2 k2 st2 x hx => ?_⟩
    have k1 : Keep H H2 := (Keep.of s1).trans k2
    obtain ⟨q, rfl⟩ := mem_words hx
    refine ⟨_, rfl, _, rfl, st, n, rfl, by omega, st2, fun H3 k3 st3 v3 a3 b3 => ?_⟩
    refine ⟨_, rfl, st, 8, rfl, by decide, st3, fun H4 k4 st4 v4 a4 b4 => ⟨_, _, rfl, ?_⟩⟩
    obtain ⟨ms, rfl⟩ := nat_of a3
    obtain ⟨mv, rfl⟩ := nat_of a4
    have k14 := (k1.trans k3).trans k4
    have gt0 : ∀ z : Nat, decide ((0 : Int) < (z : Int)) = decide (z ≠ 0) := fun z => decide_eq_decide.mpr (by omega)
    have fl := flat_src q
    have last : Keep H H4 → ∀ Z : Prop, Z → Z := fun _ _ z => z
    -- the last row, where no word has its own
    have tail : ∀ H5, Keep H H5 → StAt K sc H5 st → q ≠ some .addslot → (q = some .move → n = 1) → ∀ (t5 : Addr), H5 t5 = none → ∀ p, upd H5 t5 (.tup [.str "put", .str "add", .str "raise", .str "lower"]) p = none →
        Q (.ref p) (upd (upd H5 t5 (.tup [.str "put", .str "add", .str "raise", .str "lower"])) p (.tup [.str (flat q).word, .int ms, .int mv])) := fun H5 k5 st5 _ _ t5 ht5 p hp => by
      have s5 : Same H5 _ := same_upd (o := .tup [.str "put", .str "add", .str "raise", .str "lower"]) ht5
      have s6 : Same H5 _ := s5.push (o := .tup [.str (flat q).word, .int ms, .int mv]) hp
      refine kk _ p (.one ⟨flat q, ms, mv⟩) (k5.trans (Keep.of s6)) (st5.ext s6) upd_same ⟨by show ms ≤ 2; omega, by show mv ≤ 7; omega, fun z => ?_, fun z => (fl.2 z).elim⟩ (fits_one (by show ms < n; omega) fun z => ?_) fun _ => ⟨_, rfl⟩
      · have z : (flat q).src = true := z
        rw [fl.1] at z; cases z
      · have z : (flat q).src = true := z
        rw [fl.1] at z; cases z
    dsimp only
    refine seq_and (decide (q = none)) (decide (d ≠ 0)) (fun Q' z => ⟨_, rfl, rfl, _, rfl, by rw [w_if]; exact z⟩) (fun Q' z => ⟨_, rfl, _, _, rfl, rfl, _, rfl, by rw [gt0]; exact z⟩) ?_
    by_cases c1 : q = none ∧ d ≠ 0
    · rw [decide_eq_true c1.1, decide_eq_true c1.2]
      refine iteT ⟨_, rfl, _, rfl, _, rfl, (by show 3 ≤ sizeLine; decide), fun t5 ht5 => ?_⟩
      have s5 : Same H4 _ := same_upd (o := .lst [.int 0, .int 1, .int mv]) ht5
      refine ⟨st, t5, [.int 0, .int 1, .int mv], rfl, List.cons_ne_nil _ _, st4.ext s5, upd_same, notSt_ints [0, 1, (mv : Int)], fun H6 k6 st6 x hx => ?_⟩
      obtain ⟨m6, rfl, l6⟩ : ∃ m : Nat, x = .int m ∧ m ≤ 7 := by
        simp only [List.mem_cons, List.not_mem_nil, or_false] at hx
        rcases hx with rfl | rfl | rfl
        · exact ⟨0, rfl, by omega⟩
        · exact ⟨1, rfl, by omega⟩
        · exact ⟨mv, rfl, by omega⟩
      refine ⟨_, rfl, _, rfl, c1.2, st, n, rfl, n1, n2, st6, fun H7 a7 c7 k7 st7 r7 ok7 f7 o7 => ?_⟩
      obtain ⟨o, rfl⟩ := o7 rfl
      refine ⟨(by show 4 ≤ sizeLine; decide), fun p hp => ?_⟩
      have s8 : Same H7 _ := same_upd (o := .tup [.str "if", .int ms, .int m6, .ref a7]) hp
      exact kk _ p (.iff ms m6 o) ((((k14.trans (Keep.of s5)).trans k6).trans k7).trans (Keep.of s8)) (st7.ext s8) ⟨a7, upd_same, s8 _ _ r7⟩ ⟨by omega, l6, ok7⟩ (fits_iff (by omega) f7) fun z => (c1.2 z).elim
    · have c1' : (decide (q = none) && decide (d ≠ 0)) = false := by
        by_cases e1 : q = none
        · by_cases e2 : d ≠ 0
          · exact (c1 ⟨e1, e2⟩).elim
          · rw [decide_eq_false e2, Bool.and_false]
        · rw [decide_eq_false e1, Bool.false_and]
      rw [c1']
      refine iteF ?_
      show Ends.nx _ _ _
      dsimp only
      refine seq_and (decide (q = some .move)) (decide (n = 2)) (fun Q' z => ⟨_, rfl, rfl, _, rfl, by rw [w_move]; exact z⟩) (fun Q' z => ⟨_, rfl, _, _, rfl, rfl, _, rfl, by rw [show decide ((1 : Int) < (n : Int)) = decide (n = 2) from decide_eq_decide.mpr (by omega)]; exact z⟩) ?_
      by_cases c2 : q = some .move ∧ n = 2
      · rw [decide_eq_true c2.1, decide_eq_true c2.2]
        obtain ⟨rfl, rfl⟩ := c2
        refine iteT ⟨_, rfl, _, rfl, _, _, rfl, rfl, _, rfl, _, rfl, _, _, rfl, rfl, st, 1, rfl, by decide, st4, fun H5 k5 st5 v5 a5 b5 => ?_⟩
        refine ⟨_, _, rfl, rfl, _, rfl, _, _, rfl, rfl, (show (0 : Int) < ((2 : Nat) : Int) by decide), ?_⟩
        obtain ⟨m5, hm5⟩ := nat_of (v := ((ms : Int) + 1 + v5) % ((2 : Nat) : Int)) (by omega)
        refine ⟨(by show 3 ≤ sizeLine; decide), fun p hp => ?_⟩
        have s8 : Same H5 _ := same_upd (o := .tup [.str "move", .int ms, .int (((ms : Int) + 1 + v5) % ((2 : Nat) : Int))]) hp
        refine kk _ p (.one ⟨.move, ms, m5⟩) ((k14.trans k5).trans (Keep.of s8)) (st5.ext s8) (by show _ = some (HO.tup [.str "move", .int ms, .int (m5 : Int)]); rw [← hm5]; exact upd_same) ⟨by show ms ≤ 2; omega, by show m5 ≤ 7; omega, fun _ => by show m5 ≤ 2; omega, fun _ => by show m5 ≠ ms; omega⟩ (fits_one (by show ms < 2; omega) fun _ => by show m5 < 2; omega) fun _ => ⟨_, rfl⟩
      · have c2' : (decide (q = some .move) && decide (n = 2)) = false := by
          by_cases e1 : q = some .move
          · by_cases e2 : n = 2
            · exact (c2 ⟨e1, e2⟩).elim
            · rw [decide_eq_false e2, Bool.and_false]
          · rw [decide_eq_false e1, Bool.false_and]
        rw [c2']
        refine iteF ⟨_, rfl, rfl, _, rfl, ?_⟩
        rw [w_addslot]
        by_cases c3 : q = some .addslot
        · rw [decide_eq_true c3]
          refine iteT ⟨_, rfl, _, rfl, _, rfl, st, n, rfl, by omega, st4, fun H5 k5 st5 v5 a5 b5 => ?_⟩
          obtain ⟨m5, rfl⟩ := nat_of a5
          refine ⟨(by show 3 ≤ sizeLine; decide), fun p hp => ?_⟩
          have s8 : Same H5 _ := same_upd (o := .tup [.str "addslot", .int ms, .int m5]) hp
          exact kk _ p (.one ⟨.addslot, ms, m5⟩) ((k14.trans k5).trans (Keep.of s8)) (st5.ext s8) upd_same ⟨by show ms ≤ 2; omega, by show m5 ≤ 7; omega, fun _ => by show m5 ≤ 2; omega, fun z => by cases z⟩ (fits_one (by show ms < n; omega) fun _ => by show m5 < n; omega) fun _ => ⟨_, rfl⟩
        · rw [decide_eq_false c3]
          refine iteF ⟨_, rfl, (by show 4 ≤ sizeLine; decide), fun t5 ht5 => ⟨t5, _, rfl, .inr (SqT.of upd_same), rfl, by decide +kernel, _, rfl, ?_⟩⟩
          have win := w_in q
          have fin := tail H4 k14 st4 c3 (fun e => by have hz : n ≠ 2 := fun z => c2 ⟨e, z⟩; omega) t5 ht5
          cases ein : inV (.str (word q)) [.str "put", .str "add", .str "raise", .str "lower"] with
          | true =>
            rw [ein, if_pos rfl] at win
            rw [← win] at fin
            exact iteT ⟨_, rfl, _, rfl, _, rfl, (by show 3 ≤ sizeLine; decide), fin⟩
          | false =>
            rw [ein, if_neg (by decide)] at win
            rw [← win] at fin
            exact iteF ⟨_, rfl, _, rfl, (by show 3 ≤ sizeLine; decide), fin⟩
end
end OP
namespace OP
open PySem PySem.Spec PyProof.Rows L2
section
variable {P : Program} {w : World} {K : PySem.W.Frag} {mg : Str → Option Value} {base : Heap}
theorem ok_row0 (T : Txt K mg) {sc : Addr} : Ok P w K mg base (a__law_change K) ["_law_state", "_law_slots", "_law_deep"] 6 (spRow K sc 0) := change_step T 0 5 (by decide) fun h => (h rfl).elim
theorem ok_row1 (T : Txt K mg) {sc : Addr} : Ok P w K mg base (a__law_change K) ["_law_state", "_law_slots", "_law_deep"] 7 (spRow K sc 1) := change_step T 1 6 (by decide) fun _ => ok_row0 T
theorem made_same {H H' : Hp} {x dx : Addr} {u v : HO} (hx : H x = none) (hdx : H dx = none) (h : ∀ b o, b ≠ x → upd (upd H dx u) x v b = some o → H' b = some o) : Same H H' := fun b o e => by
  have b1 : b ≠ x := ne_of_none e hx
  exact h b o b1 (by rw [upd_ne b1, upd_ne (ne_of_none e hdx)]; exact e)
theorem init_of {K : PySem.W.Frag} {H : Hp} {Q : VK} {E : XK} {o : One} (ok : o.Ok) (k : ∀ H' r, Same H H' → OneAt K H' r o → Q (.ref r) H') : ∀ x dx, H x = none → H dx = none → dx ≠ x → spInit (o.k.cls K) o.k [.ref x, .int o.s, .int o.v] (upd (upd H dx (.own x)) x (.ins (o.k.cls K) dx [])) (fun v H2 => v = .non ∧ Q (.ref x) H2) E := fun x dx hx hdx ne =>
  ⟨x, dx, o.s, o.v, rfl, ok, upd_same, fun H' hk hp => ⟨rfl, k H' x (made_same hx hdx hk) ⟨dx, hp⟩⟩⟩
/-- what is made of a row -/
def spMade (K : PySem.W.Frag) (d : Nat) : Sp := fun vs H Q _ => ∃ (a : Addr) (c : Chg), vs = [.ref a] ∧ RowAt H a c ∧ c.Ok ∧ (d = 0 → ∃ o, c = .one o) ∧ ∀ H' r, Same H H' → ChgAt K H' r c → Q (.ref r) H'
theorem sc_made : FnScope ["_law_row"] ["_law_row"] (defScope s__law_made) := ⟨rfl, rfl, rfl, by decide +kernel, rfl, by decide +kernel, by decide +kernel⟩
theorem made_step (T : Txt K mg) (d k : Nat) (h5 : 4 ≤ k) (GO : d ≠ 0 → Ok P w K mg base (a__law_made K) ["_law_row"] k (spMade K 0)) : Ok P w K mg base (a__law_made K) ["_law_row"] (k + 1) (spMade K d) := by
  have GR : Ok P w K mg base (a__law_made K) ["_law_row"] k (fun vs H Q E => d ≠ 0 ∧ spMade K 0 vs H Q E) := by
    by_cases h0 : d = 0
    · exact (ok_no T.f__law_made (fun _ _ _ _ _ _ us hl => match us, hl with | [_], _ => rfl)).imp fun vs H Q E h => (h.1 h0).elim
    · exact (GO h0).imp fun vs H Q E h => h.2
  have G1 : Ok P w K mg base (a_Put_init K) _ 3 (spInit (c_Put K) .put) := ok_Put_init T
  have G2 : Ok P w K mg base (a_Move_init K) _ 3 (spInit (c_Move K) .move) := ok_Move_init T
  have G3 : Ok P w K mg base (a_Add_init K) _ 3 (spInit (c_Add K) .add) := ok_Add_init T
  have G4 : Ok P w K mg base (a_AddSlot_init K) _ 3 (spInit (c_AddSlot K) .addslot) := ok_AddSlot_init T
  have G5 : Ok P w K mg base (a_Raise_init K) _ 3 (spInit (c_Raise K) .rais) := ok_Raise_init T
  have G6 : Ok P w K mg base (a_Lower_init K) _ 3 (spInit (c_Lower K) .lower) := ok_Lower_init T
  have G7 : Ok P w K mg base (a_If_init K) _ 3 (spIfInit K) := ok_If_init T
  refine ok_of T.f__law_made sc_made (fun _ _ _ _ _ _ us hl => match us, hl with | [_], _ => rfl) (fun vs H Q E h => ?_) (fun cdv A outer s H vs Q E hr h => ?_)
  · obtain ⟨a, c, rfl, _⟩ := h
    rfl
  · obtain ⟨a, c, rfl, ha, ok, ho, kk⟩ := h
    have hr4 : Room 4 _ := hr.mono (by omega)
    refine ⟨_, pss_cons (ps_if (pt_cmpR op_eq (pe_ix ix_tup (pv 0) pe_int (fun _ _ => rfl)) pe_str (nomark _)) (pss_one (ps_ret (pe_mkc T.mk_If G7 hr4 T.g_If (pa_cons (pe_ix ix_tup (pv 0) pe_int (fun _ _ => rfl)) (pa_cons (pe_ix ix_tup (pv 0) pe_int (fun _ _ => rfl)) (pa_cons (pe_c GR hr T.g__law_made (pa_cons (pe_ix ix_tup (pv 0) pe_int (fun _ _ => rfl)) pa_nil)) pa_nil)))))) pss_nil)
      (pss_cons (ps_if (pt_cmpR op_eq (pe_ix ix_tup (pv 0) pe_int (fun _ _ => rfl)) pe_str (nomark _)) (pss_one (ps_ret (pe_mkc T.mk_Put G1 hr4 T.g_Put (pa_cons (pe_ix ix_tup (pv 0) pe_int (fun _ _ => rfl)) (pa_cons (pe_ix ix_tup (pv 0) pe_int (fun _ _ => rfl)) pa_nil))))) pss_nil)
      (pss_cons (ps_if (pt_cmpR op_eq (pe_ix ix_tup (pv 0) pe_int (fun _ _ => rfl)) pe_str (nomark _)) (pss_one (ps_ret (pe_mkc T.mk_Move G2 hr4 T.g_Move (pa_cons (pe_ix ix_tup (pv 0) pe_int (fun _ _ => rfl)) (pa_cons (pe_ix ix_tup (pv 0) pe_int (fun _ _ => rfl)) pa_nil))))) pss_nil)
      (pss_cons (ps_if (pt_cmpR op_eq (pe_ix ix_tup (pv 0) pe_int (fun _ _ => rfl)) pe_str (nomark _)) (pss_one (ps_ret (pe_mkc T.mk_Add G3 hr4 T.g_Add (pa_cons (pe_ix ix_tup (pv 0) pe_int (fun _ _ => rfl)) (pa_cons (pe_ix ix_tup (pv 0) pe_int (fun _ _ => rfl)) pa_nil))))) pss_nil)
      (pss_cons (ps_if (pt_cmpR op_eq (pe_ix ix_tup (pv 0) pe_int (fun _ _ => rfl)) pe_str (nomark _)) (pss_one (ps_ret (pe_mkc T.mk_AddSlot G4 hr4 T.g_AddSlot (pa_cons (pe_ix ix_tup (pv 0) pe_int (fun _ _ => rfl)) (pa_cons (pe_ix ix_tup (pv 0) pe_int (fun _ _ => rfl)) pa_nil))))) pss_nil)
      (pss_one (ps_ret (pe_ifExp (pt_cmpR op_eq (pe_ix ix_tup (pv 0) pe_int (fun _ _ => rfl)) pe_str (nomark _)) (pe_mkc T.mk_Raise G5 hr4 T.g_Raise (pa_cons (pe_ix ix_tup (pv 0) pe_int (fun _ _ => rfl)) (pa_cons (pe_ix ix_tup (pv 0) pe_int (fun _ _ => rfl)) pa_nil))) (pe_mkc T.mk_Lower G6 hr4 T.g_Lower (pa_cons (pe_ix ix_tup (pv 0) pe_int (fun _ _ => rfl)) (pa_cons (pe_ix ix_tup (pv 0) pe_int (fun _ _ => rfl)) pa_nil)))))))))), ?_⟩
    cases c with
    | iff m v o =>
      obtain ⟨b, ha, hb⟩ := ha
      have hd : d ≠ 0 := fun z => by obtain ⟨_, z⟩ := ho z; cases z
      refine ⟨_, rfl, a, _, 0, .str (word none), rfl, rfl, SqT.of ha, rfl, rfl, _, rfl, ?_⟩
      rw [w_if, decide_eq_true rfl]
      refine iteT ⟨_, rfl, a, _, 1, _, rfl, rfl, SqT.of ha, rfl, _, rfl, a, _, 2, _, rfl, rfl, SqT.of ha, rfl, _, rfl, a, _, 3, _, rfl, rfl, SqT.of ha, rfl, hd, b, .one o, rfl, hb, ok.2.2, fun _ => ⟨_, rfl⟩, fun H1 r s1 e1 => ?_⟩
      exact fun x dx hx hdx ne => ⟨x, dx, r, m, v, o, rfl, ok.1, ok.2.1, OneAt.ext (same_upd hdx |>.push (by rw [upd_ne (Ne.symm ne)]; exact hx)) e1, upd_same, fun H' hk hp => ⟨rfl, kk H' x (s1.trans (made_same hx hdx hk)) ⟨dx, r, hp, OneAt.ext (made_same hx hdx hk) e1⟩⟩⟩
    | one o =>
      have ha : H a = some (.tup (oneRow o)) := ha
      have fin := init_of (E := E0) (Q := Q) (ok : o.Ok) fun H' r s' h => kk H' r s' h
      refine ⟨_, rfl, a, _, 0, .str (word (some o.k)), rfl, rfl, SqT.of ha, rfl, rfl, _, rfl, ?_⟩
      rw [w_if, decide_eq_false (by simp)]
      refine iteF ⟨_, rfl, a, _, 0, .str (word (some o.k)), rfl, rfl, SqT.of ha, rfl, rfl, _, rfl, ?_⟩
      rw [w_put]
      by_cases c1 : o.k = .put
      · rw [decide_eq_true (by rw [c1])]
        rw [c1] at fin
        exact iteT ⟨_, rfl, a, _, 1, _, rfl, rfl, SqT.of ha, rfl, _, rfl, a, _, 2, _, rfl, rfl, SqT.of ha, rfl, fin⟩
      rw [decide_eq_false (by simpa using c1)]
      refine iteF ⟨_, rfl, a, _, 0, .str (word (some o.k)), rfl, rfl, SqT.of ha, rfl, rfl, _, rfl, ?_⟩
      rw [w_move]
      by_cases c2 : o.k = .move
      · rw [decide_eq_true (by rw [c2])]
        rw [c2] at fin
        exact iteT ⟨_, rfl, a, _, 1, _, rfl, rfl, SqT.of ha, rfl, _, rfl, a, _, 2, _, rfl, rfl, SqT.of ha, rfl, fin⟩
      rw [decide_eq_false (by simpa using c2)]
      refine iteF ⟨_, rfl, a, _, 0, .str (word (some o.k)), rfl, rfl, SqT.of ha, rfl, rfl, _, rfl, ?_⟩
      rw [w_add]
      by_cases c3 : o.k = .add
      · rw [decide_eq_true (by rw [c3])]
        rw [c3] at fin
        exact iteT ⟨_, rfl, a, _, 1, _, rfl, rfl, SqT.of ha, rfl, _, rfl, a, _, 2, _, rfl, rfl, SqT.of ha, rfl, fin⟩
      rw [decide_eq_false (by simpa using c3)]
      refine iteF ⟨_, rfl, a, _, 0, .str (word (some o.k)), rfl, rfl, SqT.of ha, rfl, rfl, _, rfl, ?_⟩
      rw [w_addslot]
      by_cases c4 : o.k = .addslot
      · rw [decide_eq_true (by rw [c4])]
        rw [c4] at fin
        exact iteT ⟨_, rfl, a, _, 1, _, rfl, rfl, SqT.of ha, rfl, _, rfl, a, _, 2, _, rfl, rfl, SqT.of ha, rfl, fin⟩
      rw [decide_eq_false (by simpa using c4)]
      refine iteF ⟨_, rfl, a, _, 0, .str (word (some o.k)), rfl, rfl, SqT.of ha, rfl, rfl, _, rfl, ?_⟩
      rw [w_raise]
      by_cases c5 : o.k = .rais
      · rw [decide_eq_true (by rw [c5])]
        rw [c5] at fin
        exact iteT ⟨_, rfl, a, _, 1, _, rfl, rfl, SqT.of ha, rfl, _, rfl, a, _, 2, _, rfl, rfl, SqT.of ha, rfl, fin⟩
      rw [decide_eq_false (by simpa using c5)]
      have c6 : o.k = .lower := by
        cases h : o.k with
        | put => exact absurd h c1
        | move => exact absurd h c2
        | add => exact absurd h c3
        | addslot => exact absurd h c4
        | rais => exact absurd h c5
        | lower => rfl
      rw [c6] at fin
      exact iteF ⟨_, rfl, a, _, 1, _, rfl, rfl, SqT.of ha, rfl, _, rfl, a, _, 2, _, rfl, rfl, SqT.of ha, rfl, fin⟩
theorem ok_made (T : Txt K mg) : Ok P w K mg base (a__law_made K) ["_law_row"] 6 (spMade K 1) := made_step T 1 5 (by decide) fun _ => made_step T 0 4 (by decide) fun h => (h rfl).elim
end
end OP
namespace OP
open PySem PySem.Spec PyProof.Rows L2
section
variable {P : Program} {w : World} {K : PySem.W.Frag} {mg : Str → Option Value} {base : Heap}
def spAfter (K : PySem.W.Frag) (d : Nat) : Sp := fun vs H Q _ => ∃ (a st : Addr) (c : Chg) (xs : List Int), vs = [.ref a, .ref st] ∧ RowAt H a c ∧ c.Ok ∧ (d = 0 → ∃ o, c = .one o) ∧ H st = some (.tup (xs.map V.int)) ∧ Fits xs.length c ∧ xs.length ≤ 8 ∧
  ∀ H' r, Same H H' → H' r = some (.tup ((c.app xs).map V.int)) → Q (.ref r) H'
theorem sc_after : FnScope ["_law_row", "_law_store", "_law_word", "_law_slot", "_law_value", "_law_late"] ["_law_row", "_law_store"] (defScope s__law_after) := ⟨rfl, rfl, rfl, by decide +kernel, rfl, by decide +kernel, by decide +kernel⟩
theorem one_slot_lt {n : Nat} {o : One} (h : Fits n (.one o)) : o.s < n := by
  have : (o.s : Int) ∈ o.slots := by
    unfold One.slots
    split
    · unfold two
      split
      · exact List.mem_singleton.mpr rfl
      · split
        · exact List.mem_cons_self
        · exact List.mem_cons_of_mem _ List.mem_cons_self
    · exact List.mem_singleton.mpr rfl
  have h2 := h _ this
  omega
theorem one_src_lt {n : Nat} {o : One} (hs : o.k.src = true) (h : Fits n (.one o)) : o.v < n := by
  have : (o.v : Int) ∈ o.slots := by
    unfold One.slots
    rw [if_pos hs]
    unfold two
    split
    · rename_i e
      rw [e]
      exact List.mem_singleton.mpr rfl
    · split
      · exact List.mem_cons_of_mem _ List.mem_cons_self
      · exact List.mem_cons_self
  have h2 := h _ this
  omega
theorem mem_three {s : Nat} {ns : List Int} {z : Int} (h0 : 0 ≤ z) (h2 : z ≤ 2) (h : z = s ∨ z ∈ ns) : z ∈ three s ns := by
  unfold three
  refine List.mem_filter.mpr ⟨List.mem_map.mpr ⟨z.toNat, List.mem_range.mpr (by omega), by omega⟩, decide_eq_true h⟩
theorem slots_le {o : One} (ok : o.Ok) {z : Int} (hz : z ∈ o.slots) : 0 ≤ z ∧ z ≤ 2 := by
  have h1 := ok.s2
  unfold One.slots at hz
  split at hz
  · rename_i hs
    have h2 := ok.v2 hs
    unfold two at hz
    split at hz
    · obtain rfl := List.mem_singleton.mp hz; omega
    · split at hz
      · rcases List.mem_cons.mp hz with rfl | hz
        · omega
        · obtain rfl := List.mem_singleton.mp hz; omega
      · rcases List.mem_cons.mp hz with rfl | hz
        · omega
        · obtain rfl := List.mem_singleton.mp hz; omega
  · obtain rfl := List.mem_singleton.mp hz
    omega
theorem fits_in {n s v : Nat} {o : One} (ok : o.Ok) (h : Fits n (.iff s v o)) : Fits n (.one o) := fun z hz => by
  obtain ⟨h0, h2⟩ := slots_le ok hz
  exact h z (mem_three h0 h2 (.inr hz))
theorem ix_int {xs : List Int} {m : Nat} (h : m < xs.length) : ixN (xs.map V.int).length (m : Int) = some m := by
  unfold ixN
  rw [if_pos (by omega), List.length_map, if_pos (by omega)]
  exact congrArg some (Int.toNat_natCast m)
theorem after_step (T : Txt K mg) (d k : Nat) (GO : d ≠ 0 → Ok P w K mg base (a__law_after K) ["_law_row", "_law_store"] k (spAfter K 0)) : Ok P w K mg base (a__law_after K) ["_law_row", "_law_store"] (k + 1) (spAfter K d) := by
  have GR : Ok P w K mg base (a__law_after K) ["_law_row", "_law_store"] k (fun vs H Q E => d ≠ 0 ∧ spAfter K 0 vs H Q E) := by
    by_cases h0 : d = 0
    · exact (ok_no T.f__law_after (fun _ _ _ _ _ _ us hl => match us, hl with | [_, _], _ => rfl)).imp fun vs H Q E h => (h.1 h0).elim
    · exact (GO h0).imp fun vs H Q E h => h.2
  refine ok_of T.f__law_after sc_after (fun _ _ _ _ _ _ us hl => match us, hl with | [_, _], _ => rfl) (fun vs H Q E h => ?_) (fun cdv A outer s H vs Q E hr h => ?_)
  · obtain ⟨a, st, c, xs, rfl, _⟩ := h
    rfl
  · obtain ⟨a, st, c, xs, rfl, ha, ok, ho, hst, ft, h8, kk⟩ := h
    refine ⟨_, pss_cons (ps_par3 rfl sc_after.nd (i := 2) (j := 3) (l := 4) rfl rfl rfl (by decide) (by decide) (by decide) rfl rfl rfl (pa_cons (pe_ix ix_tup (pv 0) pe_int (fun _ _ => rfl)) (pa_cons (pe_ix ix_tup (pv 0) pe_int (fun _ _ => rfl)) (pa_cons (pe_ix ix_tup (pv 0) pe_int (fun _ _ => rfl)) pa_nil))) (by rfl))
      (pss_cons (ps_if (pt_cmpR op_eq (pv 2) pe_str (nomark _)) (pss_one (ps_ret (pe_ifExp (pt_cmpR op_eq (pe_ix ix_tup (pv 1) (pv 3) (fun _ _ => rfl)) (pv 4) (nomark _)) (pe_c GR hr T.g__law_after (pa_cons (pe_ix ix_tup (pv 0) pe_int (fun _ _ => rfl)) (pa_cons (pv 1) pa_nil))) (pv 1)))) pss_nil)
      (pss_cons (ps_set (i := 5) sc_after.nd rfl (Or.inl rfl) (pe_callTy call_list_of (by rfl) T.z_list (by decide +kernel) (pa_cons (pv 1) pa_nil)))
      (pss_cons (ps_if (pt_cmpR op_eq (pv 2) pe_str (nomark _)) (pss_one (ps_asg (pv 4) (pg_sub (pv 5) (pv 3) set_list)))
        (pss_one (ps_if (pt_cmpR op_eq (pv 2) pe_str (nomark _)) (pss_one (ps_asg (pe_ix ix_tup (pv 1) (pv 4) (fun _ _ => rfl)) (pg_sub (pv 5) (pv 3) set_list)))
        (pss_one (ps_if (pt_cmpR op_eq (pv 2) pe_str (nomark _)) (pss_one (ps_asg (pe_op op_mod (pe_op op_add (pe_ix ix_tup (pv 1) (pv 3) (fun _ _ => rfl)) (pv 4)) pe_int) (pg_sub (pv 5) (pv 3) set_list)))
        (pss_one (ps_if (pt_cmpR op_eq (pv 2) pe_str (nomark _)) (pss_one (ps_asg (pe_op op_mod (pe_op op_add (pe_ix ix_tup (pv 1) (pv 3) (fun _ _ => rfl)) (pe_ix ix_tup (pv 1) (pv 4) (fun _ _ => rfl))) pe_int) (pg_sub (pv 5) (pv 3) set_list)))
        (pss_one (ps_if (pt_cmpR op_eq (pv 2) pe_str (nomark _)) (pss_one (ps_asg (pe_ifExp (pt_cmpR op_gt (pv 4) (pe_ix ix_tup (pv 1) (pv 3) (fun _ _ => rfl)) (nomark _)) (pv 4) (pe_ix ix_tup (pv 1) (pv 3) (fun _ _ => rfl))) (pg_sub (pv 5) (pv 3) set_list)))
        (pss_one (ps_asg (pe_ifExp (pt_cmpR op_lt (pv 4) (pe_ix ix_tup (pv 1) (pv 3) (fun _ _ => rfl)) (nomark _)) (pv 4) (pe_ix ix_tup (pv 1) (pv 3) (fun _ _ => rfl))) (pg_sub (pv 5) (pv 3) set_list))))))))))))
      (pss_one (ps_ret (pe_tupleOf (by rfl) T.z_tuple (pv 5))))))), ?_⟩
    cases c with
    | iff m v o =>
      obtain ⟨b, ha, hb⟩ := ha
      have hd : d ≠ 0 := fun z => by obtain ⟨_, z⟩ := ho z; cases z
      have hm : m < xs.length := by
        have m2 : m ≤ 2 := ok.1
        have : (m : Int) ∈ three m o.slots := mem_three (by omega) (by omega) (.inl rfl)
        have := ft _ this
        omega
      refine ⟨_, rfl, a, _, 0, .str (word none), rfl, rfl, SqT.of ha, rfl, _, rfl, a, _, 1, _, rfl, rfl, SqT.of ha, rfl, _, rfl, a, _, 2, _, rfl, rfl, SqT.of ha, rfl, _, _, _, rfl, ?_⟩
      refine ⟨_, rfl, rfl, _, rfl, ?_⟩
      rw [w_if, decide_eq_true rfl]
      refine iteT ⟨_, rfl, _, rfl, st, _, _, _, rfl, rfl, SqT.of hst, at_int hm, _, rfl, rfl, _, rfl, ?_⟩
      by_cases ev : xs.getD m 0 = (v : Int)
      · rw [decide_eq_true (congrArg V.int ev)]
        refine iteT ⟨_, rfl, a, _, 3, _, rfl, rfl, SqT.of ha, rfl, _, rfl, hd, b, st, .one o, xs, rfl, hb, ok.2.2, fun _ => ⟨_, rfl⟩, hst, fits_in ok.2.2 ft, h8, fun H' r s' e => kk H' r s' ?_⟩
        rw [e]
        show _ = some (HO.tup ((if xs.getD m 0 = (v : Int) then o.app xs else xs).map V.int))
        rw [if_pos ev]
        rfl
      · rw [decide_eq_false (fun z => ev (V.int.inj z))]
        refine iteF ⟨_, rfl, kk H st (Same.refl _) ?_⟩
        show _ = some (HO.tup ((if xs.getD m 0 = (v : Int) then o.app xs else xs).map V.int))
        rw [if_neg ev]
        exact hst
    | one o =>
      have ha : H a = some (.tup (oneRow o)) := ha
      have hs := one_slot_lt ft
      refine ⟨_, rfl, a, _, 0, .str (word (some o.k)), rfl, rfl, SqT.of ha, rfl, _, rfl, a, _, 1, _, rfl, rfl, SqT.of ha, rfl, _, rfl, a, _, 2, _, rfl, rfl, SqT.of ha, rfl, _, _, _, rfl, ?_⟩
      refine ⟨_, rfl, rfl, _, rfl, ?_⟩
      rw [w_if, decide_eq_false (by simp)]
      refine iteF ⟨_, rfl, st, _, rfl, .inr (SqT.of hst), fun l hl => ?_⟩
      have s1 : Same H _ := same_upd (o := .lst (xs.map V.int)) hl
      have endq : ∀ v : Int, v = o.val xs → ∀ q, upd (upd H l (.lst (xs.map V.int))) l (.lst ((xs.map V.int).set o.s (.int v))) q = none →
          Q (.ref q) (upd (upd (upd H l (.lst (xs.map V.int))) l (.lst ((xs.map V.int).set o.s (.int v)))) q (.tup ((xs.map V.int).set o.s (.int v)))) := fun v ev q hq => by
        refine kk _ q (fun b u e => ?_) ?_
        · have bl : b ≠ l := ne_of_none e hl
          have e2 : upd (upd H l (.lst (xs.map V.int))) l (.lst ((xs.map V.int).set o.s (.int v))) b = some u := by rw [upd_ne bl, upd_ne bl]; exact e
          rw [upd_ne (ne_of_none e2 hq)]
          exact e2
        · rw [upd_same]
          show _ = some (HO.tup ((xs.set o.s (o.val xs)).map V.int))
          rw [List.map_set, ev]
      have st1 := s1 _ _ hst
      refine ⟨_, rfl, rfl, _, rfl, ?_⟩
      rw [w_put]
      by_cases c1 : o.k = .put
      · rw [decide_eq_true (by rw [c1])]
        exact iteT ⟨_, rfl, _, rfl, _, rfl, l, _, _, _, rfl, rfl, upd_same, ix_int hs, _, rfl, .inl ⟨l, _, rfl, SqL.of upd_same, endq _ (by unfold One.val; rw [c1])⟩⟩
      rw [decide_eq_false (by simpa using c1)]
      refine iteF ⟨_, rfl, rfl, _, rfl, ?_⟩
      rw [w_move]
      by_cases c2 : o.k = .move
      · rw [decide_eq_true (by rw [c2])]
        have hv := one_src_lt (by rw [c2]; rfl) ft
        exact iteT ⟨_, rfl, _, rfl, st, _, _, _, rfl, rfl, SqT.of st1, at_int hv, _, rfl, _, rfl, l, _, _, _, rfl, rfl, upd_same, ix_int hs, _, rfl, .inl ⟨l, _, rfl, SqL.of upd_same, endq _ (by unfold One.val; rw [c2])⟩⟩
      rw [decide_eq_false (by simpa using c2)]
      refine iteF ⟨_, rfl, rfl, _, rfl, ?_⟩
      rw [w_add]
      by_cases c3 : o.k = .add
      · rw [decide_eq_true (by rw [c3])]
        exact iteT ⟨_, rfl, _, rfl, st, _, _, _, rfl, rfl, SqT.of st1, at_int hs, _, rfl, _, _, rfl, rfl, _, _, rfl, rfl, (show (0 : Int) < 8 by decide), _, rfl, _, rfl, l, _, _, _, rfl, rfl, upd_same, ix_int hs, _, rfl, .inl ⟨l, _, rfl, SqL.of upd_same, endq _ (by unfold One.val; rw [c3])⟩⟩
      rw [decide_eq_false (by simpa using c3)]
      refine iteF ⟨_, rfl, rfl, _, rfl, ?_⟩
      rw [w_addslot]
      by_cases c4 : o.k = .addslot
      · rw [decide_eq_true (by rw [c4])]
        have hv := one_src_lt (by rw [c4]; rfl) ft
        exact iteT ⟨_, rfl, _, rfl, st, _, _, _, rfl, rfl, SqT.of st1, at_int hs, _, rfl, _, rfl, st, _, _, _, rfl, rfl, SqT.of st1, at_int hv, _, _, rfl, rfl, _, _, rfl, rfl, (show (0 : Int) < 8 by decide), _, rfl, _, rfl, l, _, _, _, rfl, rfl, upd_same, ix_int hs, _, rfl, .inl ⟨l, _, rfl, SqL.of upd_same, endq _ (by unfold One.val; rw [c4])⟩⟩
      rw [decide_eq_false (by simpa using c4)]
      refine iteF ⟨_, rfl, rfl, _, rfl, ?_⟩
      rw [w_raise]
      by_cases c5 : o.k = .rais
      · rw [decide_eq_true (by rw [c5])]
        refine iteT ⟨_, rfl, _, rfl, _, rfl, st, _, _, _, rfl, rfl, SqT.of st1, at_int hs, _, _, rfl, rfl, _, rfl, ?_⟩
        by_cases cv : xs.getD o.s 0 < (o.v : Int)
        · rw [decide_eq_true cv]
          exact iteT ⟨_, rfl, _, rfl, _, rfl, l, _, _, _, rfl, rfl, upd_same, ix_int hs, _, rfl, .inl ⟨l, _, rfl, SqL.of upd_same, endq _ (by unfold One.val; rw [c5]; exact (if_pos cv).symm)⟩⟩
        · rw [decide_eq_false cv]
          exact iteF ⟨_, rfl, _, rfl, st, _, _, _, rfl, rfl, SqT.of st1, at_int hs, _, rfl, _, rfl, l, _, _, _, rfl, rfl, upd_same, ix_int hs, _, rfl, .inl ⟨l, _, rfl, SqL.of upd_same, endq _ (by unfold One.val; rw [c5]; exact (if_neg cv).symm)⟩⟩
      rw [decide_eq_false (by simpa using c5)]
      have c6 : o.k = .lower := by
        cases h : o.k with
        | put => exact absurd h c1
        | move => exact absurd h c2
        | add => exact absurd h c3
        | addslot => exact absurd h c4
        | rais => exact absurd h c5
        | lower => rfl
      refine iteF ⟨_, rfl, _, rfl, _, rfl, st, _, _, _, rfl, rfl, SqT.of st1, at_int hs, _, _, rfl, rfl, _, rfl, ?_⟩
      by_cases cv : (o.v : Int) < xs.getD o.s 0
      · rw [decide_eq_true cv]
        exact iteT ⟨_, rfl, _, rfl, _, rfl, l, _, _, _, rfl, rfl, upd_same, ix_int hs, _, rfl, .inl ⟨l, _, rfl, SqL.of upd_same, endq _ (by unfold One.val; rw [c6]; exact (if_pos cv).symm)⟩⟩
      · rw [decide_eq_false cv]
        exact iteF ⟨_, rfl, _, rfl, st, _, _, _, rfl, rfl, SqT.of st1, at_int hs, _, rfl, _, rfl, l, _, _, _, rfl, rfl, upd_same, ix_int hs, _, rfl, .inl ⟨l, _, rfl, SqL.of upd_same, endq _ (by unfold One.val; rw [c6]; exact (if_neg cv).symm)⟩⟩
theorem ok_after (T : Txt K mg) : Ok P w K mg base (a__law_after K) ["_law_row", "_law_store"] 2 (spAfter K 1) := after_step T 1 1 fun _ => after_step T 0 0 fun h => (h rfl).elim
end
end OP
namespace OP
open PySem PySem.Spec PyProof.Rows L2
theorem w_src (q : Option Kind) : inV (.str (word q)) [.str "move", .str "addslot"] = (match q with | some k => k.src | none => false) := by
  cases q with
  | none => decide +kernel
  | some k => cases k <;> decide +kernel
section
variable {P : Program} {w : World} {K : PySem.W.Frag} {mg : Str → Option Value} {base : Heap}
def spPlaces (K : PySem.W.Frag) (d : Nat) : Sp := fun vs H Q _ => ∃ (a : Addr) (c : Chg), vs = [.ref a] ∧ RowAt H a c ∧ c.Ok ∧ (d = 0 → ∃ o, c = .one o) ∧ ∀ H' r, Same H H' → H' r = some (.lst (c.slots.map V.int)) → Q (.ref r) H'
theorem sc_places : FnScope ["_law_row"] ["_law_row"] (defScope s__law_places) := ⟨rfl, rfl, rfl, by decide +kernel, rfl, by decide +kernel, by decide +kernel⟩
theorem places_step (T : Txt K mg) (d k : Nat) (GO : d ≠ 0 → Ok P w K mg base (a__law_places K) ["_law_row"] k (spPlaces K 0)) : Ok P w K mg base (a__law_places K) ["_law_row"] (k + 1) (spPlaces K d) := by
  have GR : Ok P w K mg base (a__law_places K) ["_law_row"] k (fun vs H Q E => d ≠ 0 ∧ spPlaces K 0 vs H Q E) := by
    by_cases h0 : d = 0
    · exact (ok_no T.f__law_places (fun _ _ _ _ _ _ us hl => match us, hl with | [_], _ => rfl)).imp fun vs H Q E h => (h.1 h0).elim
    · exact (GO h0).imp fun vs H Q E h => h.2
  refine ok_of T.f__law_places sc_places (fun _ _ _ _ _ _ us hl => match us, hl with | [_], _ => rfl) (fun vs H Q E h => ?_) (fun cdv A outer s0 H vs Q E hr h => ?_)
  · obtain ⟨a, c, rfl, _⟩ := h
    rfl
  · obtain ⟨a, c, rfl, ha, ok, ho, kk⟩ := h
    refine ⟨_, pss_cons (ps_if (pt_cmpR op_eq (pe_ix ix_tup (pv 0) pe_int (fun _ _ => rfl)) pe_str (nomark _)) (pss_one (ps_ret (pe_callB (cr_sortedSet rfl) (by rfl) T.z_sorted (by decide +kernel) (pa_cons (pe_callTy (cr_setI rfl) (by rfl) T.z_set (by decide +kernel) (pa_cons (pe_op op_cat (pe_lst (pa_cons (pe_ix ix_tup (pv 0) pe_int (fun _ _ => rfl)) pa_nil)) (pe_c GR hr T.g__law_places (pa_cons (pe_ix ix_tup (pv 0) pe_int (fun _ _ => rfl)) pa_nil))) pa_nil)) pa_nil)))) pss_nil)
      (pss_one (ps_ret (pe_ifExp (pt_cmpR op_in_seq (pe_ix ix_tup (pv 0) pe_int (fun _ _ => rfl)) (pe_tup (pa_cons pe_str (pa_cons pe_str pa_nil))) (by rfl))
        (pe_callB (cr_sortedSet rfl) (by rfl) T.z_sorted (by decide +kernel) (pa_cons (pe_callTy (cr_setI rfl) (by rfl) T.z_set (by decide +kernel) (pa_cons (pe_lst (pa_cons (pe_ix ix_tup (pv 0) pe_int (fun _ _ => rfl)) (pa_cons (pe_ix ix_tup (pv 0) pe_int (fun _ _ => rfl)) pa_nil))) pa_nil)) pa_nil))
        (pe_lst (pa_cons (pe_ix ix_tup (pv 0) pe_int (fun _ _ => rfl)) pa_nil))))), ?_⟩
    cases c with
    | iff m v o =>
      obtain ⟨b, ha, hb⟩ := ha
      have hd : d ≠ 0 := fun z => by obtain ⟨_, z⟩ := ho z; cases z
      refine ⟨_, rfl, a, _, 0, .str (word none), rfl, rfl, SqT.of ha, rfl, rfl, _, rfl, ?_⟩
      rw [w_if, decide_eq_true rfl]
      refine iteT ⟨_, rfl, a, _, 1, _, rfl, rfl, SqT.of ha, rfl, (by show 1 ≤ sizeLine; decide), fun l hl => ?_⟩
      have s1 : Same H _ := same_upd (o := .lst [V.int m]) hl
      refine ⟨_, rfl, a, _, 3, _, rfl, rfl, SqT.of (s1 _ _ ha), rfl, hd, b, .one o, rfl, s1 _ _ hb, ok.2.2, fun _ => ⟨_, rfl⟩, fun H2 r s2 e2 => ?_⟩
      have hl2 : H2 l = some (.lst [V.int m]) := s2 _ _ upd_same
      have hlen := One.slots_len o
      refine ⟨l, r, _, _, rfl, rfl, hl2, e2, (by rw [List.length_map]; exact Nat.le_trans (show 1 + o.slots.length ≤ 3 by omega) (by decide)), fun p hp => ?_⟩
      refine ⟨p, (m : Int) :: o.slots, rfl, SqL.of upd_same, (by rw [List.length_cons]; omega), fun q c hq hc => ?_⟩
      refine ⟨q, _, c, rfl, upd_same, Nat.lt_of_le_of_lt hc (by rw [List.length_cons]; omega), fun ns p2 srt mem _ hp2 => ?_⟩
      refine kk _ p2 ((((s1.trans s2).trans (same_upd hp)).trans (same_upd hq)).trans (same_upd hp2)) ?_
      have e : ns = three m o.slots := three_set ok.1 (One.slots_bd ok.2.2) srt fun z => (mem z).trans decide_eq_true_iff
      rw [upd_same, e] <;> rfl
    | one o =>
      have ha : H a = some (.tup (oneRow o)) := ha
      refine ⟨_, rfl, a, _, 0, .str (word (some o.k)), rfl, rfl, SqT.of ha, rfl, rfl, _, rfl, ?_⟩
      rw [w_if, decide_eq_false (by simp)]
      refine iteF ⟨_, rfl, a, _, 0, .str (word (some o.k)), rfl, rfl, SqT.of ha, rfl, (by show 2 ≤ sizeLine; decide), fun t ht => ?_⟩
      have s1 : Same H _ := same_upd (o := .tup [.str "move", .str "addslot"]) ht
      have ha1 := s1 _ _ ha
      refine ⟨t, _, rfl, .inr (SqT.of upd_same), rfl, by decide +kernel, _, rfl, ?_⟩
      show if (inV (.str (word (some o.k))) [.str "move", .str "addslot"]) = true then _ else _
      rw [w_src]
      show if o.k.src = true then _ else _
      cases hs : o.k.src with
      | true =>
        refine iteT ⟨_, rfl, a, _, 1, _, rfl, rfl, SqT.of ha1, rfl, _, rfl, a, _, 2, _, rfl, rfl, SqT.of ha1, rfl, (by show 2 ≤ sizeLine; decide), fun l hl => ?_⟩
        refine ⟨l, [(o.s : Int), (o.v : Int)], rfl, SqL.of upd_same, (by show 2 < 60; decide), fun q c hq hc => ?_⟩
        refine ⟨q, _, c, rfl, upd_same, Nat.lt_of_le_of_lt hc (by show 2 < 64; decide), fun ns p srt mem _ hp => ?_⟩
        refine kk _ p (((s1.trans (same_upd hl)).trans (same_upd hq)).trans (same_upd hp)) ?_
        have e : ns = two o.s o.v := two_set srt fun z => (mem z).trans decide_eq_true_iff
        have e2 : Chg.slots (.one o) = two o.s o.v := by
          show o.slots = _
          unfold One.slots
          rw [if_pos hs]
        rw [upd_same, e, e2]
      | false =>
        refine iteF ⟨_, rfl, a, _, 1, _, rfl, rfl, SqT.of ha1, rfl, (by show 1 ≤ sizeLine; decide), fun l hl => ?_⟩
        have e2 : Chg.slots (.one o) = [(o.s : Int)] := by
          show o.slots = _
          unfold One.slots
          rw [if_neg (by rw [hs]; decide)]
        refine kk _ l (s1.trans (same_upd hl)) ?_
        rw [upd_same, e2] <;> rfl
theorem ok_places (T : Txt K mg) : Ok P w K mg base (a__law_places K) ["_law_row"] 2 (spPlaces K 1) := places_step T 1 1 fun _ => places_step T 0 0 fun h => (h rfl).elim
/-! ### what was drawn: slots, stores, rows -/
abbrev Rws := List (Str × Addr × Chg)
def RowsAt (H : Hp) (L : Rws) : Prop := ∀ p ∈ L, RowAt H p.2.1 p.2.2
theorem RowsAt.kp {H H' : Hp} {L : Rws} (k : Keep H H') (h : RowsAt H L) : RowsAt H' L := fun p hp => (h p hp).kp k
/-- a tuple of slots, stores and rows -/
structure DrAt (H : Hp) (t : Addr) (n : Nat) (S : Sts) (L : Rws) : Prop where
  ob : ∃ l d, H t = some (.tup [.int n, .ref l, .ref d]) ∧ H l = some (.lst (refs S)) ∧ H d = some (.dK (kvs L))
  sts : StsAt H S
  rows : RowsAt H L
theorem StsAt.kp {H H' : Hp} {S : Sts} (k : Keep H H') (h : StsAt H S) : StsAt H' S := fun p hp => k.tup (h p hp)
theorem DrAt.kp {H H' : Hp} {t : Addr} {n : Nat} {S : Sts} {L : Rws} (k : Keep H H') (h : DrAt H t n S L) : DrAt H' t n S L := by
  obtain ⟨⟨l, d, h1, h2, h3⟩, h4, h5⟩ := h
  exact ⟨⟨l, d, k.tup h1, k _ _ (notSt_refs _ S) h2, k.dK h3⟩, h4.kp k, h5.kp k⟩
def appL (L : Rws) (ys : List Str) (xs : List Int) : List Int := appAll L ys xs
def spLEnd (K : PySem.W.Frag) : Sp := fun vs H Q _ => ∃ (t st o : Addr) (n : Nat) (S : Sts) (L : Rws) (xs : List Int) (ys : List Str), vs = [.ref t, .ref st, .ref o] ∧ DrAt H t n S L ∧ WOk n S L ∧ H st = some (.tup (xs.map V.int)) ∧ StoreOk xs ∧ xs.length = n ∧ H o = some (.lst (ys.map V.str)) ∧ ys.length ≤ 4 ∧ (∀ y ∈ ys, y ∈ names L) ∧
  ∀ H' r, Same H H' → H' r = some (.tup ((appAll L ys xs).map V.int)) → Q (.ref r) H'
theorem sc_lend : FnScope ["_law_drawn_here", "_law_store", "_law_order", "_law_name"] ["_law_drawn_here", "_law_store", "_law_order"] (defScope s__law_end) := ⟨rfl, rfl, rfl, by decide +kernel, rfl, by decide +kernel, by decide +kernel⟩
theorem ok_lend (T : Txt K mg) : Ok P w K mg base (a__law_end K) ["_law_drawn_here", "_law_store", "_law_order"] 3 (spLEnd K) := by
  have GA : Ok P w K mg base (a__law_after K) _ 2 (spAfter K 1) := ok_after T
  refine ok_of T.f__law_end sc_lend (fun _ _ _ _ _ _ us hl => match us, hl with | [_, _, _], _ => rfl) (fun vs H Q E h => ?_) (fun cdv A outer s0 H vs Q E hr h => ?_)
  · obtain ⟨t, st, o, n, S, L, xs, ys, rfl, _⟩ := h
    rfl
  · obtain ⟨t, st, o, n, S, L, xs, ys, rfl, D, ok, hst, sx, hn, ho, h4, hin, kk⟩ := h
    obtain ⟨⟨l, d, ht, hl, hd⟩, _, hL⟩ := id D
    refine ⟨_, pss_cons (ps_for PassesOwn.never rfl (pi_list (pv 2)) (pg_name (i := 3) sc_lend.nd rfl (Or.inl rfl)) (pss_one (ps_set (i := 1) sc_lend.nd rfl (Or.inl rfl) (pe_c GA hr T.g__law_after (pa_cons (pe_dget (hu_of hr) (pe_ix ix_tup (pv 0) pe_int (fun _ _ => rfl)) (pv 3) (fun _ _ => rfl)) (pa_cons (pv 1) pa_nil))))))
      (pss_one (ps_ret (pv 1))), ?_⟩
    have hm : (ys.map V.str).length = ys.length := List.length_map ..
    refine ⟨_, rfl, o, rfl, ⟨_, SqL.of ho⟩, for_list (K := K) (a := o) (xs := ys.map V.str) (fun i σ H' => ∃ r v zs, σ = [some (.ref t), some (.ref r), some (.ref o), v] ∧ Same H H' ∧ zs = appAll L (ys.take i) xs ∧ StoreOk zs ∧ zs.length = n ∧ H' r = some (.tup (zs.map V.int)))
      ⟨st, none, xs, rfl, Same.refl _, rfl, sx, hn, hst⟩ (fun i σ H' _ q => ?_) (fun i x σ H' hx q => ?_) fun σ H' q => ?_⟩
    · obtain ⟨_, _, _, _, s3, _⟩ := q
      exact SqL.of (s3 _ _ ho)
    · obtain ⟨r, v, zs, rfl, s3, ez, sz, hz, hr'⟩ := q
      obtain ⟨y, hy, rfl⟩ := strs_at' hx
      obtain ⟨j, hj, rfl⟩ := mem_names (hin y (List.mem_of_getElem? hy))
      have mem : L[j] ∈ L := List.getElem_mem hj
      have ch := ok.chgs.chg _ mem
      have hlt : ∀ z ∈ L[j].2.2.slots, z < (zs.length : Int) := fun z h => by rw [hz]; exact ch.2 z h
      refine ⟨_, rfl, t, _, 2, _, rfl, rfl, SqT.of (s3 _ _ ht), rfl, _, rfl, d, V.ref L[j].2.1, rfl, .inl ⟨kvs L, Sum.inr L[j].1, .inl (s3 _ _ hd), rfl, (valV_kvs ok.chgs.nd hj).symm⟩, _, rfl, L[j].2.1, r, L[j].2.2, zs, rfl, (hL _ mem).kp (Keep.of s3), ch.1, fun z => (by cases z), hr', hlt, by rw [hz]; have := ok.n3; omega, fun H4 r2 s4 e4 => ?_⟩
      have ap := Chg.app_ok ch.1 sz hlt
      refine ⟨r2, _, L[j].2.2.app zs, rfl, s3.trans s4, ?_, ap.1, ap.2.trans hz, e4⟩
      rw [ez, List.take_add_one, hy]
      unfold appAll
      rw [List.foldl_append]
      show _ = (chgOf L L[j].1).app _
      rw [chgOf_at ok.chgs.nd hj]
    · obtain ⟨r, v, zs, rfl, s3, ez, sz, hz, hr'⟩ := q
      refine ⟨_, rfl, kk H' r s3 ?_⟩
      rw [hr', ez, hm, List.take_length]
end
end OP
namespace OP
open PySem PySem.Spec PyProof.Rows L2
def nc (L : Ncs) : List (Str × Chg) := L.map fun p => (p.1, p.2.2)
theorem nc_names (L : Ncs) : names L = (nc L).map (·.1) := by
  unfold nc names
  rw [List.map_map] <;> rfl
theorem nc_len (L : Ncs) : (nc L).length = L.length := List.length_map ..
theorem ChgsOk.twin {n : Nat} {L M : Ncs} (h : ChgsOk n L) (e : nc M = nc L) : ChgsOk n M := by
  have len : M.length = L.length := by rw [← nc_len M, e, nc_len]
  have mem : ∀ p ∈ M, ∃ q ∈ L, q.1 = p.1 ∧ q.2.2 = p.2.2 := fun p hp => by
    have : (p.1, p.2.2) ∈ nc M := List.mem_map.mpr ⟨p, hp, rfl⟩
    rw [e] at this
    obtain ⟨q, hq, eq⟩ := List.mem_map.mp this
    exact ⟨q, hq, (Prod.mk.inj eq).1, (Prod.mk.inj eq).2⟩
  refine ⟨by rw [len]; exact h.lo, by rw [len]; exact h.hi, fun p hp => ?_, fun p hp => ?_, by rw [nc_names, e, ← nc_names]; exact h.nd⟩
  · obtain ⟨q, hq, e1, e2⟩ := mem p hp
    rw [← e1]
    exact h.name q hq
  · obtain ⟨q, hq, e1, e2⟩ := mem p hp
    rw [← e2]
    exact h.chg q hq
theorem OneAt.upd {K : PySem.W.Frag} {H : Hp} {a D : Addr} {o : One} {u0 u : HO} (hd : H D = some u0) (n : ∀ C dx fs, u0 ≠ .ins C dx fs) (h : OneAt K H a o) : OneAt K (upd H D u) a o := by
  obtain ⟨dx, h⟩ := h
  exact ⟨dx, by rw [upd_ne (fun z => by rw [z, hd] at h; exact n _ _ _ (Option.some.inj h))]; exact h⟩
theorem ChgAt.upd {K : PySem.W.Frag} {H : Hp} {a D : Addr} {c : Chg} {u0 u : HO} (hd : H D = some u0) (n : ∀ C dx fs, u0 ≠ .ins C dx fs) (h : ChgAt K H a c) : ChgAt K (upd H D u) a c := by
  cases c with
  | one o => exact OneAt.upd hd n h
  | iff s v o =>
    obtain ⟨dx, b, h1, h2⟩ := h
    exact ⟨dx, b, by rw [upd_ne (fun z => by rw [z, hd] at h1; exact n _ _ _ (Option.some.inj h1))]; exact h1, OneAt.upd hd n h2⟩
/-- pairs at their places: tuple, name, change's place, change -/
abbrev Prs' := List (Addr × Str × Addr × Chg)
def MsAt (K : PySem.W.Frag) (H : Hp) (Z : Prs') : Prop := ∀ q ∈ Z, H q.1 = some (.tup [.str q.2.1, .ref q.2.2.1]) ∧ ChgAt K H q.2.2.1 q.2.2.2
def prefs (Z : Prs') : List V := (Z.map (·.1)).map V.ref
theorem MsAt.ext {K : PySem.W.Frag} {H H' : Hp} {Z : Prs'} (s : Same H H') (h : MsAt K H Z) : MsAt K H' Z := fun q hq => ⟨s _ _ (h q hq).1, (h q hq).2.ext s⟩
theorem MsAt.upd {K : PySem.W.Frag} {H : Hp} {Z : Prs'} {D : Addr} {ys : List V} {u : HO} (hd : H D = some (.lst ys)) (h : MsAt K H Z) : MsAt K (upd H D u) Z := fun q hq => by
  refine ⟨?_, (h q hq).2.upd hd (fun _ _ _ z => by cases z)⟩
  rw [upd_ne (tup_ne (h q hq).1 hd)]
  exact (h q hq).1
theorem MsAt.snoc {K : PySem.W.Frag} {H : Hp} {Z : Prs'} {q : Addr × Str × Addr × Chg} (h : MsAt K H Z) (h1 : H q.1 = some (.tup [.str q.2.1, .ref q.2.2.1])) (h2 : ChgAt K H q.2.2.1 q.2.2.2) : MsAt K H (Z ++ [q]) := fun x hx => by
  rcases List.mem_append.mp hx with z | z
  · exact h x z
  · obtain rfl := List.mem_singleton.mp z
    exact ⟨h1, h2⟩
theorem paired_of {K : PySem.W.Frag} {H : Hp} : ∀ {Z : Prs'}, MsAt K H Z → Paired (fun p (kv : Key × V) => SqT K H p [kV kv.1, kv.2]) (Z.map (·.1)) (kvs (Z.map (·.2)))
  | [], _ => .nil
  | q :: Z, h => .cons (SqT.of (h q List.mem_cons_self).1) (paired_of fun x hx => h x (List.mem_cons_of_mem _ hx))
theorem merge_new : ∀ (A B : Ncs), (names (A ++ B)).Nodup → mergeK (kvs A) (kvs B) = kvs (A ++ B)
  | A, [], _ => by rw [List.append_nil]; rfl
  | A, p :: B, nd => by
    have e : A ++ p :: B = (A ++ [p]) ++ B := by rw [List.append_assoc] <;> rfl
    have nf : p.1 ∉ names A := fun z => by
      unfold names at nd z
      rw [List.map_append, List.map_cons] at nd
      exact (List.nodup_append.mp nd).2.2 _ z _ List.mem_cons_self rfl
    have ih := merge_new (A ++ [p]) B (by rw [← e]; exact nd)
    rw [e, ← ih]
    show mergeK (putK (kvs A) (Sum.inr p.1) (V.ref p.2.1)) (kvs B) = _
    rw [putK_new _ (valV_not nf)]
    congr 1
    unfold kvs
    rw [List.map_append] <;> rfl
section
variable {P : Program} {w : World} {K : PySem.W.Frag} {mg : Str → Option Value} {base : Heap}
def spLWorld (K : PySem.W.Frag) : Sp := fun vs H Q _ => ∃ (t : Addr) (n : Nat) (S : Sts) (L : Rws), vs = [.ref t] ∧ DrAt H t n S L ∧ WOk n S L ∧ ∀ H' p (M : Ncs), Same H H' → WorldAt K H' p n S M → nc M = nc L → Q (.ref p) H'
theorem sc_lworld : FnScope ["_law_drawn_here", "_law_name"] ["_law_drawn_here"] (defScope s__law_world) := ⟨rfl, rfl, rfl, by decide +kernel, rfl, by decide +kernel, by decide +kernel⟩
theorem ok_lworld (T : Txt K mg) : Ok P w K mg base (a__law_world K) ["_law_drawn_here"] 9 (spLWorld K) := by
  have GM : Ok P w K mg base (a__law_made K) _ 6 (spMade K 1) := ok_made T
  have GW : Ok P w K mg base (a_World_init K) _ 7 (spWInit K) := ok_World_init T
  refine ok_of T.f__law_world sc_lworld (fun _ _ _ _ _ _ us hl => match us, hl with | [_], _ => rfl) (fun vs H Q E h => ?_) (fun cdv A outer s0 H vs Q E hr h => ?_)
  · obtain ⟨t, n, S, L, rfl, _⟩ := h
    rfl
  · obtain ⟨t, n, S, L, rfl, D, ok, kk⟩ := h
    obtain ⟨⟨l, d, ht, hl, hd⟩, hS, hL⟩ := id D
    have hr6 : Room 6 _ := hr.mono (by decide)
    refine ⟨_, pss_one (ps_ret (pe_mkc T.mk_World GW hr T.g_World (pa_cons (pe_ix ix_tup (pv 0) pe_int (fun _ _ => rfl)) (pa_cons (pe_ix ix_tup (pv 0) pe_int (fun _ _ => rfl)) (pa_cons (pe_callTy (call_dictP rfl) (by rfl) T.z_dict (by decide +kernel) (pa_cons (pe_lock (pe_lc (own := [("_law_name", 1)]) (g := gName 1) (tt := tYes) rfl sc_lworld.nd (pi_keys (pe_ix ix_tup (pv 0) pe_int (fun _ _ => rfl))) (blkOk_by (own := [("_law_name", 1)]) (N := ["_law_drawn_here", "_law_name"]) (sc := defScope s__law_world) (by decide +kernel))
      (fun _ _ _ _ _ => pg_name (i := 1) sc_lworld.nd rfl (Or.inl rfl)) (fun _ _ _ _ _ => pts_nil)
      (fun _ _ _ _ _ => pe_tup (pa_cons (pv 1) (pa_cons (pe_c GM hr6 T.g__law_made (pa_cons (pe_dget (hu_of hr) (pe_ix (ix_tupK K) (pv 0) pe_int (fun _ _ => rfl)) (pv 1) (fun _ _ => rfl)) pa_nil)) pa_nil))))) pa_nil)) pa_nil))))), ?_⟩
    refine ⟨_, rfl, t, _, 0, _, rfl, rfl, SqT.of ht, rfl, _, rfl, t, _, 1, _, rfl, rfl, SqT.of ht, rfl, d, _, hd, trivial, fun od => ?_⟩
    have nt : t ≠ d := fun z => by rw [z, hd] at ht; cases ht
    have nl : l ≠ d := fun z => by rw [z, hd] at hl; cases hl
    generalize hH : upd H d (.frz od (.dK (kvs L))) = H1
    have o1 : ∀ b u, b ≠ d → H b = some u → H1 b = some u := fun b u hb e => by rw [← hH, upd_ne hb]; exact e
    have hd1 : H1 d = some (.frz od (.dK (kvs L))) := by rw [← hH, upd_same]
    have ht1 := o1 _ _ nt ht
    have rows1 : RowsAt H1 L := fun p hp => by
      have h := hL p hp
      cases hc : p.2.2 with
      | one o =>
        rw [hc] at h
        have h : H p.2.1 = some (.tup (oneRow o)) := h
        exact o1 _ _ (fun z => by rw [← z, h] at hd; cases hd) h
      | iff s v o =>
        rw [hc] at h
        obtain ⟨b, h1, h2⟩ := h
        exact ⟨b, o1 _ _ (fun z => by rw [← z, h1] at hd; cases hd) h1, o1 _ _ (fun z => by rw [← z, h2] at hd; cases hd) h2⟩
    refine ⟨_, rfl, t, _, 2, _, rfl, rfl, SqT.of ht1, rfl, d, od, rfl, .inl ⟨kvs L, hd1, fun D' hD => ?_⟩⟩
    have nd := ok.chgs.nd
    refine lc_it walk_keys (fun i H' => ∃ Z : Prs', Same H1 H' ∧ H' D' = some (.lst (prefs Z)) ∧ MsAt K H' Z ∧ Z.map (fun q => (q.2.1, q.2.2.2)) = nc (L.take i)) ⟨[], same_upd hD, upd_same, (fun q hq => absurd hq List.not_mem_nil), rfl⟩ (fun i H' _ q => ?_) (fun i x H6 H7 hi q y => ?_) (fun H6 q => ?_)
    · obtain ⟨Z, s6, _⟩ := q
      exact s6 _ _ hd1
    · obtain ⟨Z, s6, hDZ, mZ, eZ⟩ := q
      obtain ⟨rfl, kx, vv, ekv, rfl⟩ := y
      have hiL : i < L.length := by rw [kvs_len] at hi; exact hi
      rw [kvs_at hiL] at ekv
      cases ekv
      have mem : L[i] ∈ L := List.getElem_mem hiL
      refine ⟨rfl, tyes (iteT ⟨_, rfl, _, rfl, t, _, 2, _, rfl, rfl, SqT.of (s6 _ _ ht1), rfl, _, rfl, d, V.ref L[i].2.1, rfl, .inl ⟨kvs L, Sum.inr L[i].1, .inr ⟨od, s6 _ _ hd1⟩, rfl, (valV_kvs nd hiL).symm⟩, L[i].2.1, L[i].2.2, rfl, (rows1 _ mem).kp (Keep.of s6), (ok.chgs.chg _ mem).1, fun z => (by cases z), fun H8 r s8 e8 => ?_⟩)⟩
      refine ⟨(by show 2 ≤ sizeLine; decide), fun q hq => ?_⟩
      have s9 : Same H8 _ := same_upd (o := .tup [V.str L[i].1, V.ref r]) hq
      have hD9 := s9 _ _ (s8 _ _ hDZ)
      have lz : (prefs Z).length = i := by
        have h1 : (prefs Z).length = (Z.map (fun q => (q.2.1, q.2.2.2))).length := by unfold prefs; rw [List.length_map, List.length_map, List.length_map]
        rw [h1, eZ, nc_len, List.length_take]
        omega
      refine ⟨_, hD9, small1000 (by rw [lz]; have := ok.chgs.hi; omega), Z ++ [(q, L[i].1, r, L[i].2.2)], fun b u e => ?_, ?_, ?_, ?_⟩
      · rw [upd_ne (ne_of_none e hD)]
        exact s9 _ _ (s8 _ _ (s6 _ _ e))
      · rw [upd_same]
        unfold prefs
        rw [List.map_append, List.map_append] <;> rfl
      · exact ((mZ.ext (s8.trans s9)).snoc upd_same (e8.ext s9)).upd hD9
      · rw [List.map_append, eZ]
        have e6 : L.take (i + 1) = L.take i ++ [L[i]] := by rw [List.take_add_one, List.getElem?_eq_getElem hiL] <;> rfl
        rw [e6]
        unfold nc
        rw [List.map_append] <;> rfl
    · obtain ⟨Z, s6, hDZ, mZ, eZ⟩ := q
      rw [kvs_len, List.take_length] at eZ
      refine ⟨s6 _ _ hd1, ?_⟩
      -- unlocked
      have sU : Same H (upd H6 d (.dK (kvs L))) := lock_same hd (by rw [hH]; exact s6)
      have nDd : D' ≠ d := fun z => by rw [z, hd1] at hD; cases hD
      have hD6 : upd H6 d (.dK (kvs L)) D' = some (.lst (prefs Z)) := by rw [upd_ne nDd]; exact hDZ
      have m6 : MsAt K (upd H6 d (.dK (kvs L))) Z := fun q hq => by
        have hf := s6 _ _ hd1
        refine ⟨?_, (mZ q hq).2.upd hf (fun _ _ _ z => by cases z)⟩
        rw [upd_ne (fun z => by have h1 := (mZ q hq).1; rw [z, hf] at h1; cases h1)]
        exact (mZ q hq).1
      generalize upd H6 d (.dK (kvs L)) = H7 at sU hD6 m6
      have eM : nc (Z.map (·.2)) = nc L := by
        rw [← eZ]
        unfold nc
        rw [List.map_map] <;> rfl
      have okM := ok.chgs.twin eM
      refine ⟨D', Z.map (fun q : Addr × Str × Addr × Chg => q.1), kvs (Z.map (fun q : Addr × Str × Addr × Chg => q.2)), rfl, SqL.of hD6, paired_of m6, fun p hp => ?_⟩
      have em : mergeK [] (kvs (Z.map (·.2))) = kvs (Z.map (·.2)) := by
        have := merge_new [] (Z.map (·.2)) (by rw [List.nil_append]; exact okM.nd)
        rw [List.nil_append] at this
        exact this
      rw [em]
      have s8 : Same H7 _ := same_upd (o := .dK (kvs (Z.map (·.2)))) hp
      have hp8 : upd H7 p (.dK (kvs (Z.map (·.2)))) p = _ := upd_same
      generalize upd H7 p (.dK (kvs (Z.map (·.2)))) = H8 at s8 hp8
      have sU8 := sU.trans s8
      intro x dx hx hdx ne
      have s9 : Same H8 (upd (upd H8 dx (.own x)) x (.ins (c_World K) dx [])) := (same_upd hdx).push (by rw [upd_ne (Ne.symm ne)]; exact hx)
      refine ⟨x, dx, l, p, n, S, Z.map (fun q : Addr × Str × Addr × Chg => q.2), rfl, ⟨ok.n1, ok.n3, ok.sts, okM⟩, upd_same, s9 _ _ (sU8 _ _ hl), (hS.ext sU8).ext s9, s9 _ _ hp8, fun q hq => ?_, fun H' hk W => ⟨rfl, kk H' x _ (sU8.trans (made_same hx hdx hk)) W eM⟩⟩
      obtain ⟨y, hy, rfl⟩ := List.mem_map.mp hq
      exact ((m6 y hy).2.ext s8).ext s9
end
end OP
namespace OP
open PySem PySem.Spec PyProof.Rows L2
theorem room65 {k : Nat} {A : Around} (r : Room k A) : A.units + 65 < cLine := by have := r.un; omega
theorem Keep.new {H0 H1 : Hp} (k : Keep H0 H1) {l : Addr} (hl : H1 l = none) : ∀ a u, NotSt u → H0 a = some u → a ≠ l := fun a u n e z => by
  have := k a u n e
  rw [z, hl] at this
  cases this
theorem Keep.upd {H0 H : Hp} {l : Addr} {x : HO} (k : Keep H0 H) (hl : ∀ a u, NotSt u → H0 a = some u → a ≠ l) : Keep H0 (upd H l x) := fun a u n e => by
  rw [upd_ne (hl a u n e)]
  exact k a u n e
/-- a list of drawn numbers -/
theorem lcR_ints {K : PySem.W.Frag} {n : Nat} {D st sc : Addr} {te : TE} {j : Nat} {σ : L2.St} {H1 : Hp} {Qd : Hp → Prop} (hD : H1 D = none) (hst : StAt K sc H1 st) (hsz : n ≤ 1000)
    (hs : ∀ (i : Nat) H (Qe : VK), Keep H1 H → StAt K sc H st → (∀ (v : Int) H', Keep H H' → StAt K sc H' st → 0 ≤ v → v ≤ 7 → Qe (.int v) H') → te ((wipe σ [j]).set j (some (.int (0 + (i : Int))))) H Qe)
    (hd : ∀ H (xs : List Int), Keep H1 H → StAt K sc H st → H D = some (.lst (xs.map V.int)) → xs.length = n → (∀ x ∈ xs, 0 ≤ x ∧ x ≤ 7) → Qd H)
    (hw : ∀ x, wipe ((wipe σ [j]).set j (some x)) [j] = wipe σ [j] := by intro _; rfl) : LcOk (Itr 0 n) (gName j) tYes te [j] σ H1 D Qd := by
  obtain ⟨n1, n2⟩ := hst.ne hD
  refine lc_it walk_range (fun i H => ∃ xs : List Int, Keep H1 H ∧ StAt K sc H st ∧ H D = some (.lst (xs.map V.int)) ∧ xs.length = i ∧ ∀ x ∈ xs, 0 ≤ x ∧ x ≤ 7) ⟨[], Keep.of (same_upd hD), hst.off n1 n2, upd_same, rfl, fun x hx => by cases hx⟩ (fun _ _ _ _ => trivial) (fun i x H H' hi q y => ?_) (fun H q => ?_)
  · obtain ⟨rfl, rfl⟩ := y
    obtain ⟨xs, k1, s1, e1, l1, b1⟩ := q
    refine ⟨hw _, tyes (iteT ?_)⟩
    refine hs i H' _ k1 s1 fun v H4 k4 s4 h0 h7 => ?_
    refine ⟨_, k4.ints e1, small1000 (by rw [List.length_map]; omega), xs ++ [v], ?_, s4.off n1 n2, ?_, by rw [List.length_append, l1] <;> rfl, fun z hz => ?_⟩
    · exact (k1.trans k4).upd ((Keep.refl H1).new hD)
    · rw [upd_same, List.map_append] <;> rfl
    · rcases List.mem_append.mp hz with z1 | z1
      · exact b1 z z1
      · obtain rfl := List.mem_singleton.mp z1
        exact ⟨h0, h7⟩
  · obtain ⟨xs, k1, s1, e1, l1, b1⟩ := q
    exact hd H xs k1 s1 e1 l1 b1
def allNames : List Str := ["up", "b", "c", "a"]
theorem any_eqv (S : List (List Int)) (xs : List Int) : ((S.map dT).any fun z => PyData.eqv z (dT xs)) = decide (xs ∈ S) := by
  induction S with
  | nil => rfl
  | cons y S ih =>
    rw [List.map_cons, List.any_cons, ih, eqv_T]
    by_cases h : y = xs
    · rw [decide_eq_true h, Bool.true_or, decide_eq_true (by rw [h]; exact List.mem_cons_self)]
    · rw [decide_eq_false h, Bool.false_or]
      refine decide_eq_decide.mpr ⟨fun z => List.mem_cons_of_mem _ z, fun z => ?_⟩
      rcases List.mem_cons.mp z with z | z
      · exact absurd z.symm h
      · exact z
theorem all_ok : ∀ x ∈ allNames, 1 ≤ x.length ∧ x.length ≤ 8 ∧ ∀ c ∈ x.cps.toList, c ∈ ("abcdefghijklmnopqrstuvwxyz" : Str).cps.toList := by decide +kernel
theorem all_nd : allNames.Nodup := by decide +kernel
section
variable {P : Program} {w : World} {K : PySem.W.Frag} {mg : Str → Option Value} {base : Heap} {sc : Addr}
def spDrawn (K : PySem.W.Frag) (sc : Addr) : Sp := fun vs H Q _ => ∃ (st : Addr), vs = [.ref st, .int 4] ∧ StAt K sc H st ∧
  ∀ H' t n S L m, Keep H H' → StAt K sc H' st → DrAt H' t n S L → WOk n S L → n ≤ 2 → 2 ≤ m → m ≤ 4 → names L = allNames.take m → Q (.ref t) H'
abbrev dNames : List Str := ["_law_state", "_law_most", "_law_slots", "_law_stores", "_law_rows", "_law_turn", "_law_store", "_law_at", "_law_name"]
theorem sc_drawn : FnScope dNames ["_law_state", "_law_most"] (defScope s__law_drawn) := ⟨rfl, rfl, rfl, by decide +kernel, rfl, by decide +kernel, by decide +kernel⟩
theorem ok_drawn (T : Txt K mg) : Ok P w K mg base (a__law_drawn K) ["_law_state", "_law_most"] 8 (spDrawn K sc) := by
  have GN : Ok P w K mg base (a__law_next K) _ 3 (spNext K sc) := ok_next T
  have GP : Ok P w K mg base (a__law_pick K) _ 4 (spPick K sc) := ok_pick T
  have GC : Ok P w K mg base (a__law_change K) _ 7 (spRow K sc 1) := ok_row1 T
  refine ok_of T.f__law_drawn sc_drawn (fun _ _ _ _ _ _ us hl => match us, hl with | [_, _], _ => rfl) (fun vs H Q E h => ?_) (fun cdv A outer s0 H vs Q E hr h => ?_)
  · obtain ⟨st, rfl, _⟩ := h
    rfl
  · obtain ⟨st, rfl, hst, kk⟩ := h
    have hr3 : Room 3 _ := hr.mono (by decide)
    have hr4 : Room 4 _ := hr.mono (by decide)
    have hu : _ + 65 < cLine := room65 hr
    refine ⟨_, pss_cons (ps_set (i := 2) sc_drawn.nd rfl (Or.inl rfl) (pe_op op_add pe_int (pe_c GN hr3 T.g__law_next (pa_cons (pv 0) (pa_cons pe_int pa_nil)))))
      (pss_cons (ps_par rfl sc_drawn.nd (i := 3) (j := 4) rfl rfl (by decide) rfl rfl (pa_cons (pe_lst pa_nil) (pa_cons pe_dnewK pa_nil)) (by rfl))
      (pss_cons (ps_for PassesOwn.never rfl (pi_range1 (by rfl) T.z_range (pa_cons (pe_op op_add pe_int (pe_c GN hr3 T.g__law_next (pa_cons (pv 0) (pa_cons pe_int pa_nil)))) pa_nil)) (pg_name (i := 5) sc_drawn.nd rfl (Or.inl rfl))
        (pss_cons (ps_set (i := 6) sc_drawn.nd rfl (Or.inl rfl) (pe_tupleOf (by rfl) T.z_tuple (pe_lc (own := [("_law_at", 7)]) (g := gName 7) (tt := tYes) rfl sc_drawn.nd (pi_range1 (by rfl) T.z_range (pa_cons (pv 2) pa_nil)) (blkOk_by (own := [("_law_at", 7)]) (N := dNames) (sc := defScope s__law_drawn) (by decide +kernel))
          (fun _ _ _ _ _ => pg_name (i := 7) sc_drawn.nd rfl (Or.inl rfl)) (fun _ _ _ _ _ => pts_nil)
          (fun _ _ _ _ _ => pe_c GP hr4 T.g__law_pick (pa_cons (pv 0) (pa_cons (pe_lst (pa_cons pe_int (pa_cons pe_int (pa_cons (pe_c GN hr3 T.g__law_next (pa_cons (pv 0) (pa_cons pe_int pa_nil))) pa_nil)))) pa_nil))))))
        (pss_one (ps_if (pt_cmpR (op_notInD hu) (pv 6) (pv 3) (by rfl)) (pss_one (ps_expr (pe_bm PySem.F.plainAttrs_list PySem.F.slot_list_append PySem.F.type_list_append mt_append (pv 3) (pa_cons (pv 6) pa_nil)))) pss_nil))))
      (pss_cons (ps_for PassesOwn.never rfl (pi_list (pe_slice sl_list (pe_lst (pa_cons pe_str (pa_cons pe_str (pa_cons pe_str (pa_cons pe_str pa_nil))))) po_none (po_some (pe_op op_add pe_int (pe_c GN hr3 T.g__law_next (pa_cons (pv 0) (pa_cons (pe_op op_sub (pv 1) pe_int) pa_nil))))))) (pg_name (i := 8) sc_drawn.nd rfl (Or.inl rfl))
        (pss_one (ps_dput (hu_of hr) (pv 4) (pv 8) (pe_c GC hr T.g__law_change (pa_cons (pv 0) (pa_cons (pv 2) (pa_cons pe_int pa_nil)))) rfl)))
      (pss_one (ps_ret (pe_tup (pa_cons (pv 2) (pa_cons (pv 3) (pa_cons (pv 4) pa_nil))))))))), ?_⟩
    refine ⟨_, rfl, st, 2, rfl, by decide, hst, fun H1 k1 st1 v1 a1 b1 => ⟨_, _, rfl, rfl, ?_⟩⟩
    obtain ⟨n, en⟩ := nat_of (v := 1 + v1) (by omega)
    have hn1 : 1 ≤ n := by omega
    have hn2 : n ≤ 2 := by omega
    show tSeq _ _ _ (((L2.start dNames [.ref st, .int 4]).set 2 (some (V.int (1 + v1))))) H1
    rw [en]
    refine ⟨(by show 0 ≤ sizeLine; exact Nat.zero_le _), fun l hl => fun d hd => ⟨_, _, rfl, ?_⟩⟩
    have s1 : Same H1 _ := same_upd (o := .lst []) hl
    have dl : d ≠ l := fun z => by rw [z, upd_same] at hd; cases hd
    have hd1 : H1 d = none := by rw [upd_ne dl] at hd; exact hd
    obtain ⟨l1, l2⟩ := st1.ne hl
    obtain ⟨d1, d2⟩ := st1.ne hd1
    have newl := k1.new hl
    have newd := k1.new hd1
    have s2 : Same H1 (upd (upd H1 l (.lst [])) d (.dK [])) := s1.push hd
    have hl2 : upd (upd H1 l (.lst [])) d (.dK []) l = some (.lst []) := by rw [upd_ne (Ne.symm dl), upd_same]
    have hd2 : upd (upd H1 l (.lst [])) d (.dK []) d = some (.dK []) := upd_same
    have k2 : Keep H (upd (upd H1 l (.lst [])) d (.dK [])) := k1.trans (Keep.of s2)
    have st2 := st1.ext s2
    generalize upd (upd H1 l (.lst [])) d (.dK []) = H2 at hl2 hd2 k2 st2
    refine ⟨_, rfl, st, 3, rfl, by decide, st2, fun H3 k3 st3 v3 a3 b3 => ⟨_, _, rfl, rfl, 1 + v3, rfl, by omega, by omega, ?_⟩⟩
    refine for_range (fun i σ H' => i ≤ (1 + v3).toNat ∧ ∃ (S : Sts) (v5 v6 : Option V), σ = [some (.ref st), some (.int 4), some (.int n), some (.ref l), some (.ref d), v5, v6, none, none] ∧ Keep H H' ∧ StAt K sc H' st ∧ H' l = some (.lst (refs S)) ∧ H' d = some (.dK []) ∧ StsAt H' S ∧ (∀ p ∈ S, StoreOk p.2 ∧ p.2.length = n) ∧ (S.map (·.2)).Nodup ∧ S.length ≤ i ∧ (1 ≤ i → 1 ≤ S.length))
      ⟨Nat.zero_le _, [], none, none, rfl, k2.trans k3, st3, k3 _ _ (fun _ _ _ z => by cases z) hl2, k3.dK hd2, (fun p hp => absurd hp List.not_mem_nil), (fun p hp => absurd hp List.not_mem_nil), List.nodup_nil, Nat.le_refl _, fun z => by omega⟩ (fun i σ H4 hi q => ?_) fun σ H4 q => ?_
    · obtain ⟨_, S, v5, v6, rfl, k4, st4, hl4, hd4, hS4, each, nd, len, pos⟩ := q
      refine ⟨_, rfl, n, rfl, by omega, by omega, fun D hD => ?_⟩
      refine lcR_ints (K := K) (st := st) (sc := sc) hD st4 (by omega) (fun j H5 Qe k5 st5 kq => ?_) fun H5 xs k5 st5 e5 len5 bd5 => ?_
      · refine ⟨_, rfl, _, rfl, st, 8, rfl, by decide, st5, fun H6 k6 st6 v6 a6 b6 => ⟨(by show 3 ≤ sizeLine; decide), fun t6 ht6 => ?_⟩⟩
        have s7 : Same H6 _ := same_upd (o := .lst [.int 0, .int 1, .int v6]) ht6
        refine ⟨st, t6, [.int 0, .int 1, .int v6], rfl, List.cons_ne_nil _ _, st6.ext s7, upd_same, notSt_ints [0, 1, v6], fun H8 k8 st8 x hx => ?_⟩
        have k58 := (k6.trans (Keep.of s7)).trans k8
        simp only [List.mem_cons, List.not_mem_nil, or_false] at hx
        rcases hx with rfl | rfl | rfl
        · exact kq 0 H8 k58 st8 (by decide) (by decide)
        · exact kq 1 H8 k58 st8 (by decide) (by decide)
        · exact kq v6 H8 k58 st8 a6 (by omega)
      · refine .inl ⟨D, _, rfl, SqL.of e5, fun q hq => ?_⟩
        have s6 : Same H5 _ := same_upd (o := .tup (xs.map V.int)) hq
        have q6 : upd H5 q (.tup (xs.map V.int)) q = _ := upd_same
        have k6 := (k4.trans k5).trans (Keep.of s6)
        have st6 := st5.ext s6
        have l6 := s6 _ _ (k5 _ _ (notSt_refs _ S) hl4)
        have d6 := s6 _ _ (k5.dK hd4)
        have S6 := (hS4.kp k5).ext s6
        generalize upd H5 q (.tup (xs.map V.int)) = H6 at q6 k6 st6 l6 d6 S6
        refine ⟨_, rfl, _, rfl, dT xs, _, dp_T q6, dp_Ts l6 S6, shp_T _, shp_Ts _, _, rfl, ?_⟩
        rw [any_eqv]
        have sok : StoreOk xs ∧ xs.length = n := ⟨⟨by omega, by omega, bd5⟩, len5⟩
        by_cases hin : xs ∈ S.map (·.2)
        · rw [decide_eq_true hin]
          refine iteF ⟨by omega, S, _, _, rfl, k6, st6, l6, d6, S6, each, nd, by omega, fun _ => ?_⟩
          obtain ⟨p, hp, _⟩ := List.mem_map.mp hin
          exact List.length_pos_of_mem hp
        · rw [decide_eq_false hin]
          refine iteT ⟨_, rfl, .inl ⟨rfl, _, SqL.of l6⟩, _, rfl, l, _, _, rfl, rfl, l6, small1000 (by rw [List.length_map]; omega), ?_⟩
          refine ⟨by omega, S ++ [(q, xs)], _, _, rfl, k6.upd newl, st6.off l1 l2, ?_, ?_, (S6.snoc q6).off l6, fun p hp => ?_, ?_, ?_, fun _ => ?_⟩
          · rw [upd_same]
            unfold refs
            rw [List.map_append] <;> rfl
          · rw [upd_ne dl]
            exact d6
          · rcases List.mem_append.mp hp with z | z
            · exact each p z
            · obtain rfl := List.mem_singleton.mp z
              exact sok
          · rw [List.map_append]
            exact List.nodup_append.mpr ⟨nd, List.nodup_cons.mpr ⟨List.not_mem_nil, List.nodup_nil⟩, fun a ha b hb => by
              obtain rfl := List.mem_singleton.mp hb
              exact fun z => hin (by rw [← z]; exact ha)⟩
          · rw [List.length_append, List.length_singleton]; omega
          · rw [List.length_append, List.length_singleton]; omega
    · obtain ⟨_, S, v5, v6, rfl, k4, st4, hl4, hd4, hS4, each, nd, len, pos⟩ := q
      have S1 : 1 ≤ S.length := pos (by omega)
      have S8 : S.length ≤ 8 := by omega
      refine ⟨(by show 4 ≤ sizeLine; decide), fun a ha => ⟨_, rfl, _, rfl, _, _, rfl, rfl, st, 3, rfl, by decide, st4.ext (same_upd ha), fun H5 k5 st5 v7 a7 b7 => ⟨_, _, rfl, rfl, ?_⟩⟩⟩
      refine ⟨2 + v7, rfl, a, allNames.map V.str, rfl, SqL.of (k5.strs (ns := allNames) upd_same), fun p hp => ?_⟩
      obtain ⟨m, em⟩ := nat_of (v := 2 + v7) (by omega)
      have m2 : 2 ≤ m := by omega
      have m4 : m ≤ 4 := by omega
      have cut : cutV (allNames.map V.str) none (some (2 + v7)) = (allNames.take m).map V.str := by
        rw [em]
        have all : ∀ m : Nat, m ≤ 4 → cutV (allNames.map V.str) none (some (m : Int)) = (allNames.take m).map V.str := by decide +kernel
        exact all m m4
      rw [cut]
      have s6 : Same H5 _ := same_upd (o := .lst ((allNames.take m).map V.str)) hp
      have p6 : upd H5 p (.lst ((allNames.take m).map V.str)) p = _ := upd_same
      have k46 := ((Keep.of (same_upd ha)).trans k5).trans (Keep.of s6)
      have k6 := k4.trans k46
      have st6 := st5.ext s6
      have l6 := k46 _ _ (notSt_refs _ S) hl4
      have d6 := k46.dK hd4
      have S6 := hS4.kp k46
      generalize upd H5 p (.lst ((allNames.take m).map V.str)) = H6 at p6 k6 st6 l6 d6 S6
      have hm : ((allNames.take m).map V.str).length = m := by
        rw [List.length_map, List.length_take]
        show min m 4 = m
        omega
      refine ⟨p, rfl, ⟨_, SqL.of p6⟩, for_list (K := K) (a := p) (xs := (allNames.take m).map V.str) (fun i σ H' => ∃ (L : Rws) (v8 : Option V), σ = [some (.ref st), some (.int 4), some (.int n), some (.ref l), some (.ref d), v5, v6, none, v8] ∧ Keep H H' ∧ StAt K sc H' st ∧ H' p = some (.lst ((allNames.take m).map V.str)) ∧ H' l = some (.lst (refs S)) ∧ H' d = some (.dK (kvs L)) ∧ StsAt H' S ∧ RowsAt H' L ∧ names L = (allNames.take m).take i ∧ ∀ q ∈ L, q.2.2.Ok ∧ Fits n q.2.2)
        ⟨[], none, rfl, k6, st6, p6, l6, d6, S6, (fun q hq => absurd hq List.not_mem_nil), rfl, (fun q hq => absurd hq List.not_mem_nil)⟩ (fun i σ H' _ q => ?_) (fun i x σ H' hx q => ?_) fun σ H' q => ?_⟩
      · obtain ⟨_, _, _, _, _, p7, _⟩ := q
        exact SqL.of p7
      · obtain ⟨L, v8, rfl, k7, st7, p7, l7, d7, S7, R7, nm, okL⟩ := q
        obtain ⟨y, hy, rfl⟩ := strs_at' hx
        refine ⟨_, rfl, _, rfl, st, n, rfl, hn1, hn2, st7, fun H8 r c k8 st8 row ok8 fit8 _ => ?_⟩
        have lenL : L.length ≤ 4 := by
          have h1 : L.length = (names L).length := (List.length_map ..).symm
          rw [h1, nm, List.length_take, List.length_take]
          omega
        have yn : y ∉ names L := fun z => by
          rw [nm] at z
          obtain ⟨j, hj, ej⟩ := List.mem_take_iff_getElem.mp z
          have ndt : (allNames.take m).Nodup := all_nd.sublist (List.take_sublist _ _)
          obtain ⟨hi, ei⟩ := List.getElem?_eq_some_iff.mp hy
          have := (List.getElem_inj ndt).mp (ej.trans ei.symm)
          omega
        refine ⟨_, rfl, _, rfl, d, _, rfl, DPut.k (k := Sum.inr y) (k8.dK d7) (small1000 (by rw [kvs_len]; omega)), ?_⟩
        have d8 := k8.dK d7
        have pu : putK (kvs L) (Sum.inr y : Key) (V.ref r) = kvs (L ++ [(y, r, c)]) := by
          rw [putK_new _ (valV_not yn)]
          unfold kvs
          rw [List.map_append] <;> rfl
        rw [pu]
        have off : ∀ {b : Addr} {u : HO}, H8 b = some u → (∀ kv, u ≠ .dK kv) → upd H8 d (.dK (kvs (L ++ [(y, r, c)]))) b = some u := fun {b u} e n => by
          rw [upd_ne (fun z => by rw [z, d8] at e; exact n _ (Option.some.inj e).symm)]
          exact e
        have rowU : ∀ {b : Addr} {e : Chg}, RowAt H8 b e → RowAt (upd H8 d (.dK (kvs (L ++ [(y, r, c)])))) b e := fun {b e} h => by
          cases e with
          | one o => exact off h (fun _ z => by cases z)
          | iff s v o =>
            obtain ⟨b2, h1, h2⟩ := h
            exact ⟨b2, off h1 (fun _ z => by cases z), off h2 (fun _ z => by cases z)⟩
        refine ⟨L ++ [(y, r, c)], _, rfl, (k7.trans k8).upd newd, st8.off d1 d2, off (k8.strs p7) (fun _ z => by cases z), off (k8 _ _ (notSt_refs _ S) l7) (fun _ z => by cases z), upd_same, fun q hq => off (k8.tup (S7 q hq)) (fun _ z => by cases z), fun q hq => ?_, ?_, fun q hq => ?_⟩
        · rcases List.mem_append.mp hq with z | z
          · exact rowU ((R7 q z).kp k8)
          · obtain rfl := List.mem_singleton.mp z
            exact rowU row
        · unfold names at nm ⊢
          rw [List.map_append, nm, List.take_add_one, hy] <;> rfl
        · rcases List.mem_append.mp hq with z | z
          · exact okL q z
          · obtain rfl := List.mem_singleton.mp z
            exact ⟨ok8, fit8⟩
      · obtain ⟨L, v8, rfl, k7, st7, p7, l7, d7, S7, R7, nm, okL⟩ := q
        rw [hm, List.take_of_length_le (by rw [List.length_take]; omega)] at nm
        refine ⟨_, rfl, _, rfl, _, rfl, (by show 3 ≤ sizeLine; decide), fun t ht => ?_⟩
        have s8 : Same H' _ := same_upd (o := .tup [.int n, .ref l, .ref d]) ht
        refine kk _ t n S L m (k7.trans (Keep.of s8)) (st7.ext s8) ⟨⟨l, d, upd_same, s8 _ _ l7, s8 _ _ d7⟩, S7.ext s8, R7.kp (Keep.of s8)⟩ ⟨hn1, by omega, ⟨S1, S8, each, nd⟩, ⟨?_, ?_, fun q hq => ?_, fun q hq => okL q hq, ?_⟩⟩ hn2 m2 m4 nm
        · have h1 : L.length = (names L).length := (List.length_map ..).symm
          rw [h1, nm, List.length_take]
          show 2 ≤ min m 4
          omega
        · have h1 : L.length = (names L).length := (List.length_map ..).symm
          rw [h1, nm, List.length_take]
          show min m 4 ≤ 4
          omega
        · have mem : q.1 ∈ names L := List.mem_map.mpr ⟨q, hq, rfl⟩
          rw [nm] at mem
          obtain ⟨h1, h2, h3⟩ := all_ok _ (List.mem_of_mem_take mem)
          exact ⟨h1, h2, h3⟩
        · rw [nm]
          exact all_nd.sublist (List.take_sublist _ _)
end
end OP
namespace OP
open PySem PySem.Spec PyProof.Rows L2 LamX
/-! ### all sets, put in order -/
def subs (ys : List Str) : List (List Str) := ys.foldl (fun acc y => acc ++ acc.map (· ++ [y])) [[]]
theorem subs_take {ys : List Str} {i : Nat} (h : i < ys.length) : subs (ys.take (i + 1)) = subs (ys.take i) ++ (subs (ys.take i)).map (· ++ [ys[i]]) := by
  unfold subs
  rw [List.take_add_one, List.getElem?_eq_getElem h, Option.toList_some, List.foldl_append]
  rfl
def keyD (ys : List Str) (one : List Str) : PyData := .tuple [.int one.length, .list (one.map fun y => PyData.int (ys.idxOf y))]
def rank (ys : List Str) (z : List Str) : Nat := (setsOf ys).idxOf z
structure SubOk (ys : List Str) : Prop where
  le : ∀ a ∈ subs ys, ∀ b ∈ subs ys, PySem.W.dataLe false (keyD ys) a b = decide (rank ys a ≤ rank ys b)
  perm : (setsOf ys).Perm (subs ys)
  alike : ∀ a ∈ subs ys, ∀ b ∈ subs ys, PySem.W.alike (keyD ys a) (keyD ys b) = true
  sorted : (setsOf ys).Pairwise fun a b => decide (rank ys a ≤ rank ys b) = true
  mem : ∀ a ∈ subs ys, a.length ≤ 4 ∧ ∀ y ∈ a, y ∈ ys
  len : ∀ i, i ≤ ys.length → (subs (ys.take i)).length ≤ 16
  len4 : ∀ i, i ≤ ys.length → ∀ a ∈ subs (ys.take i), a.length ≤ 4
theorem sub2 : SubOk (allNames.take 2) := ⟨by decide +kernel, by decide +kernel, by decide +kernel, by decide +kernel, by decide +kernel, by decide +kernel, by decide +kernel⟩
theorem sub3 : SubOk (allNames.take 3) := ⟨by decide +kernel, by decide +kernel, by decide +kernel, by decide +kernel, by decide +kernel, by decide +kernel, by decide +kernel⟩
theorem sub4 : SubOk (allNames.take 4) := ⟨by decide +kernel, by decide +kernel, by decide +kernel, by decide +kernel, by decide +kernel, by decide +kernel, by decide +kernel⟩
theorem sub_ok {m : Nat} (h2 : 2 ≤ m) (h4 : m ≤ 4) : SubOk (allNames.take m) := by
  obtain rfl | rfl | rfl : m = 2 ∨ m = 3 ∨ m = 4 := by omega
  · exact sub2
  · exact sub3
  · exact sub4
theorem sort_sets {ys : List Str} (h : SubOk ys) : (subs ys).mergeSort (PySem.W.dataLe false (keyD ys)) = setsOf ys := by
  have e1 : (subs ys).mergeSort (PySem.W.dataLe false (keyD ys)) = (subs ys).mergeSort fun a b => decide (rank ys a ≤ rank ys b) := by
    have := List.map_mergeSort (r := PySem.W.dataLe false (keyD ys)) (s := fun a b => decide (rank ys a ≤ rank ys b)) (f := id) (l := subs ys) h.le
    rw [List.map_id, List.map_id] at this
    exact this
  rw [e1]
  refine List.Perm.eq_of_pairwise (le := fun a b => decide (rank ys a ≤ rank ys b) = true) (fun a b ha hb h1 h2 => ?_) (List.pairwise_mergeSort (fun a b c x y => ?_) (fun a b => ?_) _) h.sorted ((List.mergeSort_perm _ _).trans h.perm.symm)
  · have e : rank ys a = rank ys b := Nat.le_antisymm (of_decide_eq_true h1) (of_decide_eq_true h2)
    have ma : a ∈ setsOf ys := h.perm.symm.mem_iff.mp ((List.mergeSort_perm _ _).mem_iff.mp ha)
    unfold rank at e
    have g1 := List.getElem_idxOf (List.idxOf_lt_length_of_mem ma)
    have g2 := List.getElem_idxOf (List.idxOf_lt_length_of_mem hb)
    rw [← g1, ← g2]
    congr 1
  · exact decide_eq_true (Nat.le_trans (of_decide_eq_true x) (of_decide_eq_true y))
  · rcases Nat.le_total (rank ys a) (rank ys b) with z | z
    · rw [decide_eq_true z, Bool.true_or]
    · rw [decide_eq_true z, Bool.or_true]
end OP
namespace OP
open PySem PySem.Spec PyProof.Rows L2 LamX
section
variable {X : Cx}
theorem tbmK {T : String} {r : V → List V → Hp → VK → Prop} {to : TE} {t : TA} {e : Expr} (K : PySem.W.Frag) (h : PE X e (tBM X.K T r to t)) (hK : X.K = K := by rfl) : PE X e (tBM K T r to t) := by
  subst hK
  exact h
theorem pi_tupK {tg e : Expr} {te : TE} (K : PySem.W.Frag) (h : PE X e te) (hK : X.K = K := by rfl) : PI X tg e (iTup K te) := by
  subst hK
  exact pi_tup h
theorem mt_indexK (K : PySem.W.Frag) (hK : X.K = K := by rfl) : MtR X "list.index" (rIndex K) := by
  subst hK
  exact mt_index
end
abbrev lamScope : Scope := { kind := .function, names := [("_law_one", .local), ("_law_names", .free), ("len", .globalImplicit)], isGenerator := false, isCoroutine := false, more := [("fast", .str "_law_one"), ("fast", .str "_law_name"), ("fast", .str "_law_names")] }
abbrev lamQ : Str := (envOfC "_law_sets" (defScope s__law_sets) 0 0 .none).qual ++ "<lambda>"
/-- the def that sorts by a lambda: its code object's table -/
structure LamTab (K : PySem.W.Frag) (mg : Str → Option Value) (base : Heap) (P : Addr) : Prop where
  ex : ∃ (oc : Value) (od : Option Addr) (kV doc pm : Value) (an : Option Addr) (ct : Value) (osl : Array (Option Value)) (c : Addr),
    K.lookup (a__law_sets K) = some ⟨oc, od, .func (PySem.W.fnOf "_law_sets" "_law_sets" (defArgs s__law_sets) (defBody s__law_sets) (defScope s__law_sets) .none kV doc pm an (.ref c) ct), osl⟩ ∧ PySem.W.codeIn K (.ref c) "_law_sets" = true ∧ LamX.TabB base mg c P
  kp : PySem.W.keepIn K (.ref (a__law_sets K)) = true
def keyOf (ys : List Str) (Z : Nts) (v : V) : PyData := match Z.find? (fun p => decide (V.ref p.1 = v)) with
  | some p => keyD ys p.2
  | none => .none
theorem strs_inj : ∀ {xs ys : List Str}, xs.map V.str = ys.map V.str → xs = ys
  | [], [], _ => rfl
  | [], _ :: _, h => by cases h
  | _ :: _, [], h => by cases h
  | x :: xs, y :: ys, h => by
    obtain ⟨h1, h2⟩ := List.cons.inj h
    rw [V.str.inj h1, strs_inj h2]
theorem keyOf_at {ys : List Str} {Z : Nts} {H : Hp} (h : NtsAt H Z) {p : Addr × List Str} (hp : p ∈ Z) : keyOf ys Z (.ref p.1) = keyD ys p.2 := by
  unfold keyOf
  cases e : Z.find? (fun q => decide (V.ref q.1 = V.ref p.1)) with
  | none =>
    have z := List.find?_eq_none.mp e p hp
    simp at z
  | some q =>
    have e0 := List.find?_some e
    simp only [decide_eq_true_eq] at e0
    have e1 : q.1 = p.1 := V.ref.inj e0
    have h1 := h q (List.mem_of_find?_eq_some e)
    rw [e1, h p hp] at h1
    injection h1 with h1
    injection h1 with h1
    show keyD ys q.2 = _
    rw [strs_inj h1]
theorem keyD_depth (ys one : List Str) : (keyD ys one).depth ≤ 2 := by
  have e : PyData.depthAll (one.map fun y => PyData.int (ys.idxOf y)) = 0 := by
    induction one with
    | nil => rfl
    | cons y one ih => simp only [List.map_cons, PyData.depthAll, PyData.depth, ih, Nat.max_self]
  unfold keyD
  simp only [PyData.depth, PyData.depthAll, e]
  decide
theorem dp_map {K : PySem.W.Frag} {H : Hp} {α : Type} (f : α → Int) : ∀ xs : List α, DpAll K H (xs.map fun y => V.int (f y)) (xs.map fun y => PyData.int (f y))
  | [] => .nil
  | x :: xs => .cons (.int _) (dp_map f xs)
theorem NtsAt.exn {H H' : Hp} {Z : Nts} (e : ExtN H H') (h : NtsAt H Z) : NtsAt H' Z := fun p hp => e _ _ (h p hp) (fun _ z => by cases z)
theorem NtsAt.off {H : Hp} {A : Nts} {D : Addr} {ys : List V} {o : HO} (hd : H D = some (.lst ys)) (h : NtsAt H A) : NtsAt (upd H D o) A := fun p hp => by
  rw [upd_ne (tup_ne (h p hp) hd)]
  exact h p hp
theorem nrefs_len (Z : Nts) : (nrefs Z).length = Z.length := List.length_map ..
section
variable {P : Program} {w : World} {K : PySem.W.Frag} {mg : Str → Option Value} {base : Heap}
def spLSets (K : PySem.W.Frag) (Pt : Addr) : Sp := fun vs H Q _ => ∃ (l : Addr) (m : Nat), vs = [.ref l] ∧ 2 ≤ m ∧ m ≤ 4 ∧ H l = some (.lst ((allNames.take m).map V.str)) ∧ Tabs [(Pt, lamQ)] H ∧
  ∀ (H' : Hp) (r : Addr) (Z : Nts), ExtN H H' → Tabs [(Pt, lamQ)] H' → H' r = some (.lst (nrefs Z)) → NtsAt H' Z → Z.map (·.2) = setsOf (allNames.take m) → Q (.ref r) H'
abbrev sNames : List Str := ["_law_names", "_law_found", "_law_name", "_law_one"]
theorem sc_lsets : FnScope sNames ["_law_names"] (defScope s__law_sets) := ⟨rfl, rfl, rfl, by decide +kernel, rfl, by decide +kernel, by decide +kernel⟩
theorem ok_lsets (T : Txt K mg) {Pt : Addr} (LT : LamTab K mg base Pt) : Ok P w K mg base (a__law_sets K) ["_law_names"] 5 (spLSets K Pt) := by
  obtain ⟨⟨oc, od, kV, doc, pm, an, ct, osl, c, lk, hcd, TB⟩, kp⟩ := LT
  refine ⟨⟨_, fn_of lk hcd sc_lsets (fun vs H Q E h => ?_) (fun A outer s H vs Q E hr h => ?_), .all (fun us hl => match us, hl with | [_], _ => rfl)⟩, kp⟩
  · obtain ⟨l, m, rfl, _⟩ := h
    rfl
  · obtain ⟨l, m, rfl, m2, m4, hl, tabs, kk⟩ := h
    have hr3 : Room 3 _ := hr.mono (by decide)
    suffices h : ∃ t, PSs (cxOf CX0 P w K mg base sNames "_law_sets" (defScope s__law_sets) (a__law_sets K) (.ref c) A outer s H E).nox (defBody s__law_sets) t ∧ t { nx := fun _ H' => Q .non H', rt := Q } (start sNames [.ref l]) H by
      obtain ⟨t, h, q⟩ := h
      exact ⟨t, h.nox, q⟩
    refine ⟨_, pss_cons (ps_set (i := 1) sc_lsets.nd rfl (Or.inl rfl) (pe_lst (pa_cons (pe_tup pa_nil) pa_nil)))
      (pss_cons (ps_for PassesOwn.never rfl (pi_list (pv 0)) (pg_name (i := 2) sc_lsets.nd rfl (Or.inr rfl)) (pss_one (ps_set (i := 1) sc_lsets.nd rfl (Or.inl rfl) (pe_op op_cat (pv 1) (pe_lc (own := [("_law_one", 3)]) (g := gName 3) (tt := tYes) rfl sc_lsets.nd (pi_list (pv 1)) (blkOk_by (own := [("_law_one", 3)]) (N := sNames) (sc := defScope s__law_sets) (by decide +kernel))
        (fun _ _ _ _ _ => pg_name (i := 3) sc_lsets.nd rfl (Or.inl rfl)) (fun _ _ _ _ _ => pts_nil)
        (fun _ _ _ _ _ => pe_op (op_catAK K) (pv 3) (pe_tup (pa_cons (pv 2) pa_nil))))))))
      (pss_one (ps_ret (pe_sortLam (T := [(Pt, lamQ)]) (c := c) (P := Pt) (k := 0) (j := 3) (a := "_law_one") (pa_cons (pv 1) pa_nil) (by rfl) T.z_sorted (by decide +kernel) TB rfl (List.mem_singleton.mpr rfl) (fun q hq _ => by obtain rfl := List.mem_singleton.mp hq; rfl) hr3 (lam1_by (sc := defScope s__law_sets) (scope := lamScope) (by decide +kernel)) rfl sc_lsets.nd rfl (fun _ _ _ _ _ _ => rfl)
        (fun A' s' H' f c' hr' => pe_tup (pa_cons (pe_callB (call_ln K) (by rfl) T.z_len PySem.boot_len (pa_cons (pv 3) pa_nil)) (pa_cons (pe_lc (own := [("_law_name", 2)]) (g := gName 2) (tt := tYes) rfl sc_lsets.nd (pi_tupK K (pv 3)) (blkOk_by (own := [("_law_name", 2)]) (N := sNames) (sc := lamScope) (by decide +kernel))
          (fun _ _ _ _ _ => pg_name (i := 2) sc_lsets.nd rfl (Or.inl rfl)) (fun _ _ _ _ _ => pts_nil)
          (fun _ _ _ _ _ => tbmK K (pe_bm PySem.F.plainAttrs_list PySem.F.slot_list_index PySem.F.type_list_index (mt_indexK K) (pv 0) (pa_cons (pv 2) pa_nil)))) pa_nil))))))), ?_⟩
    have so := sub_ok m2 m4
    generalize hys : allNames.take m = ys at hl kk so
    have ysn : ys.Nodup := by rw [← hys]; exact all_nd.sublist (List.take_sublist _ _)
    have hml : (ys.map V.str).length = ys.length := List.length_map ..
    refine ⟨(by show 0 ≤ sizeLine; exact Nat.zero_le _), fun t ht => ⟨(by show 1 ≤ sizeLine; decide), fun f hf => ?_⟩⟩
    have s1 : Same H _ := same_upd (o := .tup []) ht
    have s2 : Same H _ := s1.push (o := .lst [V.ref t]) hf
    refine ⟨_, rfl, l, rfl, ⟨_, SqL.of (s2 _ _ hl)⟩, for_list (K := K) (a := l) (xs := ys.map V.str) (fun i σ H' => ∃ (f : Addr) (Z : Nts) (v2 : Option V), σ = [some (.ref l), some (.ref f), v2, none] ∧ Same H H' ∧ H' f = some (.lst (nrefs Z)) ∧ NtsAt H' Z ∧ Z.map (·.2) = subs (ys.take i))
      ⟨f, [(t, [])], none, rfl, s2, upd_same, fun p hp => ?_, rfl⟩ (fun i σ H' _ q => ?_) (fun i x σ H1 hx q => ?_) fun σ H1 q => ?_⟩
    · obtain rfl := List.mem_singleton.mp hp
      show upd _ f _ t = _
      rw [upd_ne (ne_of_none upd_same hf)]
      exact upd_same
    · obtain ⟨_, _, _, _, s3, _⟩ := q
      exact SqL.of (s3 _ _ hl)
    · obtain ⟨f, Z, v2, rfl, s3, hf, hZ, eZ⟩ := q
      obtain ⟨y, hy, rfl⟩ := strs_at' hx
      have hil : i < ys.length := (List.getElem?_eq_some_iff.mp hy).1
      have eyi : ys[i] = y := (List.getElem?_eq_some_iff.mp hy).2
      have zl : Z.length ≤ 16 := by
        have h1 : Z.length = (Z.map (·.2)).length := (List.length_map ..).symm
        rw [h1, eZ]
        exact so.len i (Nat.le_of_lt hil)
      refine ⟨_, rfl, _, rfl, f, rfl, ⟨_, SqL.of hf⟩, fun D hD => ?_⟩
      refine lc_it (walk_list (K := K) (a := f) (xs := nrefs Z)) (fun j H' => ∃ Z2 : Nts, Same H1 H' ∧ H' D = some (.lst (nrefs Z2)) ∧ NtsAt H' Z2 ∧ Z2.map (·.2) = ((Z.map (·.2)).take j).map (· ++ [y])) ⟨[], same_upd hD, upd_same, (fun p hp => absurd hp List.not_mem_nil), by rw [List.take_zero] <;> rfl⟩ (fun j H' _ q => ?_) (fun j x H2 H3 hj q yy => ?_) (fun H2 q => ?_)
      · obtain ⟨_, s4, _⟩ := q
        exact SqL.of (s4 _ _ hf)
      · obtain ⟨Z2, s4, hD4, hZ4, eZ4⟩ := q
        obtain ⟨rfl, hxj⟩ := yy
        have hjZ : j < Z.length := by rw [nrefs_len] at hj; exact hj
        unfold nrefs at hxj
        rw [List.getElem?_map, List.getElem?_eq_getElem hjZ] at hxj
        obtain rfl := (Option.some.inj hxj).symm
        have mem : Z[j] ∈ Z := List.getElem_mem hjZ
        have hq : H3 Z[j].1 = some (.tup (Z[j].2.map V.str)) := s4 _ _ (hZ _ mem)
        have l4 : Z[j].2.length ≤ 4 := so.len4 i (Nat.le_of_lt hil) _ (by rw [← eZ]; exact List.mem_map.mpr ⟨Z[j], mem, rfl⟩)
        have lz2 : Z2.length = j := by
          have h1 : Z2.length = (Z2.map (·.2)).length := (List.length_map ..).symm
          rw [h1, eZ4, List.length_map, List.length_take, List.length_map]
          omega
        have step : ∀ (H7 : Hp) (q : Addr), Same H3 H7 → H7 q = some (.tup ((Z[j].2 ++ [y]).map V.str)) → ∃ acc, H7 D = some (.lst acc) ∧ acc.length < sizeLine ∧ ∃ Z2 : Nts, Same H1 (upd H7 D (.lst (acc ++ [V.ref q]))) ∧ upd H7 D (.lst (acc ++ [V.ref q])) D = some (.lst (nrefs Z2)) ∧ NtsAt (upd H7 D (.lst (acc ++ [V.ref q]))) Z2 ∧ Z2.map (·.2) = ((Z.map (·.2)).take (j + 1)).map (· ++ [y]) := fun H7 q s7 hq7 => by
          have e1 := s7 _ _ hD4
          refine ⟨_, e1, small1000 (by rw [nrefs_len]; omega), Z2 ++ [(q, Z[j].2 ++ [y])], fun b u e => ?_, ?_, NtsAt.off e1 ((hZ4.ext s7).snoc hq7), ?_⟩
          · rw [upd_ne (ne_of_none e hD)]
            exact s7 _ _ (s4 _ _ e)
          · rw [upd_same, nrefs_snoc]
          · have e6 : (Z.map (·.2)).take (j + 1) = (Z.map (·.2)).take j ++ [Z[j].2] := by
              rw [List.take_add_one, List.getElem?_map, List.getElem?_eq_getElem hjZ] <;> rfl
            rw [List.map_append, eZ4, e6, List.map_append] <;> rfl
        refine ⟨rfl, tyes (iteT ⟨_, rfl, _, rfl, (by show 1 ≤ sizeLine; decide), fun t2 ht2 => ?_⟩)⟩
        have s6 : Same H3 _ := same_upd (o := .tup [V.str y]) ht2
        refine ⟨Z[j].1, t2, Z[j].2.map V.str, [V.str y], rfl, rfl, SqT.of (s6 _ _ hq), SqT.of upd_same, ?_, fun e => ?_, fun _ z => absurd z (List.cons_ne_nil _ _), fun _ _ q hq' => ?_⟩
        · rw [List.length_map, List.length_singleton]
          exact Nat.le_trans (show Z[j].2.length + 1 ≤ 1000 by omega) (by decide)
        · refine step _ t2 s6 ?_
          rw [List.map_append, e] <;> exact upd_same
        · refine step _ q (s6.push hq') ?_
          rw [List.map_append] <;> exact upd_same
      · obtain ⟨Z2, s4, hD4, hZ4, eZ4⟩ := q
        rw [List.take_of_length_le (by rw [nrefs_len, List.length_map]; exact Nat.le_refl _)] at eZ4
        have lz2 : Z2.length ≤ 16 := by
          have h1 : Z2.length = (Z2.map (·.2)).length := (List.length_map ..).symm
          rw [h1, eZ4, List.length_map, List.length_map]
          exact zl
        refine ⟨f, D, _, _, rfl, rfl, s4 _ _ hf, hD4, ?_, fun p hp => ?_⟩
        · rw [nrefs_len, nrefs_len]
          exact Nat.le_trans (show Z.length + Z2.length ≤ 1000 by omega) (by decide)
        · have s5 : Same H2 _ := same_upd (o := .lst (nrefs Z ++ nrefs Z2)) hp
          refine ⟨p, Z ++ Z2, _, rfl, (s3.trans s4).trans s5, ?_, fun q hq => ?_, ?_⟩
          · rw [upd_same]
            unfold nrefs
            rw [List.map_append]
          · rcases List.mem_append.mp hq with z | z
            · exact s5 _ _ (s4 _ _ (hZ q z))
            · exact s5 _ _ (hZ4 q z)
          · rw [List.map_append, eZ, eZ4, eZ, subs_take hil, eyi]
    · obtain ⟨f, Z, v2, rfl, s3, hf, hZ, eZ⟩ := q
      rw [hml, List.take_length] at eZ
      have l1 := s3 _ _ hl
      have memS : ∀ p ∈ Z, p.2 ∈ subs ys := fun p hp => by rw [← eZ]; exact List.mem_map.mpr ⟨p, hp, rfl⟩
      have keys : ∀ d ∈ (nrefs Z).map (keyOf ys Z), ∃ a ∈ subs ys, d = keyD ys a := fun d hd => by
        unfold nrefs at hd
        rw [List.map_map] at hd
        obtain ⟨p, hp, rfl⟩ := List.mem_map.mp hd
        exact ⟨p.2, memS p hp, keyOf_at hZ hp⟩
      refine ⟨_, rfl, f, nrefs Z, keyOf ys Z, rfl, SqL.of hf, tabs.ext s3, fun d hd d' hd' => ?_, .inl fun d hd => ?_, fun d hd => ?_, fun i z H' Q' hz e' kq => ?_, fun a H' ha e' t' => ?_⟩
      · obtain ⟨a, ha, rfl⟩ := keys d hd
        obtain ⟨b, hb, rfl⟩ := keys d' hd'
        exact so.alike a ha b hb
      · obtain ⟨a, ha, rfl⟩ := keys d hd
        exact ⟨_, _, rfl⟩
      · obtain ⟨a, ha, rfl⟩ := keys d hd
        have h1 := keyD_depth ys a
        have h2 := hr.un
        show (A.deeper _).units + 1 + 1 + _ < cLine
        omega
      · have hiZ : i < Z.length := by rw [← nrefs_len]; exact (List.getElem?_eq_some_iff.mp hz).1
        unfold nrefs at hz
        rw [List.getElem?_map, List.getElem?_eq_getElem hiZ] at hz
        obtain rfl := (Option.some.inj hz).symm
        have mem : Z[i] ∈ Z := List.getElem_mem hiZ
        obtain ⟨l4, inY⟩ := so.mem _ (memS _ mem)
        have hq : H' Z[i].1 = some (.tup (Z[i].2.map V.str)) := e' _ _ (hZ _ mem) (fun _ z => by cases z)
        have hl' : H' l = some (.lst (ys.map V.str)) := e' _ _ l1 (fun _ z => by cases z)
        have hm : (Z[i].2.map V.str).length = Z[i].2.length := List.length_map ..
        refine ⟨_, rfl, Z[i].1, _, rfl, .inr (SqT.of hq), _, rfl, Z[i].1, rfl, ⟨_, SqT.of hq⟩, fun D hD => ?_⟩
        refine lcT_map (K := K) (a := Z[i].1) (xs := Z[i].2.map V.str) (Z[i].2.map fun y => V.int (ys.idxOf y)) hD (SqT.of hq) (by rw [hm]; omega) (by rw [hm, List.length_map]) (fun j x v H2 Qe hx hv s4 kq2 => ?_) fun H2 s4 e4 => ?_
        · obtain ⟨y, hy, rfl⟩ := strs_at' hx
          rw [List.getElem?_map, hy] at hv
          obtain rfl := Option.some.inj hv
          have my : y ∈ ys := inY y (List.mem_of_getElem? hy)
          have lt := List.idxOf_lt_length_of_mem my
          have ge := List.getElem_idxOf lt
          refine ⟨_, rfl, .inl ⟨rfl, _, SqL.of (s4 _ _ hl')⟩, _, rfl, l, ys.map V.str, .str y, ys.idxOf y, .str y, rfl, rfl, SqL.of (s4 _ _ hl'), rfl, ?_, ?_, ?_, fun n z' hn hz' => ?_, kq2 H2 (Same.refl _)⟩
          · rw [List.all_eq_true]
            intro v hv
            obtain ⟨_, _, rfl⟩ := List.mem_map.mp hv
            rfl
          · rw [List.getElem?_map, List.getElem?_eq_getElem lt, ge] <;> rfl
          · show (y == y) = true
            exact beq_self_eq_true y
          · obtain ⟨y', hy', rfl⟩ := strs_at' hz'
            show (y' == y) = false
            refine beq_eq_false_iff_ne.mpr fun z => ?_
            obtain ⟨hn2, e2⟩ := List.getElem?_eq_some_iff.mp hy'
            have := (List.getElem_inj (h₀ := hn2) (h₁ := lt) ysn).mp (by rw [e2, ge, z])
            omega
        · refine ⟨(by show 2 ≤ sizeLine; decide), fun p hp => ?_⟩
          have s5 : Same H2 _ := same_upd (o := .tup [.int ((Z[i].2.map V.str).length : Int), .ref D]) hp
          refine kq _ _ (s4.trans s5) ?_
          rw [keyOf_at hZ mem]
          unfold keyD
          refine .tup (SqT.of upd_same) (.cons ?_ (.cons (.lst (SqL.of (s5 _ _ e4)) (dp_map _ _)) .nil))
          rw [hm]
          exact .int _
      · have s4 : Same H' _ := same_upd (o := .lst ((nrefs Z).mergeSort (PySem.W.dataLe false (keyOf ys Z)))) ha
        have hZ' := hZ.exn e'
        have mm : ((Z.mergeSort fun p q => PySem.W.dataLe false (keyD ys) p.2 q.2)).map (fun p => V.ref p.1) = (nrefs Z).mergeSort (PySem.W.dataLe false (keyOf ys Z)) :=
          List.map_mergeSort (r := fun p q : Addr × List Str => PySem.W.dataLe false (keyD ys) p.2 q.2) (s := PySem.W.dataLe false (keyOf ys Z)) (f := fun p : Addr × List Str => V.ref p.1) (l := Z) fun p hp q hq => by
            rw [PySem.W.dataLe_eq, PySem.W.dataLe_eq]
            show (!_) = (!_)
            rw [keyOf_at hZ hp, keyOf_at hZ hq]
        have ms : ((Z.mergeSort fun p q => PySem.W.dataLe false (keyD ys) p.2 q.2)).map (fun p => p.2) = (Z.map (fun p => p.2)).mergeSort (PySem.W.dataLe false (keyD ys)) :=
          List.map_mergeSort (r := fun p q : Addr × List Str => PySem.W.dataLe false (keyD ys) p.2 q.2) (s := PySem.W.dataLe false (keyD ys)) (f := fun p : Addr × List Str => p.2) (l := Z) fun p hp q hq => rfl
        refine kk _ a (Z.mergeSort fun p q => PySem.W.dataLe false (keyD ys) p.2 q.2) ((ExtN.of s3).trans (e'.trans (ExtN.of s4))) (t'.ext s4) ?_ (fun p hp => s4 _ _ (hZ' p ((List.mergeSort_perm _ _).mem_iff.mp hp))) ?_
        · rw [upd_same]
          unfold nrefs at mm ⊢
          rw [mm]
        · rw [ms, eZ]
          exact sort_sets so
end
end OP
namespace OP
open PySem PySem.Spec PyProof.Rows GenW L2 LamX
/-! ### what stays: all but the state of the drawing and the tables -/
def Kp (H H' : Hp) : Prop := ∀ a u, NotSt u → (∀ ps, u ≠ .tbl ps) → H a = some u → H' a = some u
theorem Kp.refl (H : Hp) : Kp H H := fun _ _ _ _ e => e
theorem Kp.trans {H H1 H2 : Hp} (a : Kp H H1) (b : Kp H1 H2) : Kp H H2 := fun c u n m e => b c u n m (a c u n m e)
theorem Keep.n {H H' : Hp} (k : Keep H H') : Kp H H' := fun a u n _ e => k a u n e
theorem _root_.LamX.ExtN.n {H H' : Hp} (k : ExtN H H') : Kp H H' := fun a u _ m e => k a u e m
theorem kp_same {H H' : Hp} (s : Same H H') : Kp H H' := (Keep.of s).n
section
variable {H H' : Hp} (k : Kp H H')
include k
theorem Kp.tup {a : Addr} {xs : List V} (h : H a = some (.tup xs)) : H' a = some (.tup xs) := k _ _ (notSt_tup _) (fun _ z => by cases z) h
theorem Kp.dK {a : Addr} {kv : List (Key × V)} (h : H a = some (.dK kv)) : H' a = some (.dK kv) := k _ _ (notSt_dK _) (fun _ z => by cases z) h
theorem Kp.ins {a C d : Addr} {fs : List (Str × V)} (h : H a = some (.ins C d fs)) : H' a = some (.ins C d fs) := k _ _ (notSt_ins _ _ _) (fun _ z => by cases z) h
theorem Kp.ints {a : Addr} {ns : List Int} (h : H a = some (.lst (ns.map V.int))) : H' a = some (.lst (ns.map V.int)) := k _ _ (notSt_ints _) (fun _ z => by cases z) h
theorem Kp.strs {a : Addr} {ns : List Str} (h : H a = some (.lst (ns.map V.str))) : H' a = some (.lst (ns.map V.str)) := k _ _ (notSt_strs _) (fun _ z => by cases z) h
theorem Kp.refs {a : Addr} {S : Sts} (h : H a = some (.lst (refs S))) : H' a = some (.lst (refs S)) := k _ _ (notSt_refs _ S) (fun _ z => by cases z) h
theorem StsAt.kn {S : Sts} (h : StsAt H S) : StsAt H' S := fun p hp => k.tup (h p hp)
theorem RowAt.kn {a : Addr} {c : Chg} (h : RowAt H a c) : RowAt H' a c := by
  cases c with
  | one o => exact k.tup h
  | iff s v o =>
    obtain ⟨b, h1, h2⟩ := h
    exact ⟨b, k.tup h1, k.tup h2⟩
theorem OneAt.kn {K : PySem.W.Frag} {a : Addr} {o : One} (h : OneAt K H a o) : OneAt K H' a o := by
  obtain ⟨dx, h⟩ := h
  exact ⟨dx, k.ins h⟩
theorem ChgAt.kn {K : PySem.W.Frag} {a : Addr} {c : Chg} (h : ChgAt K H a c) : ChgAt K H' a c := by
  cases c with
  | one o => exact OneAt.kn k h
  | iff s v o =>
    obtain ⟨dx, b, h1, h2⟩ := h
    exact ⟨dx, b, k.ins h1, OneAt.kn k h2⟩
theorem WorldAt.kn {K : PySem.W.Frag} {p : Addr} {n : Nat} {S : Sts} {L : Ncs} (h : WorldAt K H p n S L) : WorldAt K H' p n S L := by
  obtain ⟨⟨dx, l, d, h1, h2, h3⟩, h4, h5⟩ := h
  exact ⟨⟨dx, l, d, k.ins h1, k.refs h2, k.dK h3⟩, StsAt.kn k h4, fun p hp => ChgAt.kn k (h5 p hp)⟩
theorem DrAt.kn {t : Addr} {n : Nat} {S : Sts} {L : Rws} (h : DrAt H t n S L) : DrAt H' t n S L := by
  obtain ⟨⟨l, d, h1, h2, h3⟩, h4, h5⟩ := h
  exact ⟨⟨l, d, k.tup h1, k.refs h2, k.dK h3⟩, StsAt.kn k h4, fun p hp => RowAt.kn k (h5 p hp)⟩
end
theorem StAt.exn {K : PySem.W.Frag} {sc : Addr} {H H' : Hp} {st : Addr} (e : ExtN H H') (h : StAt K sc H st) : StAt K sc H' st := by
  obtain ⟨ns, b, k, h1, h2, h3⟩ := h
  exact ⟨ns, b, k, e _ _ h1 (fun _ z => by cases z), ExtN.sq e h2, h3⟩
theorem tabs_keep {T : List (Addr × Str)} {H H' : Hp} (k : Keep H H') (t : Tabs T H) : Tabs T H' := fun p hp => by
  obtain ⟨ps, h1, h2, h3⟩ := t p hp
  refine ⟨ps, k _ _ (fun _ _ _ z => by cases z) h1, h2, fun pos cv hc => ?_⟩
  obtain ⟨c, e1, e2⟩ := h3 pos cv hc
  exact ⟨c, e1, k _ _ (fun _ _ _ z => by cases z) e2⟩
theorem kp_sq {K : PySem.W.Frag} {H H' : Hp} (k : Kp H H') {a : Addr} {ns : List Int} (h : SqL K H a (ns.map V.int)) : SqL K H' a (ns.map V.int) := by
  rcases h with (h | ⟨o, h⟩) | h
  · exact .inl (.inl (k.ints h))
  · exact .inl (.inr ⟨o, k _ _ (fun _ _ _ z => by cases z) (fun _ z => by cases z) h⟩)
  · exact .inr h
/-- no exception at all -/
theorem op_notInK {X : Cx} (K : PySem.W.Frag) (hK : X.K = K := by rfl) : OpR X (compareOp .NotIn) (rIn K true) := by
  subst hK
  exact op_notIn_seq
def EN : XK := fun _ _ _ => False
theorem pass_no {X : Cx} : Passes (CX X.prog X.w) X EN := fun pins σ H s e s' I h => by
  obtain ⟨a, B, H', cls, d, _, _, _, _, _, _, _, z⟩ := h
  exact z.elim
theorem dp_Ns {K : PySem.W.Frag} {H : Hp} : ∀ {Z : Nts}, NtsAt H Z → DpAll K H (nrefs Z) ((Z.map (·.2)).map dN)
  | [], _ => .nil
  | p :: Z, h => .cons (dp_N (h p List.mem_cons_self)) (dp_Ns fun q hq => h q (List.mem_cons_of_mem _ hq))
theorem no_w {n : Nat} {l d : Addr} {x : Str} (h1 : (x == ("width" : Str)) = false) (h2 : (x == ("starts" : Str)) = false) (h3 : (x == ("made" : Str)) = false) : (wFlds n l d).lookup x = none := by
  unfold wFlds
  simp [List.lookup, h1, h2, h3]
theorem Kp.new {H0 H1 : Hp} (k : Kp H0 H1) {l : Addr} (hl : H1 l = none) : ∀ a u, NotSt u → (∀ ps, u ≠ .tbl ps) → H0 a = some u → a ≠ l := fun a u n m e z => by
  have := k a u n m e
  rw [z, hl] at this
  cases this
theorem Kp.upd {H0 H : Hp} {l : Addr} {x : HO} (k : Kp H0 H) (hl : ∀ a u, NotSt u → (∀ ps, u ≠ .tbl ps) → H0 a = some u → a ≠ l) : Kp H0 (upd H l x) := fun a u n m e => by
  rw [upd_ne (hl a u n m e)]
  exact k a u n m e
theorem tabs_upd {T : List (Addr × Str)} {H : Hp} {o : Addr} {xs : List V} {u : HO} (ho : H o = some (.lst xs)) (t : Tabs T H) : Tabs T (upd H o u) := fun p hp => by
  obtain ⟨ps, h1, h2, h3⟩ := t p hp
  refine ⟨ps, by rw [upd_ne (fun z => by rw [z, ho] at h1; cases h1)]; exact h1, h2, fun pos cv hc => ?_⟩
  obtain ⟨c, e1, e2⟩ := h3 pos cv hc
  exact ⟨c, e1, by rw [upd_ne (fun z => by rw [z, ho] at e2; cases e2)]; exact e2⟩
theorem inV_strs (y : Str) : ∀ ys : List Str, inV (.str y) (ys.map V.str) = decide (y ∈ ys)
  | [] => rfl
  | x :: ys => by
    have ih := inV_strs y ys
    unfold inV at ih ⊢
    rw [List.map_cons, List.any_cons, ih]
    show ((x == y) || decide (y ∈ ys)) = _
    by_cases h : x = y
    · rw [h, beq_self_eq_true, Bool.true_or, decide_eq_true List.mem_cons_self]
    · rw [beq_eq_false_iff_ne.mpr h, Bool.false_or]
      refine decide_eq_decide.mpr ⟨fun z => List.mem_cons_of_mem _ z, fun z => ?_⟩
      rcases List.mem_cons.mp z with z | z
      · exact absurd z.symm h
      · exact z
theorem flat_strs (ys : List Str) : (ys.map V.str).all flatV = true := by
  rw [List.all_eq_true]
  intro v hv
  obtain ⟨_, _, rfl⟩ := List.mem_map.mp hv
  rfl
def left (ns ys : List Str) : List Str := ns.filter fun y => !decide (y ∈ ys)
theorem left_ne {ns ys : List Str} (nd : ns.Nodup) (h : ys.length < ns.length) : left ns ys ≠ [] := fun z => by
  have sub : ∀ y ∈ ns, y ∈ ys := fun y hy => by
    by_cases hm : y ∈ ys
    · exact hm
    · have : y ∈ left ns ys := List.mem_filter.mpr ⟨hy, by rw [decide_eq_false hm] <;> rfl⟩
      rw [z] at this
      cases this
  have := nodup_le nd sub
  omega
theorem all_str : ∀ y ∈ allNames, PyData.strOk y = true := by decide +kernel
theorem app_twin {L M : Ncs} (e : nc M = nc L) (ndM : (names M).Nodup) (nd : (names L).Nodup) : ∀ (ys : List Str), (∀ y ∈ ys, y ∈ names L) → ∀ xs : List Int, appAll M ys xs = appAll L ys xs
  | [], _, _ => rfl
  | y :: ys, h, xs => by
    have e1 : chgOf M y = chgOf L y := by
      obtain ⟨j, hj, rfl⟩ := mem_names (h y List.mem_cons_self)
      have hm : j < M.length := by rw [← nc_len M, e, nc_len]; exact hj
      have g := List.getElem_of_eq e (i := j) (by rw [nc_len]; exact hm)
      unfold nc at g
      rw [List.getElem_map, List.getElem_map] at g
      rw [chgOf_at nd hj, ← (Prod.mk.inj g).1, chgOf_at ndM hm, (Prod.mk.inj g).2]
    show appAll M ys ((chgOf M y).app xs) = appAll L ys ((chgOf L y).app xs)
    rw [e1]
    exact app_twin e ndM nd ys (fun z hz => h z (List.mem_cons_of_mem _ hz)) _
theorem nc_at {L M : Ncs} (e : nc M = nc L) {i : Nat} (hi : i < L.length) : ∃ (h : i < M.length), M[i].1 = L[i].1 ∧ M[i].2.2 = L[i].2.2 := by
  have hm : i < M.length := by rw [← nc_len M, e, nc_len]; exact hi
  have h := List.getElem_of_eq e (i := i) (by rw [nc_len]; exact hm)
  unfold nc at h
  rw [List.getElem_map, List.getElem_map] at h
  exact ⟨hm, (Prod.mk.inj h).1, (Prod.mk.inj h).2⟩
section
variable {P : Program} {w : World} {K : PySem.W.Frag} {mg : Str → Option Value} {base : Heap} {sc : Addr}
def spRight (K : PySem.W.Frag) (sc Pt : Addr) : Sp := fun vs H Q _ => ∃ (st : Addr), vs = [.ref st] ∧ StAt K sc H st ∧ Tabs [(Pt, lamQ)] H ∧ ∀ H', Kp H H' → Tabs [(Pt, lamQ)] H' → Q (.bl true) H'
abbrev rNames : List Str := ["_law_state", "_law_drawn_here", "_law_slots", "_law_stores", "_law_rows", "_law_world_here", "_law_names", "_law_name", "_law_change_here", "_law_turn", "_law_store", "_law_order", "_law_times", "_law_at"]
theorem sc_right : FnScope rNames ["_law_state"] (defScope s__law_one_right) := ⟨rfl, rfl, rfl, by decide +kernel, rfl, by decide +kernel, by decide +kernel⟩
theorem ok_right (T : Txt K mg) {Pt : Addr} (LT : LamTab K mg base Pt) : Ok P w K mg base (a__law_one_right K) ["_law_state"] 12 (spRight K sc Pt) := by
  have GD : Ok P w K mg base (a__law_drawn K) _ 8 (spDrawn K sc) := ok_drawn T
  have GW : Ok P w K mg base (a__law_world K) _ 9 (spLWorld K) := ok_lworld T
  have GS : Ok P w K mg base (a_World_slots K) _ 1 (spWidth K) := ok_World_slots T
  have GT : Ok P w K mg base (a_World_stores K) _ 1 (spStores K) := ok_World_stores T
  have GN : Ok P w K mg base (a_World_names K) _ 1 (spNames K) := ok_World_names T
  have GL : Ok P w K mg base (a__law_sets K) _ 5 (spLSets K Pt) := ok_lsets T LT
  obtain ⟨gfd, GG, gb, _⟩ := gok_sets (P := P) (w := w) (base := base) T
  have GM : Ok P w K mg base (a__law_made K) _ 6 (spMade K 1) := ok_made T
  have GC : Ok P w K mg base (a_World_change K) _ 2 (spChange K) := ok_World_change T
  have GE : ∀ q, Ok P w K mg base (CK.eqA K q) ["self", "other"] 2 (spEq (REq K q)) := okC_eq T
  have GSl : ∀ q, Ok P w K mg base (CK.slotsA K q) ["self"] 3 (spCS K q) := okC_slots T
  have GP : Ok P w K mg base (a__law_places K) _ 2 (spPlaces K 1) := ok_places T
  have GX : Ok P w K mg base (a__law_next K) _ 3 (spNext K sc) := ok_next T
  have GA : ∀ q, Ok P w K mg base (CK.applyA K q) ["self", "store"] 5 (spCA K q) := okC_apply T
  have GF : Ok P w K mg base (a__law_after K) _ 2 (spAfter K 1) := ok_after T
  have GK : Ok P w K mg base (a__law_pick K) _ 4 (spPick K sc) := ok_pick T
  have GEn : Ok P w K mg base (a_World_end K) _ 6 (spEnd K) := ok_World_end T
  have GLe : Ok P w K mg base (a__law_end K) _ 3 (spLEnd K) := ok_lend T
  have GQ : Ok P w K mg base (a_World_eq K) _ 4 (spEq (REqW K)) := ok_World_eq T
  refine ok_of T.f__law_one_right sc_right (fun _ _ _ _ _ _ us hl => match us, hl with | [_], _ => rfl) (fun vs H Q E h => ?_) (fun cdv A outer s0 H vs Q E hr h => ?_)
  · obtain ⟨st, rfl, _⟩ := h
    rfl
  · obtain ⟨st, rfl, hst, tabs, kk⟩ := h
    have rm : ∀ {k : Nat}, k ≤ 11 → Room k _ := fun h => hr.mono h
    have hu : _ + 64 < cLine := hr.units
    have r9 : Room 9 _ := rm (by decide)
    have r2 : Room 2 _ := rm (by decide)
    have r3 : Room 3 _ := rm (by decide)
    have r4 : Room 4 _ := rm (by decide)
    have r5 : Room 5 _ := rm (by decide)
    have r6 : Room 6 _ := rm (by decide)
    have r8 : Room 8 _ := rm (by decide)
    refine ⟨_, pss_cons (ps_set (i := 1) sc_right.nd rfl (Or.inl rfl) (pe_c GD r8 T.g__law_drawn (pa_cons (pv 0) (pa_cons pe_int pa_nil))))
      (pss_cons (ps_asg (pv 1) (pg_tup rfl (pgs_cons (pg_name (i := 2) sc_right.nd rfl (Or.inl rfl)) (pgs_cons (pg_name (i := 3) sc_right.nd rfl (Or.inl rfl)) (pgs_cons (pg_name (i := 4) sc_right.nd rfl (Or.inl rfl)) pgs_nil)))))
      (pss_cons (ps_par rfl sc_right.nd (i := 5) (j := 6) rfl rfl (by decide) rfl rfl (pa_cons (pe_c GW r9 T.g__law_world (pa_cons (pv 1) pa_nil)) (pa_cons (pe_callTy (call_list_dK rfl) (by rfl) T.z_list (by decide +kernel) (pa_cons (pv 4) pa_nil)) pa_nil)) (by rfl))
      (pss_cons (ps_if (pt_cmpR op_ne (pe_pr (pv 5) T.o_World T.p_World_slots GS r2) (pv 2) (nomark _)) (pss_one (ps_ret pe_bl)) pss_nil)
      (pss_cons (ps_if (pt_cmpR (op_neD hu) (pe_pr (pv 5) T.o_World T.p_World_stores GT r2) (pv 3) (nomark _)) (pss_one (ps_ret pe_bl)) pss_nil)
      (pss_cons (ps_if (pt_cmpR (op_neD hu) (pe_pr (pv 5) T.o_World T.p_World_names GN r2) (pv 6) (nomark _)) (pss_one (ps_ret pe_bl)) pss_nil)
      (pss_cons (ps_if (pt_cmpR (op_neD hu) (pe_listG (pgen_meth0 (E := EN) (pv 5) T.o_World.cl T.m_World_sets GG r3 gb .nil) pass_no (fun _ _ _ z => z.elim) r6 (by rfl) T.z_list (by decide +kernel)) (pe_c GL r5 T.g__law_sets (pa_cons (pv 6) pa_nil)) (nomark _)) (pss_one (ps_ret pe_bl)) pss_nil)
      (pss_cons (ps_for PassesOwn.never rfl (pi_list (pv 6)) (pg_name (i := 7) sc_right.nd rfl (Or.inl rfl))
      (pss_cons (ps_set (i := 8) sc_right.nd rfl (Or.inl rfl) (pe_c GM r6 T.g__law_made (pa_cons (pe_dget (hu_of hr) (pv 4) (pv 7) (fun _ _ => rfl)) pa_nil)))
      (pss_cons (ps_if (PW.pt (pw_or (pt_not (pt_cmpR (op_any fun q : CK => op_eqG (rc_of (GE q) (T.methEC q)) r2) (pe_mt (pv 5) T.o_World T.m_World_change GC r2 (pa_cons (pv 7) pa_nil)) (pv 8) (nomark _))) (pw_or1 (pt_cmpR (op_neD hu) (pe_any fun q : CK => pe_pr (pv 8) (T.ownC q) (T.propSC q) (GSl q) r4) (pe_c GP r2 T.g__law_places (pa_cons (pe_dget (hu_of hr) (pv 4) (pv 7) (fun _ _ => rfl)) pa_nil)) (nomark _))))) (pss_one (ps_ret pe_bl)) pss_nil)
      (pss_one (ps_for PassesOwn.never rfl (pi_range1 (by rfl) T.z_range (pa_cons pe_int pa_nil)) (pg_name (i := 9) sc_right.nd rfl (Or.inl rfl))
      (pss_cons (ps_set (i := 10) sc_right.nd rfl (Or.inl rfl) (pe_tupleOf (by rfl) T.z_tuple (pe_lc (own := [("_law_at", 13)]) (g := gName 13) (tt := tYes) rfl sc_right.nd (pi_range1 (by rfl) T.z_range (pa_cons (pe_op op_add (pv 2) (pe_c GX r3 T.g__law_next (pa_cons (pv 0) (pa_cons (pe_op op_sub pe_int (pv 2)) pa_nil)))) pa_nil)) (blkOk_by (own := [("_law_at", 13)]) (N := rNames) (sc := defScope s__law_one_right) (by decide +kernel)) (fun _ _ _ _ _ => (pg_name (i := 13) sc_right.nd rfl (Or.inl rfl))) (fun _ _ _ _ _ => pts_nil) (fun _ _ _ _ _ => (pe_c GX r3 T.g__law_next (pa_cons (pv 0) (pa_cons pe_int pa_nil)))))))
      (pss_one (ps_if (pt_cmpR (op_neD hu) (pe_any fun q : CK => pe_mt (pv 8) (T.ownC q) (T.methAC q) (GA q) r5 (pa_cons (pv 10) pa_nil)) (pe_c GF r2 T.g__law_after (pa_cons (pe_dget (hu_of hr) (pv 4) (pv 7) (fun _ _ => rfl)) (pa_cons (pv 10) pa_nil))) (nomark _)) (pss_one (ps_ret pe_bl)) pss_nil))))))))
      (pss_cons (ps_for PassesOwn.never rfl (pi_range1 (by rfl) T.z_range (pa_cons pe_int pa_nil)) (pg_name (i := 9) sc_right.nd rfl (Or.inl rfl))
      (pss_cons (ps_set (i := 11) sc_right.nd rfl (Or.inr rfl) (pe_lst pa_nil))
      (pss_cons (ps_for PassesOwn.never rfl (pi_range1 (by rfl) T.z_range (pa_cons (pe_c GX r3 T.g__law_next (pa_cons (pv 0) (pa_cons (pe_op op_add (pe_callB call_len_seq (by rfl) T.z_len PySem.boot_len (pa_cons (pv 6) pa_nil)) pe_int) pa_nil))) pa_nil)) (pg_name (i := 12) sc_right.nd rfl (Or.inl rfl))
      (pss_one (ps_expr (pe_bm PySem.F.plainAttrs_list PySem.F.slot_list_append PySem.F.type_list_append mt_append (pv 11) (pa_cons (pe_c GK r4 T.g__law_pick (pa_cons (pv 0) (pa_cons (pe_lc (own := [("_law_name", 7)]) (g := gName 7)  rfl sc_right.nd (pi_list (pv 6)) (blkOk_by (own := [("_law_name", 7)]) (N := rNames) (sc := defScope s__law_one_right) (by decide +kernel)) (fun _ _ _ _ _ => (pg_name (i := 7) sc_right.nd rfl (Or.inl rfl))) (fun _ _ _ _ _ => pts_one (pt_cmpR (op_notInK K) (pv 7) (pv 11) (by rfl))) (fun _ _ _ _ _ => pv 7)) pa_nil))) pa_nil)))))
      (pss_cons (ps_set (i := 10) sc_right.nd rfl (Or.inl rfl) (pe_tupleOf (by rfl) T.z_tuple (pe_lc (own := [("_law_at", 13)]) (g := gName 13) (tt := tYes) rfl sc_right.nd (pi_range1 (by rfl) T.z_range (pa_cons (pv 2) pa_nil)) (blkOk_by (own := [("_law_at", 13)]) (N := rNames) (sc := defScope s__law_one_right) (by decide +kernel)) (fun _ _ _ _ _ => (pg_name (i := 13) sc_right.nd rfl (Or.inl rfl))) (fun _ _ _ _ _ => pts_nil) (fun _ _ _ _ _ => (pe_c GX r3 T.g__law_next (pa_cons (pv 0) (pa_cons pe_int pa_nil)))))))
      (pss_one (ps_if (pt_cmpR (op_neD hu) (pe_mt (pv 5) T.o_World T.m_World_end GEn r6 (pa_cons (pv 10) (pa_cons (pe_tupleOf (by rfl) T.z_tuple (pv 11)) pa_nil))) (pe_c GLe r3 T.g__law_end (pa_cons (pv 1) (pa_cons (pv 10) (pa_cons (pv 11) pa_nil)))) (nomark _)) (pss_one (ps_ret pe_bl)) pss_nil))))))
      (pss_one (ps_ret (pe_cmpR (op_eqG (rc_of GQ T.m_World_eq) r4) (pv 5) (pe_c GW r9 T.g__law_world (pa_cons (pv 1) pa_nil)) (nomark _)))))))))))), ?_⟩
    refine ⟨_, rfl, st, rfl, hst, fun H1 t n S L m k1 st1 D1 ok n2 m2 m4 nm => ?_⟩
    obtain ⟨⟨l, d, ht1, hl1, hd1⟩, _, _⟩ := id D1
    refine ⟨_, rfl, t, _, rfl, SqT.of ht1, rfl, _, _, rfl, _, _, rfl, _, _, rfl, rfl, ?_⟩
    refine ⟨_, rfl, t, n, S, L, rfl, D1, ok, fun H2 p M s2 W2 eM => ⟨_, rfl, d, _, rfl, s2 _ _ hd1, fun q hq => ⟨_, _, rfl, ?_⟩⟩⟩
    rw [kvs_keys]
    have sB : Same H1 _ := s2.push (o := .lst ((names L).map V.str)) hq
    have W := W2.ext (same_upd (o := .lst ((names L).map V.str)) hq)
    have hqB : upd H2 q (.lst ((names L).map V.str)) q = _ := upd_same
    have kB : Kp H (upd H2 q (.lst ((names L).map V.str))) := (k1.trans (Keep.of sB)).n
    have stB := st1.ext sB
    have tB := tabs_keep (k1.trans (Keep.of sB)) tabs
    have D := DrAt.kn (kp_same sB) D1
    have hl := sB _ _ hl1
    have hd := sB _ _ hd1
    generalize upd H2 q (.lst ((names L).map V.str)) = HB at W hqB kB stB tB D hl hd
    have okM : WOk n S M := ⟨ok.n1, ok.n3, ok.sts, ok.chgs.twin eM⟩
    have nML : names M = names L := by rw [nc_names, eM, ← nc_names]
    have nd := ok.chgs.nd
    have ndM := okM.chgs.nd
    have n1 := ok.n1
    obtain ⟨⟨dx, l', d', hp, _, _⟩, _, hLM⟩ := id W
    obtain ⟨_, _, rowsB⟩ := id D
    have hmN : ((names L).map V.str).length = L.length := by rw [List.length_map]; exact List.length_map ..
    refine ⟨_, rfl, p, dx, _, rfl, hp, p, n, S, M, rfl, W, _, rfl, rfl, false, congrArg V.bl (by rw [decide_eq_true rfl] <;> rfl), iteF ?_⟩
    refine ⟨_, rfl, p, dx, _, rfl, hp, p, n, S, M, rfl, W, fun r3 H3 s3 e3 => ⟨_, rfl, _, _, dp_Ts e3 (W.sts.ext s3), dp_Ts (s3 _ _ hl) (W.sts.ext s3), shp_Ts _, shp_Ts _, false, congrArg V.bl (by rw [eqv_shp (shp_Ts _)] <;> rfl), iteF ?_⟩⟩
    have so : ∀ y ∈ names L, PyData.strOk y = true := fun y hy => by
      rw [nm] at hy
      exact all_str y (List.mem_of_mem_take hy)
    refine ⟨_, rfl, p, dx, _, rfl, s3 _ _ hp, p, n, S, M, rfl, W.ext s3, fun r4 H4 s4 e4 => ⟨_, rfl, _, _, .lst (SqL.of (by rw [← nML]; exact e4)) (dp_strs _), .lst (SqL.of (s4 _ _ (s3 _ _ hqB))) (dp_strs _), shp_strs so, shp_strs so, false, congrArg V.bl (by rw [eqv_shp (shp_strs so)] <;> rfl), iteF ?_⟩⟩
    have s34 := s3.trans s4
    refine ⟨_, rfl, p, dx, _, rfl, s34 _ _ hp, no_w (by decide +kernel) (by decide +kernel) (by decide +kernel), p, n, S, M, rfl, W.ext s34, okM, fun Z H5 s5 hZ eZ => fun r5 hr5 => ?_⟩
    have s6 : Same H5 _ := same_upd (o := .lst (nrefs Z)) hr5
    have s56 := (s34.trans s5).trans s6
    have hr5' : upd H5 r5 (.lst (nrefs Z)) r5 = some (.lst (nrefs Z)) := upd_same
    have hZ6 := hZ.ext s6
    generalize upd H5 r5 (.lst (nrefs Z)) = H6 at s6 s56 hr5' hZ6
    refine ⟨_, rfl, q, m, rfl, m2, m4, by rw [← nm]; exact s56 _ _ hqB, tB.ext s56, fun H7 r7 Z7 e7 t7 hr7 hZ7 eZ7 => ?_⟩
    have eZ2 : Z.map (·.2) = setsOf (allNames.take m) := by rw [eZ, nML, nm]
    have ss := sub_ok m2 m4
    have sN : ∀ z ∈ setsOf (allNames.take m), ∀ y ∈ z, PyData.strOk y = true := fun z hz y hy => all_str y (List.mem_of_mem_take ((ss.mem z (ss.perm.mem_iff.mp hz)).2 y hy))
    have dZ := dp_Ns (K := K) (hZ6.exn e7)
    have dZ7 := dp_Ns (K := K) hZ7
    rw [eZ2] at dZ
    rw [eZ7] at dZ7
    refine ⟨_, _, .lst (SqL.of (e7 _ _ hr5' (fun _ z => by cases z))) dZ, .lst (SqL.of hr7) dZ7, shp_Ns sN, shp_Ns sN, false, congrArg V.bl (by rw [eqv_shp (shp_Ns sN)] <;> rfl), iteF ?_⟩
    -- the changes
    have k7 : Kp HB H7 := (kp_same s56).trans e7.n
    have st7 := (stB.ext s56).exn e7
    refine ⟨_, rfl, q, rfl, ⟨_, SqL.of (k7.strs hqB)⟩, for_list (K := K) (a := q) (xs := (names L).map V.str) (fun i σ H' => ∃ v7 v8 v9 v10, σ = [some (.ref st), some (.ref t), some (.int n), some (.ref l), some (.ref d), some (.ref p), some (.ref q), v7, v8, v9, v10, none, none, none] ∧ Kp HB H' ∧ StAt K sc H' st ∧ Tabs [(Pt, lamQ)] H')
      ⟨none, none, none, none, rfl, k7, st7, t7⟩ (fun i σ H' _ q' => ?_) (fun i x σ H8 hx q' => ?_) fun σ H8 q' => ?_⟩
    · obtain ⟨_, _, _, _, _, k8, _⟩ := q'
      exact SqL.of (k8.strs hqB)
    · obtain ⟨v7, v8, v9, v10, rfl, k8, st8, t8⟩ := q'
      obtain ⟨y, hy, rfl⟩ := strs_at' hx
      have hi : i < L.length := by rw [← hmN]; exact (List.getElem?_eq_some_iff.mp hx).1
      have ey : L[i].1 = y := by
        unfold names at hy
        rw [List.getElem?_map, List.getElem?_eq_getElem hi] at hy
        exact Option.some.inj hy
      obtain rfl := ey
      obtain ⟨hiM, eM1, eM2⟩ := nc_at eM hi
      have mem : L[i] ∈ L := List.getElem_mem hi
      obtain ⟨cok, cfit⟩ := ok.chgs.chg _ mem
      have get : ∀ {H' : Hp}, Kp HB H' → DGet H' d (kV (Sum.inr L[i].1)) (some (V.ref L[i].2.1)) := fun {H'} k' => .inl ⟨kvs L, Sum.inr L[i].1, .inl (k'.dK hd), rfl, (valV_kvs nd hi).symm⟩
      refine ⟨_, rfl, _, rfl, d, V.ref L[i].2.1, rfl, get k8, L[i].2.1, L[i].2.2, rfl, RowAt.kn k8 (rowsB _ mem), cok, fun z => (by cases z), fun H9 r s9 e9 => ?_⟩
      have k9 := k8.trans (kp_same s9)
      have cM : ChgAt K H9 M[i].2.1 L[i].2.2 := by rw [← eM2]; exact ChgAt.kn k9 (hLM _ (List.getElem_mem hiM))
      obtain ⟨da, fa, hoa, _⟩ := cM.obj
      obtain ⟨db, fb, hob, hna⟩ := e9.obj
      refine ⟨_, rfl, p, dx, _, rfl, k9.ins hp, no_w (by decide +kernel) (by decide +kernel) (by decide +kernel), _, rfl, p, n, S, M, i, hiM, by rw [eM1]; rfl, WorldAt.kn k9 W, ndM, _, rfl, L[i].2.2.ck, ⟨M[i].2.1, r, da, db, fa, fb, rfl, rfl, hoa, hob, L[i].2.2, rfl, cM, e9⟩, fun Ha sa => ⟨true, rfl, iteF ?_⟩⟩
      have sa : Same H9 Ha := sa
      have ka := k9.trans (kp_same sa)
      refine ⟨L[i].2.2.ck, _, rfl, r, db, fb, rfl, sa _ _ hob, r, L[i].2.2, rfl, rfl, e9.ext sa, cok, fun rb Hb sb eb => ?_⟩
      have kb := ka.trans (kp_same sb)
      refine ⟨_, rfl, _, rfl, d, V.ref L[i].2.1, rfl, get kb, L[i].2.1, L[i].2.2, rfl, RowAt.kn kb (rowsB _ mem), cok, fun z => (by cases z), fun Hc rc sc' ec => ?_⟩
      refine ⟨_, _, .lst (SqL.of (sc' _ _ eb)) (dp_ints _), .lst (SqL.of ec) (dp_ints _), PySem.W.ke_shaped_ints _, PySem.W.ke_shaped_ints _, false, congrArg V.bl (by rw [eqv_shp (PySem.W.ke_shaped_ints _)] <;> rfl), iteF ?_⟩
      have sac := (sa.trans sb).trans sc'
      have kc := kb.trans (kp_same sc')
      have stc := (st8.ext s9).ext sac
      have tc := (t8.ext s9).ext sac
      have cc := e9.ext sac
      refine ⟨6, rfl, by decide, by decide, for_range (fun j σ H' => ∃ v9 v10, σ = [some (.ref st), some (.ref t), some (.int n), some (.ref l), some (.ref d), some (.ref p), some (.ref q), some (.str L[i].1), some (.ref r), v9, v10, none, none, none] ∧ Kp HB H' ∧ StAt K sc H' st ∧ Tabs [(Pt, lamQ)] H' ∧ ChgAt K H' r L[i].2.2)
        ⟨v9, v10, rfl, kc, stc, tc, cc⟩ (fun j σ Hd _ qq => ?_) fun σ Hd qq => ?_⟩
      · obtain ⟨v9, v10, rfl, kd, std, td, cd⟩ := qq
        refine ⟨_, rfl, _, rfl, _, rfl, _, _, rfl, rfl, st, 4 - n, rfl, by omega, std, fun He ke ste v5 a5 b5 => ⟨_, _, rfl, rfl, (n : Int) + v5, rfl, by omega, by omega, fun D' hD' => ?_⟩⟩
        refine lcR_ints (K := K) (st := st) (sc := sc) hD' ste (by omega) (fun jj Hf Qe kf stf kq => ?_) fun Hf xs kf stf ef lenx bdx => ?_
        · exact ⟨_, rfl, st, 8, rfl, by decide, stf, fun Hg kg stg v a b => kq v Hg kg stg a (by omega)⟩
        · refine .inl ⟨D', _, rfl, SqL.of ef, fun tq htq => ?_⟩
          have sg : Same Hf _ := same_upd (o := .tup (xs.map V.int)) htq
          have tqg : upd Hf tq (.tup (xs.map V.int)) tq = _ := upd_same
          have kdg : Keep Hd (upd Hf tq (.tup (xs.map V.int))) := (ke.trans kf).trans (Keep.of sg)
          have stg := stf.ext sg
          generalize upd Hf tq (.tup (xs.map V.int)) = Hg at tqg kdg stg
          have kg := kd.trans kdg.n
          have cg := ChgAt.kn kdg.n cd
          have xok : StoreOk xs := ⟨by omega, by omega, bdx⟩
          have fit : Fits xs.length L[i].2.2 := fun z hz => by have := cfit z hz; omega
          obtain ⟨dg, fg, hog, hng⟩ := cg.obj
          refine ⟨L[i].2.2.ck, _, rfl, r, dg, fg, rfl, hog, hng, _, rfl, r, tq, L[i].2.2, xs, rfl, rfl, cg, cok, tqg, xok, fit, fun rh Hh sh eh => ?_⟩
          have kh := kg.trans (kp_same sh)
          refine ⟨_, rfl, _, rfl, d, V.ref L[i].2.1, rfl, get kh, _, rfl, L[i].2.1, tq, L[i].2.2, xs, rfl, RowAt.kn kh (rowsB _ mem), cok, fun z => (by cases z), sh _ _ tqg, fit, by omega, fun Hk rk sk ek => ?_⟩
          refine ⟨_, _, dp_T (sk _ _ eh), dp_T ek, shp_T _, shp_T _, false, congrArg V.bl (by rw [eqv_shp (shp_T _)] <;> rfl), iteF ?_⟩
          have shk := sh.trans sk
          exact ⟨_, _, rfl, kh.trans (kp_same sk), stg.ext shk, (tabs_keep kdg td).ext shk, cg.ext shk⟩
      · obtain ⟨v9, v10, rfl, kd, std, td, cd⟩ := qq
        exact ⟨_, _, _, _, rfl, kd, std, td⟩
    · obtain ⟨v7, v8, v9, v10, rfl, k8, st8, t8⟩ := q'
      refine ⟨4, rfl, by decide, by decide, for_range (fun i σ H' => ∃ v7 v8 v9 v10 v11 v12, σ = [some (.ref st), some (.ref t), some (.int n), some (.ref l), some (.ref d), some (.ref p), some (.ref q), v7, v8, v9, v10, v11, v12, none] ∧ Kp HB H' ∧ StAt K sc H' st ∧ Tabs [(Pt, lamQ)] H')
        ⟨v7, v8, v9, v10, none, none, rfl, k8, st8, t8⟩ (fun i σ H9 _ qq => ?_) fun σ H9 qq => ?_⟩
      · obtain ⟨v7, v8, v9, v10, v11, v12, rfl, k9, st9, t9⟩ := qq
        have hL4 := ok.chgs.hi
        refine ⟨(by show 0 ≤ sizeLine; exact Nat.zero_le _), fun o ho => ?_⟩
        have sa : Same H9 _ := same_upd (o := .lst []) ho
        have ka := k9.trans (kp_same sa)
        have newo := k9.new ho
        obtain ⟨o1, o2⟩ := st9.ne ho
        have oa : upd H9 o (.lst []) o = some (.lst []) := upd_same
        have sta := st9.ext sa
        have ta := t9.ext sa
        generalize upd H9 o (.lst []) = Ha at ka oa sta ta
        refine ⟨_, rfl, _, rfl, q, _, rfl, .inl (SqL.of (ka.strs hqB)), _, _, rfl, rfl, st, (L.length : Int) + 1, by rw [hmN]; rfl, by omega, sta, fun Hb kb stb vb ab bb => ⟨vb, rfl, by omega, by omega, ?_⟩⟩
        refine for_range (fun j σ H' => j ≤ vb.toNat ∧ ∃ ys v12, σ = [some (.ref st), some (.ref t), some (.int n), some (.ref l), some (.ref d), some (.ref p), some (.ref q), v7, v8, some (.int (0 + (i : Int))), v10, some (.ref o), v12, none] ∧ Kp HB H' ∧ StAt K sc H' st ∧ Tabs [(Pt, lamQ)] H' ∧ H' o = some (.lst (ys.map V.str)) ∧ ys.length = j ∧ ys.Nodup ∧ ∀ y ∈ ys, y ∈ names L)
          ⟨Nat.zero_le _, [], v12, rfl, ka.trans kb.n, stb, tabs_keep kb ta, kb.strs (ns := []) oa, rfl, List.nodup_nil, (fun y hy => absurd hy List.not_mem_nil)⟩ (fun j σ Hc hj qq => ?_) fun σ Hc qq => ?_
        · obtain ⟨_, ys, v12, rfl, kc, stc, tc, oc, leny, ndy, iny⟩ := qq
          refine ⟨_, rfl, .inl ⟨rfl, _, SqL.of oc⟩, _, rfl, _, rfl, q, rfl, ⟨_, SqL.of (kc.strs hqB)⟩, fun D' hD' => ?_⟩
          refine lc_it (walk_list (K := K) (a := q) (xs := (names L).map V.str)) (fun i' H' => Same Hc H' ∧ H' D' = some (.lst ((left ((names L).take i') ys).map V.str))) ⟨same_upd hD', by rw [upd_same, List.take_zero] <;> rfl⟩ (fun i' H' _ qq => SqL.of (qq.1 _ _ (kc.strs hqB))) (fun i' x Hd He hi' qq yy => ?_) (fun Hd qq => ?_)
          · obtain ⟨sd, dd⟩ := qq
            obtain ⟨rfl, hx⟩ := yy
            obtain ⟨y, hy, rfl⟩ := strs_at' hx
            have hil : i' < (names L).length := (List.getElem?_eq_some_iff.mp hy).1
            have et : left ((names L).take (i' + 1)) ys = left ((names L).take i') ys ++ if y ∈ ys then [] else [y] := by
              unfold left
              rw [List.take_add_one, hy, Option.toList_some, List.filter_append]
              congr 1
              by_cases hm : y ∈ ys
              · rw [if_pos hm, List.filter_cons, decide_eq_true hm] <;> rfl
              · rw [if_neg hm, List.filter_cons, decide_eq_false hm] <;> rfl
            refine ⟨rfl, _, rfl, _, rfl, o, ys.map V.str, rfl, .inl (SqL.of (sd _ _ oc)), rfl, flat_strs ys, _, rfl, ?_⟩
            show if (!inV (.str y) (ys.map V.str)) = true then _ else _
            rw [inV_strs]
            by_cases hm : y ∈ ys
            · rw [decide_eq_true hm]
              rw [if_pos hm, List.append_nil] at et
              exact iteF ⟨sd, by rw [et]; exact dd⟩
            · rw [decide_eq_false hm]
              rw [if_neg hm] at et
              refine iteT ⟨_, rfl, _, dd, small1000 ?_, fun b u e => ?_, ?_⟩
              · rw [List.length_map]
                have h1 : (left ((names L).take i') ys).length ≤ ((names L).take i').length := List.length_filter_le _ _
                rw [List.length_take] at h1
                have h2 : (names L).length = L.length := List.length_map ..
                have := ok.chgs.hi
                omega
              · rw [upd_ne (ne_of_none e hD')]
                exact sd _ _ e
              · rw [upd_same, et, List.map_append] <;> rfl
          · obtain ⟨sd, dd⟩ := qq
            have hnl : (names L).length = L.length := List.length_map ..
            rw [List.take_of_length_le (by rw [List.length_map]; exact Nat.le_refl _)] at dd
            have ne := left_ne nd (ys := ys) (by rw [leny, hnl]; omega)
            refine ⟨st, D', (left (names L) ys).map V.str, rfl, fun z => ne (List.map_eq_nil_iff.mp z), stc.ext sd, dd, notSt_strs _, fun He ke ste x hx => ?_⟩
            obtain ⟨y, hy, rfl⟩ := List.mem_map.mp hx
            obtain ⟨hy1, hy2⟩ := List.mem_filter.mp hy
            have hyn : y ∉ ys := fun z => by rw [decide_eq_true z] at hy2; cases hy2
            have kce : Keep Hc He := (Keep.of sd).trans ke
            have oe := kce.strs oc
            refine ⟨o, _, _, rfl, rfl, oe, small1000 (by rw [List.length_map]; have := ok.chgs.hi; omega), by omega, ys ++ [y], _, rfl, (kc.trans kce.n).upd newo, ste.off o1 o2, tabs_upd oe (tabs_keep kce tc), ?_, by rw [List.length_append, leny] <;> rfl, ?_, fun z hz => ?_⟩
            · rw [upd_same, List.map_append] <;> rfl
            · exact List.nodup_append.mpr ⟨ndy, List.nodup_cons.mpr ⟨List.not_mem_nil, List.nodup_nil⟩, fun a ha b hb => by
                obtain rfl := List.mem_singleton.mp hb
                exact fun z => hyn (by rw [← z]; exact ha)⟩
            · rcases List.mem_append.mp hz with z1 | z1
              · exact iny z z1
              · obtain rfl := List.mem_singleton.mp z1
                exact hy1
        · obtain ⟨_, ys, v12, rfl, kc, stc, tc, oc, leny, ndy, iny⟩ := qq
          have y4 : ys.length ≤ 4 := by have := ok.chgs.hi; omega
          refine ⟨_, rfl, n, rfl, by omega, by omega, fun D' hD' => ?_⟩
          refine lcR_ints (K := K) (st := st) (sc := sc) hD' stc (by omega) (fun jj Hf Qe kf stf kq => ?_) fun Hf xs kf stf ef lenx bdx => ?_
          · exact ⟨_, rfl, st, 8, rfl, by decide, stf, fun Hg kg stg v a b => kq v Hg kg stg a (by omega)⟩
          · refine .inl ⟨D', _, rfl, SqL.of ef, fun tq htq => ?_⟩
            have sg : Same Hf _ := same_upd (o := .tup (xs.map V.int)) htq
            have tqg : upd Hf tq (.tup (xs.map V.int)) tq = _ := upd_same
            have kcg : Keep Hc (upd Hf tq (.tup (xs.map V.int))) := kf.trans (Keep.of sg)
            have stg := stf.ext sg
            generalize upd Hf tq (.tup (xs.map V.int)) = Hg at tqg kcg stg
            have kg := kc.trans kcg.n
            have og := kcg.strs oc
            have tg := tabs_keep kcg tc
            have lenx : xs.length = n := by omega
            have xok : StoreOk xs := ⟨by omega, by omega, bdx⟩
            refine ⟨_, rfl, p, dx, _, rfl, kg.ins hp, no_w (by decide +kernel) (by decide +kernel) (by decide +kernel), _, rfl, _, rfl, .inl ⟨o, _, rfl, SqL.of og, fun u hu' => ?_⟩⟩
            have sh : Same Hg _ := same_upd (o := .tup (ys.map V.str)) hu'
            have kh := kg.trans (kp_same sh)
            refine ⟨p, tq, u, xs, ys, n, S, M, rfl, WorldAt.kn kh W, okM, sh _ _ tqg, xok, lenx, upd_same, ndy, y4, fun y hy => by rw [nML]; exact iny y hy, fun rk Hk sk ek => ?_⟩
            have skk := sh.trans sk
            refine ⟨_, rfl, _, rfl, _, rfl, t, tq, o, n, S, L, xs, ys, rfl, DrAt.kn (kg.trans (kp_same skk)) D, ok, skk _ _ tqg, xok, lenx, skk _ _ og, y4, iny, fun Hm rm' sm em => ?_⟩
            have eapp : appAll M ys xs = appAll L ys xs := app_twin eM ndM nd ys (fun y hy => iny y hy) xs
            refine ⟨_, _, dp_T (xs := appAll L ys xs) (by rw [← eapp]; exact sm _ _ ek), dp_T em, shp_T _, shp_T _, false, congrArg V.bl (by rw [eqv_shp (shp_T _)] <;> rfl), iteF ?_⟩
            have sall := skk.trans sm
            exact ⟨_, _, _, _, _, _, rfl, kg.trans (kp_same sall), stg.ext sall, tg.ext sall⟩
      · obtain ⟨v7, v8, v9, v10, v11, v12, rfl, k9, st9, t9⟩ := qq
        refine ⟨_, rfl, _, rfl, t, n, S, L, rfl, DrAt.kn k9 D, ok, fun Ha p2 M2 sa W2 eM2 => ?_⟩
        obtain ⟨⟨dy, _, _, hp2, _, _⟩, _⟩ := id W2
        have ka := k9.trans (kp_same sa)
        refine ⟨⟨p, p2, dx, dy, _, _, rfl, rfl, ka.ins hp, hp2, n, S, M, S, M2, WorldAt.kn ka W, W2, ⟨rfl, ?_⟩, okM.chgs⟩, fun Hb eb => kk Hb (kB.trans (ka.trans (kp_same eb))) ((t9.ext sa).ext eb)⟩
        show nc M = nc M2
        rw [eM, eM2]
end
end OP
namespace OP
open PySem PySem.Spec PyProof.Rows L2 LamX
theorem rg3 : ∀ k : Nat, k < 25 → ((3 : Int) ≠ 0 ∧ (3 : Int).natAbs < 1073741824 ∧ Builtin.Range.small 0 (k : Int) 3 = true ∧ Builtin.Range.rangeSize 0 (k : Int) 3 = ((Builtin.Range.rangeSize 0 (k : Int) 3).toNat : Int)) := by decide +kernel
theorem rg3' {j : Int} (h0 : 0 ≤ j) (h : j < 25) : ∃ n, RgC 0 j 3 n := by
  obtain ⟨k, rfl⟩ := nat_of h0
  exact ⟨_, rg3 k (by omega)⟩
section
variable {P : Program} {w : World} {K : PySem.W.Frag} {mg : Str → Option Value} {base : Heap}
def spLaw (K : PySem.W.Frag) (Pt : Addr) : Sp := fun vs H Q _ => ∃ (a : Addr) (ns : List Int), vs = [.ref a] ∧ SqL K H a (ns.map V.int) ∧ Tabs [(Pt, lamQ)] H ∧ ∀ H', Q (.bl true) H'
theorem sc_law : FnScope ["_law_script", "_law_by"] ["_law_script"] (defScope s_law) := ⟨rfl, rfl, rfl, by decide +kernel, rfl, by decide +kernel, by decide +kernel⟩
theorem fn_law (T : Txt K mg) {Pt : Addr} (LT : LamTab K mg base Pt) {fd : FuncData} (FL : Fun K "law" "law" s_law (a_law K) fd) : FnOk P w K mg base CX0 13 (a_law K) fd ["_law_script"] (spLaw K Pt) := by
  have GR : ∀ sc, Ok P w K mg base (a__law_one_right K) ["_law_state"] 12 (spRight K sc Pt) := fun sc => ok_right T LT
  refine FL.ok sc_law (fun vs H Q E h => ?_) (fun cdv A outer s0 H vs Q E hr h => ?_)
  · obtain ⟨a, ns, rfl, _⟩ := h
    rfl
  · obtain ⟨a, ns, rfl, ha, tabs, kk⟩ := h
    refine ⟨_, pss_cons (ps_for PassesOwn.never rfl (pi_range3 (by rfl) T.z_range (pa_cons pe_int (pa_cons (pe_callB (call_max2 rfl) (by rfl) T.z_max (by decide +kernel) (pa_cons pe_int (pa_cons (pe_callB (call_min2 rfl) (by rfl) T.z_min (by decide +kernel) (pa_cons pe_int (pa_cons (pe_callB call_len_seq (by rfl) T.z_len PySem.boot_len (pa_cons (pv 0) pa_nil)) pa_nil))) pa_nil))) (pa_cons pe_int pa_nil)))) (pg_name (i := 1) sc_law.nd rfl (Or.inl rfl))
        (pss_one (ps_if (pt_not (pt_val (pe_c (GR a) hr T.g__law_one_right (pa_cons (pe_lst (pa_cons (pv 0) (pa_cons (pv 1) (pa_cons pe_int pa_nil)))) pa_nil)))) (pss_one (ps_ret pe_bl)) pss_nil)))
      (pss_one (ps_ret pe_bl)), ?_⟩
    have hm : (ns.map V.int).length = ns.length := List.length_map ..
    have bd : ∀ z : Int, 0 ≤ z → 0 ≤ (if (if z < 24 then z else 24) > 1 then (if z < 24 then z else 24) else 1) ∧ (if (if z < 24 then z else 24) > 1 then (if z < 24 then z else 24) else 1) < 25 := fun z hz => by
      constructor
      · split
        · split <;> omega
        · omega
      · split
        · split <;> omega
        · omega
    obtain ⟨b1, b2⟩ := bd ((ns.map V.int).length : Int) (by omega)
    obtain ⟨n, rg⟩ := rg3' b1 b2
    refine ⟨_, rfl, a, _, rfl, .inl ha, _, _, rfl, _, _, rfl, 0, _, 3, n, rfl, rg, ?_⟩
    refine for_rangeC (fun i σ H' => (∃ v1, σ = [some (.ref a), v1]) ∧ SqL K H' a (ns.map V.int) ∧ Tabs [(Pt, lamQ)] H') ⟨⟨none, rfl⟩, ha, tabs⟩ (fun i σ H' _ q => ?_) fun σ H' q => ?_
    · obtain ⟨⟨v1, rfl⟩, ha', t'⟩ := q
      refine ⟨_, rfl, _, rfl, (by show 3 ≤ sizeLine; decide), fun st hst => ?_⟩
      have s1 : Same H' _ := same_upd (o := .lst [.ref a, .int (0 + (i : Nat) * 3), .int 0]) hst
      refine ⟨st, rfl, ⟨ns, _, _, upd_same, Same.seq s1 ha', by omega, by omega⟩, t'.ext s1, fun H2 k2 t2 => ⟨true, rfl, iteF ?_⟩⟩
      exact ⟨⟨_, rfl⟩, kp_sq k2 (Same.seq s1 ha'), t2⟩
    · exact kk H'
end
end OP
namespace OP
open PySem PySem.Spec PyProof.Rows L2
def d_Put_init : He5.DefA := ⟨fun K => a_Put_init K, "__init__", "Put.__init__", defArgs s_Put_init, defBody s_Put_init, defScope s_Put_init, [], []⟩
def d_Put_eq : He5.DefA := ⟨fun K => a_Put_eq K, "__eq__", "Put.__eq__", defArgs s_Put_eq, defBody s_Put_eq, defScope s_Put_eq, [], []⟩
def d_Put_slots : He5.DefA := ⟨fun K => a_Put_slots K, "slots", "Put.slots", defArgs s_Put_slots, defBody s_Put_slots, defScope s_Put_slots, [], []⟩
def d_Put_apply : He5.DefA := ⟨fun K => a_Put_apply K, "apply", "Put.apply", defArgs s_Put_apply, defBody s_Put_apply, defScope s_Put_apply, [], []⟩
def d_Move_init : He5.DefA := ⟨fun K => a_Move_init K, "__init__", "Move.__init__", defArgs s_Move_init, defBody s_Move_init, defScope s_Move_init, [], []⟩
def d_Move_eq : He5.DefA := ⟨fun K => a_Move_eq K, "__eq__", "Move.__eq__", defArgs s_Move_eq, defBody s_Move_eq, defScope s_Move_eq, [], []⟩
def d_Move_slots : He5.DefA := ⟨fun K => a_Move_slots K, "slots", "Move.slots", defArgs s_Move_slots, defBody s_Move_slots, defScope s_Move_slots, [], []⟩
def d_Move_apply : He5.DefA := ⟨fun K => a_Move_apply K, "apply", "Move.apply", defArgs s_Move_apply, defBody s_Move_apply, defScope s_Move_apply, [], []⟩
def d_Add_init : He5.DefA := ⟨fun K => a_Add_init K, "__init__", "Add.__init__", defArgs s_Add_init, defBody s_Add_init, defScope s_Add_init, [], []⟩
def d_Add_eq : He5.DefA := ⟨fun K => a_Add_eq K, "__eq__", "Add.__eq__", defArgs s_Add_eq, defBody s_Add_eq, defScope s_Add_eq, [], []⟩
def d_Add_slots : He5.DefA := ⟨fun K => a_Add_slots K, "slots", "Add.slots", defArgs s_Add_slots, defBody s_Add_slots, defScope s_Add_slots, [], []⟩
def d_Add_apply : He5.DefA := ⟨fun K => a_Add_apply K, "apply", "Add.apply", defArgs s_Add_apply, defBody s_Add_apply, defScope s_Add_apply, [], []⟩
def d_AddSlot_init : He5.DefA := ⟨fun K => a_AddSlot_init K, "__init__", "AddSlot.__init__", defArgs s_AddSlot_init, defBody s_AddSlot_init, defScope s_AddSlot_init, [], []⟩
def d_AddSlot_eq : He5.DefA := ⟨fun K => a_AddSlot_eq K, "__eq__", "AddSlot.__eq__", defArgs s_AddSlot_eq, defBody s_AddSlot_eq, defScope s_AddSlot_eq, [], []⟩
def d_AddSlot_slots : He5.DefA := ⟨fun K => a_AddSlot_slots K, "slots", "AddSlot.slots", defArgs s_AddSlot_slots, defBody s_AddSlot_slots, defScope s_AddSlot_slots, [], []⟩
def d_AddSlot_apply : He5.DefA := ⟨fun K => a_AddSlot_apply K, "apply", "AddSlot.apply", defArgs s_AddSlot_apply, defBody s_AddSlot_apply, defScope s_AddSlot_apply, [], []⟩
def d_Raise_init : He5.DefA := ⟨fun K => a_Raise_init K, "__init__", "Raise.__init__", defArgs s_Raise_init, defBody s_Raise_init, defScope s_Raise_init, [], []⟩
def d_Raise_eq : He5.DefA := ⟨fun K => a_Raise_eq K, "__eq__", "Raise.__eq__", defArgs s_Raise_eq, defBody s_Raise_eq, defScope s_Raise_eq, [], []⟩
def d_Raise_slots : He5.DefA := ⟨fun K => a_Raise_slots K, "slots", "Raise.slots", defArgs s_Raise_slots, defBody s_Raise_slots, defScope s_Raise_slots, [], []⟩
def d_Raise_apply : He5.DefA := ⟨fun K => a_Raise_apply K, "apply", "Raise.apply", defArgs s_Raise_apply, defBody s_Raise_apply, defScope s_Raise_apply, [], []⟩
def d_Lower_init : He5.DefA := ⟨fun K => a_Lower_init K, "__init__", "Lower.__init__", defArgs s_Lower_init, defBody s_Lower_init, defScope s_Lower_init, [], []⟩
def d_Lower_eq : He5.DefA := ⟨fun K => a_Lower_eq K, "__eq__", "Lower.__eq__", defArgs s_Lower_eq, defBody s_Lower_eq, defScope s_Lower_eq, [], []⟩
def d_Lower_slots : He5.DefA := ⟨fun K => a_Lower_slots K, "slots", "Lower.slots", defArgs s_Lower_slots, defBody s_Lower_slots, defScope s_Lower_slots, [], []⟩
def d_Lower_apply : He5.DefA := ⟨fun K => a_Lower_apply K, "apply", "Lower.apply", defArgs s_Lower_apply, defBody s_Lower_apply, defScope s_Lower_apply, [], []⟩
def d_If_init : He5.DefA := ⟨fun K => a_If_init K, "__init__", "If.__init__", defArgs s_If_init, defBody s_If_init, defScope s_If_init, [], []⟩
def d_If_eq : He5.DefA := ⟨fun K => a_If_eq K, "__eq__", "If.__eq__", defArgs s_If_eq, defBody s_If_eq, defScope s_If_eq, [], []⟩
def d_If_slots : He5.DefA := ⟨fun K => a_If_slots K, "slots", "If.slots", defArgs s_If_slots, defBody s_If_slots, defScope s_If_slots, [], []⟩
def d_If_apply : He5.DefA := ⟨fun K => a_If_apply K, "apply", "If.apply", defArgs s_If_apply, defBody s_If_apply, defScope s_If_apply, [], []⟩
def d_is_number : He5.DefA := ⟨fun K => a_is_number K, "is_number", "is_number", defArgs s_is_number, defBody s_is_number, defScope s_is_number, [], []⟩
def d_is_store : He5.DefA := ⟨fun K => a_is_store K, "is_store", "is_store", defArgs s_is_store, defBody s_is_store, defScope s_is_store, [], []⟩
def d_check_slot : He5.DefA := ⟨fun K => a_check_slot K, "check_slot", "check_slot", defArgs s_check_slot, defBody s_check_slot, defScope s_check_slot, [], []⟩
def d_check_value : He5.DefA := ⟨fun K => a_check_value K, "check_value", "check_value", defArgs s_check_value, defBody s_check_value, defScope s_check_value, [], []⟩
def d_check_store : He5.DefA := ⟨fun K => a_check_store K, "check_store", "check_store", defArgs s_check_store, defBody s_check_store, defScope s_check_store, [], []⟩
def d_replaced : He5.DefA := ⟨fun K => a_replaced K, "replaced", "replaced", defArgs s_replaced, defBody s_replaced, defScope s_replaced, [], []⟩
def d_World_init : He5.DefA := ⟨fun K => a_World_init K, "__init__", "World.__init__", defArgs s_World_init, defBody s_World_init, defScope s_World_init, [], []⟩
def d_World_eq : He5.DefA := ⟨fun K => a_World_eq K, "__eq__", "World.__eq__", defArgs s_World_eq, defBody s_World_eq, defScope s_World_eq, [], []⟩
def d_World_slots : He5.DefA := ⟨fun K => a_World_slots K, "slots", "World.slots", defArgs s_World_slots, defBody s_World_slots, defScope s_World_slots, [], []⟩
def d_World_stores : He5.DefA := ⟨fun K => a_World_stores K, "stores", "World.stores", defArgs s_World_stores, defBody s_World_stores, defScope s_World_stores, [], []⟩
def d_World_names : He5.DefA := ⟨fun K => a_World_names K, "names", "World.names", defArgs s_World_names, defBody s_World_names, defScope s_World_names, [], []⟩
def d_World_change : He5.DefA := ⟨fun K => a_World_change K, "change", "World.change", defArgs s_World_change, defBody s_World_change, defScope s_World_change, [], []⟩
def d_World_end : He5.DefA := ⟨fun K => a_World_end K, "end", "World.end", defArgs s_World_end, defBody s_World_end, defScope s_World_end, [], []⟩
def d_World_sets : He5.DefA := ⟨fun K => a_World_sets K, "sets", "World.sets", defArgs s_World_sets, defBody s_World_sets, defScope s_World_sets, [], []⟩
def d_is_known : He5.DefA := ⟨fun K => a_is_known K, "is_known", "is_known", defArgs s_is_known, defBody s_is_known, defScope s_is_known, [], []⟩
def d_is_order : He5.DefA := ⟨fun K => a_is_order K, "is_order", "is_order", defArgs s_is_order, defBody s_is_order, defScope s_is_order, [], []⟩
def d_is_store_of : He5.DefA := ⟨fun K => a_is_store_of K, "is_store_of", "is_store_of", defArgs s_is_store_of, defBody s_is_store_of, defScope s_is_store_of, [], []⟩
def d_are_initial_stores : He5.DefA := ⟨fun K => a_are_initial_stores K, "are_initial_stores", "are_initial_stores", defArgs s_are_initial_stores, defBody s_are_initial_stores, defScope s_are_initial_stores, [], []⟩
def d_check_changes : He5.DefA := ⟨fun K => a_check_changes K, "check_changes", "check_changes", defArgs s_check_changes, defBody s_check_changes, defScope s_check_changes, [], []⟩
def d_is_name : He5.DefA := ⟨fun K => a_is_name K, "is_name", "is_name", defArgs s_is_name, defBody s_is_name, defScope s_is_name, [], []⟩
def d_uses_only : He5.DefA := ⟨fun K => a_uses_only K, "uses_only", "uses_only", defArgs s_uses_only, defBody s_uses_only, defScope s_uses_only, [], []⟩
def d_one_larger : He5.DefA := ⟨fun K => a_one_larger K, "one_larger", "one_larger", defArgs s_one_larger, defBody s_one_larger, defScope s_one_larger, [], []⟩
def d__law_cell_at : He5.DefA := ⟨fun K => a__law_cell_at K, "_law_cell_at", "_law_cell_at", defArgs s__law_cell_at, defBody s__law_cell_at, defScope s__law_cell_at, [], []⟩
def d__law_draw : He5.DefA := ⟨fun K => a__law_draw K, "_law_draw", "_law_draw", defArgs s__law_draw, defBody s__law_draw, defScope s__law_draw, [], []⟩
def d__law_number : He5.DefA := ⟨fun K => a__law_number K, "_law_number", "_law_number", defArgs s__law_number, defBody s__law_number, defScope s__law_number, [], []⟩
def d__law_next : He5.DefA := ⟨fun K => a__law_next K, "_law_next", "_law_next", defArgs s__law_next, defBody s__law_next, defScope s__law_next, [], []⟩
def d__law_pick : He5.DefA := ⟨fun K => a__law_pick K, "_law_pick", "_law_pick", defArgs s__law_pick, defBody s__law_pick, defScope s__law_pick, [], []⟩
def d__law_change : He5.DefA := ⟨fun K => a__law_change K, "_law_change", "_law_change", defArgs s__law_change, defBody s__law_change, defScope s__law_change, [], []⟩
def d__law_made : He5.DefA := ⟨fun K => a__law_made K, "_law_made", "_law_made", defArgs s__law_made, defBody s__law_made, defScope s__law_made, [], []⟩
def d__law_after : He5.DefA := ⟨fun K => a__law_after K, "_law_after", "_law_after", defArgs s__law_after, defBody s__law_after, defScope s__law_after, [], []⟩
def d__law_drawn : He5.DefA := ⟨fun K => a__law_drawn K, "_law_drawn", "_law_drawn", defArgs s__law_drawn, defBody s__law_drawn, defScope s__law_drawn, [], []⟩
def d__law_world : He5.DefA := ⟨fun K => a__law_world K, "_law_world", "_law_world", defArgs s__law_world, defBody s__law_world, defScope s__law_world, [], []⟩
def d__law_sets : He5.DefA := ⟨fun K => a__law_sets K, "_law_sets", "_law_sets", defArgs s__law_sets, defBody s__law_sets, defScope s__law_sets, [], []⟩
def d__law_end : He5.DefA := ⟨fun K => a__law_end K, "_law_end", "_law_end", defArgs s__law_end, defBody s__law_end, defScope s__law_end, [], []⟩
def d__law_places : He5.DefA := ⟨fun K => a__law_places K, "_law_places", "_law_places", defArgs s__law_places, defBody s__law_places, defScope s__law_places, [], []⟩
def d__law_one_right : He5.DefA := ⟨fun K => a__law_one_right K, "_law_one_right", "_law_one_right", defArgs s__law_one_right, defBody s__law_one_right, defScope s__law_one_right, [], []⟩
def d_law : He5.DefA := ⟨fun K => a_law K, "law", "law", defArgs s_law, defBody s_law, defScope s_law, [], []⟩
def fn : List He5.DefA := [d_Put_init, d_Put_eq, d_Put_slots, d_Put_apply, d_Move_init, d_Move_eq, d_Move_slots, d_Move_apply, d_Add_init, d_Add_eq, d_Add_slots, d_Add_apply, d_AddSlot_init, d_AddSlot_eq, d_AddSlot_slots, d_AddSlot_apply, d_Raise_init, d_Raise_eq, d_Raise_slots, d_Raise_apply, d_Lower_init, d_Lower_eq, d_Lower_slots, d_Lower_apply, d_If_init, d_If_eq, d_If_slots, d_If_apply, d_is_number, d_is_store, d_check_slot, d_check_value, d_check_store, d_replaced, d_World_init, d_World_eq, d_World_slots, d_World_stores, d_World_names, d_World_change, d_World_end, d_World_sets, d_is_known, d_is_order, d_is_store_of, d_are_initial_stores, d_check_changes, d_is_name, d_uses_only, d_one_larger, d__law_cell_at, d__law_draw, d__law_number, d__law_next, d__law_pick, d__law_change, d__law_made, d__law_after, d__law_drawn, d__law_world, d__law_sets, d__law_end, d__law_places, d__law_one_right, d_law]
def fa : List He.Fa := [.glo "Change", .glo "Put", .glo "Move", .glo "Add", .glo "AddSlot", .glo "Raise", .glo "Lower", .glo "If", .glo "is_number", .glo "is_store", .glo "check_slot", .glo "check_value", .glo "check_store", .glo "replaced", .glo "World", .glo "is_known", .glo "is_order", .glo "is_store_of", .glo "are_initial_stores", .glo "check_changes", .glo "is_name", .glo "uses_only", .glo "one_larger", .glo "_law_cell_at", .glo "_law_draw", .glo "_law_number", .glo "_law_next", .glo "_law_pick", .glo "_law_change", .glo "_law_made", .glo "_law_after", .glo "_law_drawn", .glo "_law_world", .glo "_law_sets", .glo "_law_end", .glo "_law_places", .glo "_law_one_right", .glo "law", .int "MOST_SLOTS" 3, .int "MOST_LETTERS" 8, .int "MOST_STORES" 8, .int "LEAST_CHANGES" 2, .int "MOST_CHANGES" 4, .str "LETTERS" "abcdefghijklmnopqrstuvwxyz", .free "isinstance", .free "int", .free "bool", .free "tuple", .free "list", .free "dict", .free "str", .free "set", .free "len", .free "all", .free "any", .free "sorted", .free "max", .free "min", .free "range", .cls "Put", .mkr "Put", .noat "Put" "slot", .noat "Put" "value", .meth "Put" "__eq__", .meth "Put" "apply", .cls "Move", .mkr "Move", .noat "Move" "slot", .noat "Move" "source", .meth "Move" "__eq__", .meth "Move" "apply", .cls "Add", .mkr "Add", .noat "Add" "slot", .noat "Add" "value", .meth "Add" "__eq__", .meth "Add" "apply", .cls "AddSlot", .mkr "AddSlot", .noat "AddSlot" "slot", .noat "AddSlot" "source", .meth "AddSlot" "__eq__", .meth "AddSlot" "apply", .cls "Raise", .mkr "Raise", .noat "Raise" "slot", .noat "Raise" "value", .meth "Raise" "__eq__", .meth "Raise" "apply", .cls "Lower", .mkr "Lower", .noat "Lower" "slot", .noat "Lower" "value", .meth "Lower" "__eq__", .meth "Lower" "apply", .cls "If", .mkr "If", .noat "If" "slot", .noat "If" "value", .noat "If" "inner", .meth "If" "__eq__", .meth "If" "apply", .cls "World", .mkr "World", .noat "World" "width", .noat "World" "starts", .noat "World" "made", .meth "World" "__eq__", .meth "World" "change", .meth "World" "end", .meth "World" "sets"]
def propB (K : PySem.W.Frag) (C : Addr) (f : Str) : Bool := He.eqO (PySem.W.findIn K (.ref C) f) (some (some (.ref (He.ma K C f)))) && (He.eqO (PySem.W.specialIn K (.ref (He.ma K C f)) "__get__") (some (some (.builtin "property.__get__"))) &&
  (decide (PySem.W.takesIn K (.ref (He.ma K C f)) = some true) && (match PySem.W.recIn K (He.ma K C f) "property" with
    | some (.ref _ :: _) => true
    | _ => false)))
theorem prop_ok {K : PySem.W.Frag} {C : Addr} {f : Str} (h : propB K C f = true) : PropOf K C f (He.ma K C f) (He5.wf K C "property" f) := by
  obtain ⟨h1, h⟩ := He.ba h
  obtain ⟨h2, h⟩ := He.ba h
  obtain ⟨h3, h4⟩ := He.ba h
  refine ⟨He.eqO_ok h1, He.eqO_ok h2, of_decide_eq_true h3, ?_⟩
  unfold He5.wf
  split at h4
  · rename_i g r e
    exact ⟨r, by rw [e]⟩
  · cases h4
def modB (K : PySem.W.Frag) (C : Addr) : Bool := PySem.W.readsIn K C (.type "type") && (He.eqO (PySem.W.specialIn K (.ref C) "__getattribute__") (some (some (.builtin "type.__getattribute__"))) && (match PySem.W.findCls K (.ref C) (.type "type") "MODULUS" with
  | some (.val (.int i _)) => decide (i = 8)
  | _ => false))
theorem mod_ok {K : PySem.W.Frag} {C : Addr} (h : modB K C = true) : ∃ u, ClX.CRead K C (.type "type") ∧ ClX.CVal K C (.type "type") "MODULUS" (.int 8) u := by
  obtain ⟨h1, h⟩ := He.ba h
  obtain ⟨h2, h3⟩ := He.ba h
  split at h3
  · rename_i i t e
    obtain rfl := of_decide_eq_true h3
    exact ⟨_, ⟨h1, He.eqO_ok h2⟩, e, ⟨_, rfl⟩⟩
  · cases h3
theorem own_ok {K : PySem.W.Frag} {C : Addr} (c : Cls K C) (h : (He.eqO (PySem.W.specialIn K (.builtin "object.__class__") "__get__") (some (some (.builtin "getset_descriptor.__get__"))) && decide (PySem.W.takesIn K (.builtin "object.__class__") = some true)) = true)
    (h2 : (He.eqO (PySem.W.findIn K (.ref C) "__class__") (some (some (.builtin "object.__class__"))) && decide (PySem.W.mroIn K C (.type "object") = some true)) = true) : Own K C := by
  obtain ⟨a1, a2⟩ := He.ba h
  obtain ⟨b1, b2⟩ := He.ba h2
  exact ⟨c, He.eqO_ok b1, He.eqO_ok a1, of_decide_eq_true a2, of_decide_eq_true b2⟩
def exs (K : PySem.W.Frag) : List Bool := [(He.eqO (PySem.W.specialIn K (.builtin "object.__class__") "__get__") (some (some (.builtin "getset_descriptor.__get__"))) && decide (PySem.W.takesIn K (.builtin "object.__class__") = some true)),
  (He.eqO (PySem.W.findIn K (.ref (c_Put K)) "__class__") (some (some (.builtin "object.__class__"))) && decide (PySem.W.mroIn K (c_Put K) (.type "object") = some true)),
  propB K (c_Put K) "slots",
  (He.eqO (PySem.W.findIn K (.ref (c_Move K)) "__class__") (some (some (.builtin "object.__class__"))) && decide (PySem.W.mroIn K (c_Move K) (.type "object") = some true)),
  propB K (c_Move K) "slots",
  (He.eqO (PySem.W.findIn K (.ref (c_Add K)) "__class__") (some (some (.builtin "object.__class__"))) && decide (PySem.W.mroIn K (c_Add K) (.type "object") = some true)),
  propB K (c_Add K) "slots",
  (He.eqO (PySem.W.findIn K (.ref (c_AddSlot K)) "__class__") (some (some (.builtin "object.__class__"))) && decide (PySem.W.mroIn K (c_AddSlot K) (.type "object") = some true)),
  propB K (c_AddSlot K) "slots",
  (He.eqO (PySem.W.findIn K (.ref (c_Raise K)) "__class__") (some (some (.builtin "object.__class__"))) && decide (PySem.W.mroIn K (c_Raise K) (.type "object") = some true)),
  propB K (c_Raise K) "slots",
  (He.eqO (PySem.W.findIn K (.ref (c_Lower K)) "__class__") (some (some (.builtin "object.__class__"))) && decide (PySem.W.mroIn K (c_Lower K) (.type "object") = some true)),
  propB K (c_Lower K) "slots",
  (He.eqO (PySem.W.findIn K (.ref (c_If K)) "__class__") (some (some (.builtin "object.__class__"))) && decide (PySem.W.mroIn K (c_If K) (.type "object") = some true)),
  propB K (c_If K) "slots",
  (He.eqO (PySem.W.findIn K (.ref (c_World K)) "__class__") (some (some (.builtin "object.__class__"))) && decide (PySem.W.mroIn K (c_World K) (.type "object") = some true)),
  propB K (c_World K) "slots",
  propB K (c_World K) "stores",
  propB K (c_World K) "names",
  decide (PySem.W.kitOne K (.ref (c_Put K)) (.ref (c_Change K)) = some true),
  decide (PySem.W.kitOne K (.ref (c_Put K)) (.ref (c_If K)) = some false),
  decide (PySem.W.kitOne K (.ref (c_Move K)) (.ref (c_Change K)) = some true),
  decide (PySem.W.kitOne K (.ref (c_Move K)) (.ref (c_If K)) = some false),
  decide (PySem.W.kitOne K (.ref (c_Add K)) (.ref (c_Change K)) = some true),
  decide (PySem.W.kitOne K (.ref (c_Add K)) (.ref (c_If K)) = some false),
  decide (PySem.W.kitOne K (.ref (c_AddSlot K)) (.ref (c_Change K)) = some true),
  decide (PySem.W.kitOne K (.ref (c_AddSlot K)) (.ref (c_If K)) = some false),
  decide (PySem.W.kitOne K (.ref (c_Raise K)) (.ref (c_Change K)) = some true),
  decide (PySem.W.kitOne K (.ref (c_Raise K)) (.ref (c_If K)) = some false),
  decide (PySem.W.kitOne K (.ref (c_Lower K)) (.ref (c_Change K)) = some true),
  decide (PySem.W.kitOne K (.ref (c_Lower K)) (.ref (c_If K)) = some false),
  decide (PySem.W.kitOne K (.ref (c_If K)) (.ref (c_Change K)) = some true),
  decide (PySem.W.kitOne K (.ref (c_If K)) (.ref (c_If K)) = some true),
  modB K (c_Change K)]
abbrev tf : List He.Defn := [("_law_sets", none)]
/-! ### the hook: facts, defs, more of the classes, the table of one def -/
structure SaysO (h : Heap) (K : PySem.W.Frag) : Prop where
  a : He5.SaysA fa fn K
  more : (exs K).all id = true
  hd : ∀ p ∈ tf, PySem.W.codeHdIn K (He.cT K p).1 (He.cT K p).2 = true
  out : ∀ p ∈ tf, K.lookup (He.cT K p).2 = none
  empty : ∀ p ∈ tf, h.get? (He.cT K p).2 = some { cls := .none, data := .fields #[] }
def frO (g : Addr → Option Obj) : PySem.W.Frag := He.frT g (He5.asA g 5)
def obsO (g : Addr → Option Obj) : He.AlD × Bool := (He5.obsA fa fn (frO g), (exs (frO g)).all id && He.tabsB g tf (frO g))
theorem saysO_of {h : Heap} (e : obsO h.get? = (He5.valA fn, true)) : SaysO h (frO h.get?) := by
  have e1 : He5.obsA fa fn (frO h.get?) = He5.valA fn := congrArg (fun z : He.AlD × Bool => z.1) e
  have e2 : ((exs (frO h.get?)).all id && He.tabsB h.get? tf (frO h.get?)) = true := congrArg (fun z : He.AlD × Bool => z.2) e
  obtain ⟨h1, h2⟩ := He.ba e2
  have key : ∀ p ∈ tf, PySem.W.codeHdIn (frO h.get?) (He.cT (frO h.get?) p).1 (He.cT (frO h.get?) p).2 = true ∧ ∃ o, h.get? (He.cT (frO h.get?) p).2 = some o ∧ He.emptyTab o = true := fun p hp => by
    obtain ⟨h3, h4⟩ := He.ba (List.all_eq_true.mp h2 p hp)
    refine ⟨h3, ?_⟩
    cases q : h.get? (He.cT (frO h.get?) p).2 with
    | none => rw [q] at h4; cases h4
    | some o => rw [q] at h4; exact ⟨o, rfl, h4⟩
  refine ⟨e1, h1, fun p hp => (key p hp).1, fun p hp => ?_, fun p hp => ?_⟩
  · obtain ⟨_, o, q, z⟩ := key p hp
    exact He.frT_none q z
  · obtain ⟨_, o, q, z⟩ := key p hp
    rw [q, He.emptyTab_eq z]
def hookO : PySem.W.Hook where
  α := He.AlD × Bool
  obs := fun s => obsO s.heap.get?
  val := fun _ => (He5.valA fn, true)
  says := fun _ h => ∃ K : PySem.W.Frag, K.In h ∧ SaysO h K
  of := fun _ _ e => ⟨_, He.frT_in, saysO_of e⟩
  keeps := fun _ _ _ ⟨K, hK, c⟩ k => ⟨K, PySem.W.Frag.In.keeps hK k, ⟨c.a, c.more, c.hd, c.out, fun p hp => k _ _ (c.empty p hp)⟩⟩
theorem SaysO.ex {h : Heap} {K : PySem.W.Frag} (c : SaysO h K) (i : Nat) {b : Bool} (hb : (exs K)[i]? = some b := by rfl) : b = true := List.all_eq_true.mp c.more b (List.mem_of_getElem? hb)
theorem txt_of {h : Heap} {K : PySem.W.Frag} {mg : Str → Option Value} (X : K.In h) (G : h.Ns mainGlobals mg) (s : SaysO h K) : Txt K mg := by
  have c := s.a
  have e := fun (i : Nat) {b : Bool} (hb : (exs K)[i]? = some b) => s.ex i hb
  exact {
    f_Put_init := by obtain ⟨fd, F⟩ := c.def_ 0; exact ⟨fd, He5.fun_of F⟩
    f_Put_eq := by obtain ⟨fd, F⟩ := c.def_ 1; exact ⟨fd, He5.fun_of F⟩
    f_Put_slots := by obtain ⟨fd, F⟩ := c.def_ 2; exact ⟨fd, He5.fun_of F⟩
    f_Put_apply := by obtain ⟨fd, F⟩ := c.def_ 3; exact ⟨fd, He5.fun_of F⟩
    f_Move_init := by obtain ⟨fd, F⟩ := c.def_ 4; exact ⟨fd, He5.fun_of F⟩
    f_Move_eq := by obtain ⟨fd, F⟩ := c.def_ 5; exact ⟨fd, He5.fun_of F⟩
    f_Move_slots := by obtain ⟨fd, F⟩ := c.def_ 6; exact ⟨fd, He5.fun_of F⟩
    f_Move_apply := by obtain ⟨fd, F⟩ := c.def_ 7; exact ⟨fd, He5.fun_of F⟩
    f_Add_init := by obtain ⟨fd, F⟩ := c.def_ 8; exact ⟨fd, He5.fun_of F⟩
    f_Add_eq := by obtain ⟨fd, F⟩ := c.def_ 9; exact ⟨fd, He5.fun_of F⟩
    f_Add_slots := by obtain ⟨fd, F⟩ := c.def_ 10; exact ⟨fd, He5.fun_of F⟩
    f_Add_apply := by obtain ⟨fd, F⟩ := c.def_ 11; exact ⟨fd, He5.fun_of F⟩
    f_AddSlot_init := by obtain ⟨fd, F⟩ := c.def_ 12; exact ⟨fd, He5.fun_of F⟩
    f_AddSlot_eq := by obtain ⟨fd, F⟩ := c.def_ 13; exact ⟨fd, He5.fun_of F⟩
    f_AddSlot_slots := by obtain ⟨fd, F⟩ := c.def_ 14; exact ⟨fd, He5.fun_of F⟩
    f_AddSlot_apply := by obtain ⟨fd, F⟩ := c.def_ 15; exact ⟨fd, He5.fun_of F⟩
    f_Raise_init := by obtain ⟨fd, F⟩ := c.def_ 16; exact ⟨fd, He5.fun_of F⟩
    f_Raise_eq := by obtain ⟨fd, F⟩ := c.def_ 17; exact ⟨fd, He5.fun_of F⟩
    f_Raise_slots := by obtain ⟨fd, F⟩ := c.def_ 18; exact ⟨fd, He5.fun_of F⟩
    f_Raise_apply := by obtain ⟨fd, F⟩ := c.def_ 19; exact ⟨fd, He5.fun_of F⟩
    f_Lower_init := by obtain ⟨fd, F⟩ := c.def_ 20; exact ⟨fd, He5.fun_of F⟩
    f_Lower_eq := by obtain ⟨fd, F⟩ := c.def_ 21; exact ⟨fd, He5.fun_of F⟩
    f_Lower_slots := by obtain ⟨fd, F⟩ := c.def_ 22; exact ⟨fd, He5.fun_of F⟩
    f_Lower_apply := by obtain ⟨fd, F⟩ := c.def_ 23; exact ⟨fd, He5.fun_of F⟩
    f_If_init := by obtain ⟨fd, F⟩ := c.def_ 24; exact ⟨fd, He5.fun_of F⟩
    f_If_eq := by obtain ⟨fd, F⟩ := c.def_ 25; exact ⟨fd, He5.fun_of F⟩
    f_If_slots := by obtain ⟨fd, F⟩ := c.def_ 26; exact ⟨fd, He5.fun_of F⟩
    f_If_apply := by obtain ⟨fd, F⟩ := c.def_ 27; exact ⟨fd, He5.fun_of F⟩
    f_is_number := by obtain ⟨fd, F⟩ := c.def_ 28; exact ⟨fd, He5.fun_of F⟩
    f_is_store := by obtain ⟨fd, F⟩ := c.def_ 29; exact ⟨fd, He5.fun_of F⟩
    f_check_slot := by obtain ⟨fd, F⟩ := c.def_ 30; exact ⟨fd, He5.fun_of F⟩
    f_check_value := by obtain ⟨fd, F⟩ := c.def_ 31; exact ⟨fd, He5.fun_of F⟩
    f_check_store := by obtain ⟨fd, F⟩ := c.def_ 32; exact ⟨fd, He5.fun_of F⟩
    f_replaced := by obtain ⟨fd, F⟩ := c.def_ 33; exact ⟨fd, He5.fun_of F⟩
    f_World_init := by obtain ⟨fd, F⟩ := c.def_ 34; exact ⟨fd, He5.fun_of F⟩
    f_World_eq := by obtain ⟨fd, F⟩ := c.def_ 35; exact ⟨fd, He5.fun_of F⟩
    f_World_slots := by obtain ⟨fd, F⟩ := c.def_ 36; exact ⟨fd, He5.fun_of F⟩
    f_World_stores := by obtain ⟨fd, F⟩ := c.def_ 37; exact ⟨fd, He5.fun_of F⟩
    f_World_names := by obtain ⟨fd, F⟩ := c.def_ 38; exact ⟨fd, He5.fun_of F⟩
    f_World_change := by obtain ⟨fd, F⟩ := c.def_ 39; exact ⟨fd, He5.fun_of F⟩
    f_World_end := by obtain ⟨fd, F⟩ := c.def_ 40; exact ⟨fd, He5.fun_of F⟩
    f_World_sets := by obtain ⟨fd, F⟩ := c.def_ 41; exact ⟨fd, He5.fun_of F⟩
    f_is_known := by obtain ⟨fd, F⟩ := c.def_ 42; exact ⟨fd, He5.fun_of F⟩
    f_is_order := by obtain ⟨fd, F⟩ := c.def_ 43; exact ⟨fd, He5.fun_of F⟩
    f_is_store_of := by obtain ⟨fd, F⟩ := c.def_ 44; exact ⟨fd, He5.fun_of F⟩
    f_are_initial_stores := by obtain ⟨fd, F⟩ := c.def_ 45; exact ⟨fd, He5.fun_of F⟩
    f_check_changes := by obtain ⟨fd, F⟩ := c.def_ 46; exact ⟨fd, He5.fun_of F⟩
    f_is_name := by obtain ⟨fd, F⟩ := c.def_ 47; exact ⟨fd, He5.fun_of F⟩
    f_uses_only := by obtain ⟨fd, F⟩ := c.def_ 48; exact ⟨fd, He5.fun_of F⟩
    f_one_larger := by obtain ⟨fd, F⟩ := c.def_ 49; exact ⟨fd, He5.fun_of F⟩
    f__law_cell_at := by obtain ⟨fd, F⟩ := c.def_ 50; exact ⟨fd, He5.fun_of F⟩
    f__law_draw := by obtain ⟨fd, F⟩ := c.def_ 51; exact ⟨fd, He5.fun_of F⟩
    f__law_number := by obtain ⟨fd, F⟩ := c.def_ 52; exact ⟨fd, He5.fun_of F⟩
    f__law_next := by obtain ⟨fd, F⟩ := c.def_ 53; exact ⟨fd, He5.fun_of F⟩
    f__law_pick := by obtain ⟨fd, F⟩ := c.def_ 54; exact ⟨fd, He5.fun_of F⟩
    f__law_change := by obtain ⟨fd, F⟩ := c.def_ 55; exact ⟨fd, He5.fun_of F⟩
    f__law_made := by obtain ⟨fd, F⟩ := c.def_ 56; exact ⟨fd, He5.fun_of F⟩
    f__law_after := by obtain ⟨fd, F⟩ := c.def_ 57; exact ⟨fd, He5.fun_of F⟩
    f__law_drawn := by obtain ⟨fd, F⟩ := c.def_ 58; exact ⟨fd, He5.fun_of F⟩
    f__law_world := by obtain ⟨fd, F⟩ := c.def_ 59; exact ⟨fd, He5.fun_of F⟩
    f__law_sets := by obtain ⟨fd, F⟩ := c.def_ 60; exact ⟨fd, He5.fun_of F⟩
    f__law_end := by obtain ⟨fd, F⟩ := c.def_ 61; exact ⟨fd, He5.fun_of F⟩
    f__law_places := by obtain ⟨fd, F⟩ := c.def_ 62; exact ⟨fd, He5.fun_of F⟩
    f__law_one_right := by obtain ⟨fd, F⟩ := c.def_ 63; exact ⟨fd, He5.fun_of F⟩
    f_law := by obtain ⟨fd, F⟩ := c.def_ 64; exact ⟨fd, He5.fun_of F⟩
    g_Change := He.glo_ok X G (c.fact 0)
    g_Put := He.glo_ok X G (c.fact 1)
    g_Move := He.glo_ok X G (c.fact 2)
    g_Add := He.glo_ok X G (c.fact 3)
    g_AddSlot := He.glo_ok X G (c.fact 4)
    g_Raise := He.glo_ok X G (c.fact 5)
    g_Lower := He.glo_ok X G (c.fact 6)
    g_If := He.glo_ok X G (c.fact 7)
    g_is_number := He.glo_ok X G (c.fact 8)
    g_is_store := He.glo_ok X G (c.fact 9)
    g_check_slot := He.glo_ok X G (c.fact 10)
    g_check_value := He.glo_ok X G (c.fact 11)
    g_check_store := He.glo_ok X G (c.fact 12)
    g_replaced := He.glo_ok X G (c.fact 13)
    g_World := He.glo_ok X G (c.fact 14)
    g_is_known := He.glo_ok X G (c.fact 15)
    g_is_order := He.glo_ok X G (c.fact 16)
    g_is_store_of := He.glo_ok X G (c.fact 17)
    g_are_initial_stores := He.glo_ok X G (c.fact 18)
    g_check_changes := He.glo_ok X G (c.fact 19)
    g_is_name := He.glo_ok X G (c.fact 20)
    g_uses_only := He.glo_ok X G (c.fact 21)
    g_one_larger := He.glo_ok X G (c.fact 22)
    g__law_cell_at := He.glo_ok X G (c.fact 23)
    g__law_draw := He.glo_ok X G (c.fact 24)
    g__law_number := He.glo_ok X G (c.fact 25)
    g__law_next := He.glo_ok X G (c.fact 26)
    g__law_pick := He.glo_ok X G (c.fact 27)
    g__law_change := He.glo_ok X G (c.fact 28)
    g__law_made := He.glo_ok X G (c.fact 29)
    g__law_after := He.glo_ok X G (c.fact 30)
    g__law_drawn := He.glo_ok X G (c.fact 31)
    g__law_world := He.glo_ok X G (c.fact 32)
    g__law_sets := He.glo_ok X G (c.fact 33)
    g__law_end := He.glo_ok X G (c.fact 34)
    g__law_places := He.glo_ok X G (c.fact 35)
    g__law_one_right := He.glo_ok X G (c.fact 36)
    g_law := He.glo_ok X G (c.fact 37)
    i_MOST_SLOTS := He.int_ok X G (c.fact 38)
    i_MOST_LETTERS := He.int_ok X G (c.fact 39)
    i_MOST_STORES := He.int_ok X G (c.fact 40)
    i_LEAST_CHANGES := He.int_ok X G (c.fact 41)
    i_MOST_CHANGES := He.int_ok X G (c.fact 42)
    letters := He.str_ok X G (c.fact 43)
    z_isinstance := He.free_ok X G (c.fact 44)
    z_int := He.free_ok X G (c.fact 45)
    z_bool := He.free_ok X G (c.fact 46)
    z_tuple := He.free_ok X G (c.fact 47)
    z_list := He.free_ok X G (c.fact 48)
    z_dict := He.free_ok X G (c.fact 49)
    z_str := He.free_ok X G (c.fact 50)
    z_set := He.free_ok X G (c.fact 51)
    z_len := He.free_ok X G (c.fact 52)
    z_all := He.free_ok X G (c.fact 53)
    z_any := He.free_ok X G (c.fact 54)
    z_sorted := He.free_ok X G (c.fact 55)
    z_max := He.free_ok X G (c.fact 56)
    z_min := He.free_ok X G (c.fact 57)
    z_range := He.free_ok X G (c.fact 58)
    o_Put := own_ok (He.cls_ok (c.fact 59)) (s.ex 0) (s.ex 1)
    mk_Put := He.mkr_ok (c.fact 60)
    n_Put_slot := He.noat_ok (c.fact 61)
    n_Put_value := He.noat_ok (c.fact 62)
    m_Put_eq := He.meth_ok (c.fact 63)
    m_Put_apply := He.meth_ok (c.fact 64)
    p_Put_slots := prop_ok (s.ex 2)
    o_Move := own_ok (He.cls_ok (c.fact 65)) (s.ex 0) (s.ex 3)
    mk_Move := He.mkr_ok (c.fact 66)
    n_Move_slot := He.noat_ok (c.fact 67)
    n_Move_source := He.noat_ok (c.fact 68)
    m_Move_eq := He.meth_ok (c.fact 69)
    m_Move_apply := He.meth_ok (c.fact 70)
    p_Move_slots := prop_ok (s.ex 4)
    o_Add := own_ok (He.cls_ok (c.fact 71)) (s.ex 0) (s.ex 5)
    mk_Add := He.mkr_ok (c.fact 72)
    n_Add_slot := He.noat_ok (c.fact 73)
    n_Add_value := He.noat_ok (c.fact 74)
    m_Add_eq := He.meth_ok (c.fact 75)
    m_Add_apply := He.meth_ok (c.fact 76)
    p_Add_slots := prop_ok (s.ex 6)
    o_AddSlot := own_ok (He.cls_ok (c.fact 77)) (s.ex 0) (s.ex 7)
    mk_AddSlot := He.mkr_ok (c.fact 78)
    n_AddSlot_slot := He.noat_ok (c.fact 79)
    n_AddSlot_source := He.noat_ok (c.fact 80)
    m_AddSlot_eq := He.meth_ok (c.fact 81)
    m_AddSlot_apply := He.meth_ok (c.fact 82)
    p_AddSlot_slots := prop_ok (s.ex 8)
    o_Raise := own_ok (He.cls_ok (c.fact 83)) (s.ex 0) (s.ex 9)
    mk_Raise := He.mkr_ok (c.fact 84)
    n_Raise_slot := He.noat_ok (c.fact 85)
    n_Raise_value := He.noat_ok (c.fact 86)
    m_Raise_eq := He.meth_ok (c.fact 87)
    m_Raise_apply := He.meth_ok (c.fact 88)
    p_Raise_slots := prop_ok (s.ex 10)
    o_Lower := own_ok (He.cls_ok (c.fact 89)) (s.ex 0) (s.ex 11)
    mk_Lower := He.mkr_ok (c.fact 90)
    n_Lower_slot := He.noat_ok (c.fact 91)
    n_Lower_value := He.noat_ok (c.fact 92)
    m_Lower_eq := He.meth_ok (c.fact 93)
    m_Lower_apply := He.meth_ok (c.fact 94)
    p_Lower_slots := prop_ok (s.ex 12)
    o_If := own_ok (He.cls_ok (c.fact 95)) (s.ex 0) (s.ex 13)
    mk_If := He.mkr_ok (c.fact 96)
    n_If_slot := He.noat_ok (c.fact 97)
    n_If_value := He.noat_ok (c.fact 98)
    n_If_inner := He.noat_ok (c.fact 99)
    m_If_eq := He.meth_ok (c.fact 100)
    m_If_apply := He.meth_ok (c.fact 101)
    p_If_slots := prop_ok (s.ex 14)
    o_World := own_ok (He.cls_ok (c.fact 102)) (s.ex 0) (s.ex 15)
    mk_World := He.mkr_ok (c.fact 103)
    n_World_width := He.noat_ok (c.fact 104)
    n_World_starts := He.noat_ok (c.fact 105)
    n_World_made := He.noat_ok (c.fact 106)
    m_World_eq := He.meth_ok (c.fact 107)
    m_World_change := He.meth_ok (c.fact 108)
    m_World_end := He.meth_ok (c.fact 109)
    m_World_sets := He.meth_ok (c.fact 110)
    p_World_slots := prop_ok (s.ex 16)
    p_World_stores := prop_ok (s.ex 17)
    p_World_names := prop_ok (s.ex 18)
    k_Put := of_decide_eq_true (s.ex 19)
    kIf_Put := of_decide_eq_true (s.ex 20)
    k_Move := of_decide_eq_true (s.ex 21)
    kIf_Move := of_decide_eq_true (s.ex 22)
    k_Add := of_decide_eq_true (s.ex 23)
    kIf_Add := of_decide_eq_true (s.ex 24)
    k_AddSlot := of_decide_eq_true (s.ex 25)
    kIf_AddSlot := of_decide_eq_true (s.ex 26)
    k_Raise := of_decide_eq_true (s.ex 27)
    kIf_Raise := of_decide_eq_true (s.ex 28)
    k_Lower := of_decide_eq_true (s.ex 29)
    kIf_Lower := of_decide_eq_true (s.ex 30)
    k_If := of_decide_eq_true (s.ex 31)
    kIf_If := of_decide_eq_true (s.ex 32)
    modulus := mod_ok (s.ex 33)
  }
abbrev R : PySem.W.OpenRow := PySem.W.OpenLaw.row PySem.Challenge.rw_orderpairs_k31_whole_worlds
def ob (s : PySem.W.SharedT) : He.AlD × Bool := obsO (HandSHeadRun.getT s)
theorem ob_eq (s : PySem.W.SharedT) : ob s = hookO.obs s.abs := by
  have e : HandSHeadRun.getT s = s.abs.heap.get? := funext (HandSHeadRun.getT_eq s)
  unfold ob
  rw [e] <;> rfl
def loose0 : List Str := [("__name__" : Str), ("OrderError" : Str), ("BadChange" : Str), ("BadWorld" : Str), ("BadName" : Str), ("BadStore" : Str), ("BadOrder" : Str), ("MOST_SLOTS" : Str), ("Change" : Str), ("Put" : Str), ("Move" : Str), ("Add" : Str)]
def loose1 : List Str := [("AddSlot" : Str), ("Raise" : Str), ("Lower" : Str), ("If" : Str), ("is_number" : Str), ("is_store" : Str), ("check_slot" : Str), ("check_value" : Str), ("check_store" : Str), ("replaced" : Str), ("LETTERS" : Str), ("MOST_LETTERS" : Str)]
def loose2 : List Str := [("MOST_STORES" : Str), ("LEAST_CHANGES" : Str), ("MOST_CHANGES" : Str), ("World" : Str), ("is_known" : Str), ("is_order" : Str), ("is_store_of" : Str), ("are_initial_stores" : Str), ("check_changes" : Str), ("is_name" : Str), ("uses_only" : Str), ("one_larger" : Str)]
def loose3 : List Str := [("_law_cell_at" : Str), ("_law_draw" : Str), ("_law_number" : Str), ("_law_next" : Str), ("_law_pick" : Str), ("_law_change" : Str), ("_law_made" : Str), ("_law_after" : Str), ("_law_drawn" : Str), ("_law_world" : Str), ("_law_sets" : Str), ("_law_orders" : Str)]
def loose4 : List Str := [("_law_end" : Str), ("_law_split" : Str), ("_law_policies" : Str), ("_law_policy" : Str), ("_law_places" : Str), ("_law_one_right" : Str)]
def loose : List Str := loose0 ++ loose1 ++ loose2 ++ loose3 ++ loose4
end OP
namespace OP
open PySem PySem.Spec PyProof.Rows L2
theorem run (w : World) : HandSHeadRun.RunEq R (PySem.W.view R.prog [57]) hookO ob 30000 loose w := by
  intro os
  kernel_rfl
end OP
namespace OP
open PySem PySem.Spec PyProof.Rows L2 LamX
theorem law_at {w : World} {K : PySem.W.Frag} {h : Heap} {mg : Str → Option Value} {f : Addr} (X : K.In h) (G : h.Ns mainGlobals mg) (hfa : mg ("law" : Str) = some (.ref f)) (s : SaysO h K) : LawAtS PySem.Challenge.rw_orderpairs_k31_whole_worlds w K CX0 13 63 "_law_script" mg f h := by
  have T := txt_of X G s
  have e := hfa.symm.trans T.g_law
  obtain rfl : f = a_law K := Value.ref.inj (Option.some.inj e)
  have ps : (("_law_sets", none) : He.Defn) ∈ tf := List.mem_singleton.mpr rfl
  obtain ⟨fd, FS⟩ := T.f__law_sets
  obtain ⟨oc, od, kV, doc, pm, an, cdv, ct, osl, rfl, lk, hcd⟩ := FS.ex
  obtain ⟨c, rfl⟩ := He.codeIn_ref hcd
  have ec : He.codeOf K ("_law_sets", none) = c := He.codeOf_eq lk rfl
  obtain ⟨fdl, FL⟩ := T.f_law
  obtain ⟨oc2, od2, kV2, doc2, pm2, an2, cdv2, ct2, osl2, rfl, lk2, hcd2⟩ := id FL.ex
  refine ⟨PySem.W.fnOf "law" "law" (defArgs s_law) (defBody s_law) (defScope s_law) .none kV2 doc2 pm2 an2 cdv2 ct2, tf.map (He.cT K), spLaw K (He.cT K ("_law_sets", none)).2, fun p hp => ?_, fun p hp => ?_, fun p hp => ?_, fun s v => .of_eq rfl, fun H a ns _ _ hH hS => ⟨a, ns, rfl, hS, fun q hq => ?_, fun _ => rfl⟩, fun base X' G' hT => ?_⟩
  · obtain ⟨d, hd, rfl⟩ := List.mem_map.mp hp
    exact s.empty d hd
  · obtain ⟨d, hd, rfl⟩ := List.mem_map.mp hp
    exact s.out d hd
  · obtain ⟨d, hd, rfl⟩ := List.mem_map.mp hp
    exact PySem.W.codeHd_of_K X (s.hd d hd)
  · obtain rfl := List.mem_singleton.mp hq
    exact TabS.nil (hH _ (List.mem_map.mpr ⟨_, ps, rfl⟩))
  · refine fn_law T ⟨⟨oc, od, kV, doc, pm, an, ct, osl, c, lk, hcd, ?_⟩, FS.kp⟩ FL
    have z := hT (He.cT K ("_law_sets", none)) (List.mem_map.mpr ⟨_, ps, rfl⟩)
    have e1 : (He.cT K ("_law_sets", none)).1 = c := ec
    rw [e1] at z
    exact z
end OP
open PySem PySem.W PySem.Calls PyProof.Rows
theorem PySem.Challenge.cw_orderpairs_k31_whole_worlds_holds : PySem.Challenge.rw_orderpairs_k31_whole_worlds.Holds := by
  w_on; o_law
  refine HandSHeadRun.head_any (r := OpenLaw.row PySem.Challenge.rw_orderpairs_k31_whole_worlds) (q := view (OpenLaw.row PySem.Challenge.rw_orderpairs_k31_whole_worlds).prog [57]) (H := OP.hookO) (ob := OP.ob) (M := 30000) (loose := OP.loose) (d := HandSHeadRun.topDef (OpenLaw.row PySem.Challenge.rw_orderpairs_k31_whole_worlds).prog 57) (kwd := []) OP.ob_eq
    (by kernel_rfl) (fun s => by kernel_rfl) OP.run (by kernel_rfl) (by kernel_rfl) (by kernel_rfl) (by rfl) (by first | assumption | decide +kernel) (by decide +kernel) ⟨rfl, rfl, rfl, rfl, rfl, by decide +kernel⟩ ?hw ?hc
  case hw => w_witness2
  case hc =>
    refine LamX.walk_ofTsE (l := PySem.Challenge.rw_orderpairs_k31_whole_worlds) (n := 63) (k := 13) (x := "_law_script") (CX := fun _ => L2.CX0) rfl (by decide) (by kernel_rfl) ⟨rfl, by decide, by decide⟩ ?F (fun _ _ _ _ _ z => z)
    intro w mg fa h Y G hmg0
    obtain ⟨K, KX, c⟩ := Y
    have hmg : mg ("law" : PySem.Str) = some (.ref fa) := by
      have e : (HandSHeadRun.topDef (OpenLaw.row PySem.Challenge.rw_orderpairs_k31_whole_worlds).prog 57).name = ("law" : PySem.Str) := by kernel_rfl
      rw [← e]
      exact hmg0
    exact ⟨K, KX, OP.law_at KX G hmg c⟩
