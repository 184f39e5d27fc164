import PyProof.Rows.All
import HandS.WordsExc
import HandS.Defaults
import HandS.More
import HandS.IsInst
import HandS.Head0
import HandS.Head1
import HandS.Head2
import HandS.Head3
import HandS.HeadEnd
import HandS.HeadHook1
import HandS.HeadHook2
import KE.KStateDown
import HandS.ForMost
import HandS.Evl
import HandS.TupSets
import KE.KeyNested
import HandS.Deep
import HandS.TupAny
import HandS.TupLe
import HandS.SortInts
import HandS.Conv
import HandS.TupMul
import KE.SortData
import HandS.Zip
import HandS.SetFor
import HandS.Strs
import KE.DataMinMax
import KE.GoesMore
import HandS.DictTup
import KE.KDictDisplayH
import KE.KDictList
import HandS.SetBool
import HandS.SetIn
import HandS.Rev
import HandS.ListItems
import HandS.Star
import HandS.TupLen
import PyProof.AutoSeq1
import PySem.Challenge.RW_resetcalls_k13_known_houses
section
set_option Elab.async false
set_option linter.all false
set_option maxRecDepth 100000
set_option maxHeartbeats 1000000
namespace VS
open PySem PySem.Spec PyProof.Rows L2
/-! ## the head: names that a module gives -/
/-- .. and the names of kinds -/
def kinds (ts : List (Str × String)) (K : PySem.W.Frag) : Bool := ts.all fun p => He.eqO (PySem.W.nsIn K mainGlobals p.1) (some (some (.type p.2)))
def obsT (n : Nat) (fa : List He.Fa) (fn : List He.DefD) (ts : List (Str × String)) (g : Addr → Option Obj) : He.AlD × Bool := (He.obsDG n fa fn g, kinds ts (He.frG g (He.asD g n)))
def hookT (n : Nat) (fa : List He.Fa) (fn : List He.DefD) (ts : List (Str × String)) : PySem.W.Hook where
  α := He.AlD × Bool
  obs := fun s => obsT n fa fn ts s.heap.get?
  val := fun _ => (He.valD fn, true)
  says := fun _ h => ∃ K : PySem.W.Frag, K.In h ∧ He.SaysD fa fn K ∧ kinds ts K = true
  of := fun _ _ e => ⟨_, He.frG_in, (Prod.mk.inj e).1, (Prod.mk.inj e).2⟩
  keeps := fun _ _ _ ⟨K, hK, c⟩ k => ⟨K, PySem.W.Frag.In.keeps hK k, c⟩
theorem obsT_eq {n : Nat} {fa : List He.Fa} {fn : List He.DefD} {ts : List (Str × String)} {g : Addr → Option Obj} {s : Shared} (h : ∀ a, g a = s.heap.get? a) : obsT n fa fn ts g = (hookT n fa fn ts).obs s := by
  have e : g = s.heap.get? := funext h
  rw [e] <;> rfl
theorem kind_ok {K : PySem.W.Frag} {h : Heap} {mg : Str → Option Value} {ts : List (Str × String)} (X : K.In h) (G : h.Ns mainGlobals mg) (c : kinds ts K = true) {x : Str} {T : String} (hm : (x, T) ∈ ts) : mg x = some (.type T) :=
  PySem.W.mg_of X G (He.eqO_ok (List.all_eq_true.mp c (x, T) hm))
end VS
end

section
set_option Elab.async false
set_option linter.all false
set_option maxRecDepth 100000
namespace K13
open PySem
def top (i : Nat) : Stmt := PySem.Challenge.pw_resetcalls_k13_known_houses.main.body.getD i (.Pass ⟨0, 0, 0, 0⟩)
end K13
end

section
set_option Elab.async false
set_option linter.all false
set_option maxRecDepth 100000
set_option maxHeartbeats 0
namespace K13
open PySem PySem.Spec PyProof.Rows L2
def dd (x : Str) (i : Nat) : He.DefD := ⟨(x, none), x, x, defArgs (top i), defBody (top i), defScope (top i), [], []⟩
def ddN (x : Str) (i : Nat) : He.DefD := ⟨(x, none), x, x, defArgs (top i), defBody (top i), defScope (top i), [.non], []⟩

def fn : List He.DefD := ([dd "is_number" 16, dd "is_hall" 17, dd "is_letter" 18, dd "is_tuple_of_halls" 19, dd "is_map" 20, dd "are_maps" 21, dd "is_ascending" 22, dd "is_lot" 23, dd "is_tie" 24, dd "is_net" 25, dd "is_one_to_one" 26, dd "house_fault" 27, dd "check_house" 28, dd "check_turns" 29, dd "check_number_of_halls" 30, dd "check_hall" 31, dd "check_lot" 32, dd "check_map" 33, dd "check_net" 34, dd "check_row" 35, dd "image" 37, dd "led" 38, dd "map_of" 39, dd "rows_from" 41, dd "rows_from_all" 42] : List He.DefD) ++ ([dd "first_row_to" 43, dd "fewest" 44, dd "is_reset_by" 45, dd "reset" 46, dd "has_reset" 47, dd "resets_to" 48, dd "lots" 49, dd "rank" 50, dd "fewest_row" 51, dd "homing" 52, dd "meeting" 53, dd "whole_net" 55, dd "wider_cliques" 56, dd "greatest_clique" 57, dd "least_numbers" 58, dd "colours" 59, dd "least_colours" 60, dd "is_barring" 61, dd "bar_by" 63, dd "never_meet" 64, dd "bar" 65, dd "check_few_halls" 68, dd "all_maps" 69, dd "is_reset_with" 70, dd "count_resetting" 71] : List He.DefD) ++ ([dd "resisting_maps" 72, dd "pair_lots" 75, dd "kept_nets" 76, dd "is_barring_in_part" 77, dd "barring_nets" 78, dd "group_bar" 79, ddN "resets_with" 80, dd "resets_all" 81, dd "with_hall" 84, dd "all_partings" 85, dd "leads_to_parts" 86, dd "partings_kept" 87, dd "parts_of_colours" 88, dd "section" 89, dd "is_transitive" 90, dd "is_pairwise" 91, dd "is_primitive" 92, dd "kept_partings" 93, dd "_law_taken" 95, dd "_law_circle" 96, dd "law" 97] : List He.DefD)
def fa : List He.Fa := ([.glo "is_number", .glo "is_hall", .glo "is_letter", .glo "is_tuple_of_halls", .glo "is_map", .glo "are_maps", .glo "is_ascending", .glo "is_lot", .glo "is_tie", .glo "is_net", .glo "is_one_to_one", .glo "house_fault", .glo "check_house", .glo "check_turns", .glo "check_number_of_halls", .glo "check_hall", .glo "check_lot", .glo "check_map", .glo "check_net", .glo "check_row", .glo "image", .glo "led", .glo "map_of", .glo "rows_from", .glo "rows_from_all"] : List He.Fa) ++ ([.glo "first_row_to", .glo "fewest", .glo "is_reset_by", .glo "reset", .glo "has_reset", .glo "resets_to", .glo "lots", .glo "rank", .glo "fewest_row", .glo "homing", .glo "meeting", .glo "whole_net", .glo "wider_cliques", .glo "greatest_clique", .glo "least_numbers", .glo "colours", .glo "least_colours", .glo "is_barring", .glo "bar_by", .glo "never_meet", .glo "bar", .glo "check_few_halls", .glo "all_maps", .glo "is_reset_with", .glo "count_resetting"] : List He.Fa) ++ ([.glo "resisting_maps", .glo "pair_lots", .glo "kept_nets", .glo "is_barring_in_part", .glo "barring_nets", .glo "group_bar", .glo "resets_with", .glo "resets_all", .glo "with_hall", .glo "all_partings", .glo "leads_to_parts", .glo "partings_kept", .glo "parts_of_colours", .glo "section", .glo "is_transitive", .glo "is_pairwise", .glo "is_primitive", .glo "kept_partings", .glo "_law_taken", .glo "_law_circle", .glo "law"] : List He.Fa) ++ [.free "all", .free "bool", .free "enumerate", .free "int", .free "isinstance", .free "len", .free "min", .free "range", .free "set", .free "sorted", .free "tuple", .free "zip"] ++ [.int "MOST_HALLS" 8, .int "MOST_LETTERS" 6, .int "MOST_CALLS" 100, .int "MOST_HALLS_COUNTED" 5, .int "MOST_NETS" 4096, .int "MOST_PARTINGS" 100]
def names : List Str := (["combinations", "CallError", "BadHouse", "BadHall", "BadLot", "BadRow", "BadNumber", "BadNet", "BadMap", "NotTurns", "TooMany", "MOST_HALLS", "MOST_LETTERS", "MOST_CALLS", "is_number", "is_hall", "is_letter", "is_tuple_of_halls", "is_map", "are_maps", "is_ascending", "is_lot", "is_tie", "is_net", "is_one_to_one"] : List Str) ++ (["house_fault", "check_house", "check_turns", "check_number_of_halls", "check_hall", "check_lot", "check_map", "check_net", "check_row", "image", "led", "map_of", "rows_from", "rows_from_all", "first_row_to", "fewest", "is_reset_by", "reset", "has_reset", "resets_to", "lots", "rank", "fewest_row", "homing", "meeting"] : List Str) ++ (["whole_net", "wider_cliques", "greatest_clique", "least_numbers", "colours", "least_colours", "is_barring", "bar_by", "never_meet", "bar", "MOST_HALLS_COUNTED", "check_few_halls", "all_maps", "is_reset_with", "count_resetting", "resisting_maps", "MOST_NETS", "pair_lots", "kept_nets", "is_barring_in_part", "barring_nets", "group_bar", "resets_with", "resets_all", "MOST_PARTINGS"] : List Str) ++ (["with_hall", "all_partings", "leads_to_parts", "partings_kept", "parts_of_colours", "section", "is_transitive", "is_pairwise", "is_primitive", "kept_partings", "_law_taken", "_law_circle"] : List Str)
def kd : List (Str × String) := [("combinations", "itertools.combinations")]
abbrev R : PySem.W.OpenRow := PySem.W.OpenLaw.row PySem.Challenge.rw_resetcalls_k13_known_houses
abbrev hk : PySem.W.Hook := VS.hookT 2 fa fn kd
def ob (s : PySem.W.SharedT) : He.AlD × Bool := VS.obsT 2 fa fn kd (HandSHeadRun.getT s)
theorem ob_eq (s : PySem.W.SharedT) : ob s = hk.obs s.abs := VS.obsT_eq (HandSHeadRun.getT_eq s)
theorem run (w : World) : HandSHeadRun.RunEqI R (PySem.W.view R.prog [0, 97]) hk ob 9000 names w := by
  unfold HandSHeadRun.RunEqI
  kernel_rfl
end K13
end

section
set_option Elab.async false
set_option linter.all false
set_option maxRecDepth 100000
set_option maxHeartbeats 2000000
namespace VS
open PySem PySem.Spec PyProof.Rows L2

/-! ## sets of nested tuples (no texts within), fewer than 64 -/
mutual
/-- no text within -/
def tf : NestedKey → Bool
  | .none => true
  | .num _ => true
  | .text _ => false
  | .tup ks => tfs ks
def tfs : List NestedKey → Bool
  | [] => true
  | k :: ks => tf k && tfs ks
end
mutual
/-- the hash of a key with no text: the same in each world -/
def nh : NestedKey → Int
  | .none => reduceHash 0xFCA86420
  | .num i => hashInt i
  | .text _ => 0
  | .tup ks => reduceHash (Builtin.Tuple.tupleHashOf (nhs ks))
def nhs : List NestedKey → List Int
  | [] => []
  | k :: ks => nh k :: nhs ks
end
mutual
theorem nh_eq (w : World) : ∀ k : NestedKey, tf k = true → k.hash w = nh k
  | .none, _ => rfl
  | .num _, _ => rfl
  | .text _, h => by simp [tf] at h
  | .tup ks, h => by
    rw [NestedKey.hash, nh, nhs_eq w ks (by simpa [tf] using h)]
theorem nhs_eq (w : World) : ∀ ks : List NestedKey, tfs ks = true → NestedKey.hashes w ks = nhs ks
  | [], _ => rfl
  | k :: ks, h => by
    simp only [tfs, Bool.and_eq_true] at h
    rw [NestedKey.hashes, nhs, nh_eq w k h.1, nhs_eq w ks h.2]
end
/-- at b stands the tuple k -/
def IsK (h : Heap) (k : NestedKey) (b : Addr) : Prop := NestedIs h k (.ref b) ∧ k.depth ≤ 8 ∧ tf k = true
theorem IsK.inj {h : Heap} {k k' : NestedKey} {b : Addr} (x : IsK h k b) (y : IsK h k' b) : k = k' := NestedIs.inj _ _ _ x.1 y.1
theorem IsK.keep {h h' : Heap} {k : NestedKey} {b : Addr} (x : IsK h k b) (hk : ∀ c o, h.get? c = some o → h'.get? c = some o) : IsK h' k b := ⟨NestedIs.at (fun c o _ _ e _ => hk c o e) _ _ x.1, x.2⟩
theorem IsK.typeIs {s : Shared} {k : NestedKey} {b : Addr} (x : IsK s.heap k b) : s.TypeIs (.ref b) "tuple" := by
  obtain ⟨x, _⟩ := x
  cases x with
  | tup h1 h2 _ _ => exact ⟨_, h1, h2⟩
/-- a change at a set leaves the tuples -/
theorem IsK.but {h h' : Heap} {k : NestedKey} {a b : Addr} {o : Obj} {es : Array (Int × Value)} {ep : Nat} {t : SetTable} (x : IsK h k b) (ho : h.get? a = some o) (hd : o.data = .set es ep t) (hs : Heap.SameBut a h h') : IsK h' k b :=
  ⟨NestedIs.at (fun c u vs n e z => by
    refine (hs.2 c fun q => ?_).trans e
    subst q
    rw [ho] at e
    cases e
    rw [hd] at z
    cases z) _ _ x.1, x.2⟩

section
variable {P : Program} {w : World} {A : Around} {E : Value → Shared → Prop} {s : Shared}
/-- no class statement within, n levels down -/
def NoCls (P : Program) (w : World) (n : Nat) (s : Shared) (v : Value) : Prop := ∀ (A : Around) (E : Value → Shared → Prop) (Q : Bool → Shared → Prop), Q false s → wpAny (model P w) A (ofAClassStatement n v) Q E s
def ByVal (P : Program) (w : World) (n : Nat) (s : Shared) (v : Value) : Prop := ∀ (A : Around) (E : Value → Shared → Prop) (Q : Bool → Shared → Prop), Q true s → wpAny (model P w) A (hashByValue n v) Q E s
theorem NoCls.tuple {n : Nat} {a : Addr} {o : Obj} {vs : Array Value} {m : Nat} (ho : s.heap.get? a = some o) (hc : o.cls = .type "tuple") (hd : o.data = .seq vs m) (hq : ∀ v ∈ vs.toList, NoCls P w n s v) : NoCls P w (n + 1) s (.ref a) := fun A E Q h => by
  have hT : s.TypeIs (.ref a) "tuple" := ⟨o, ho, hc⟩
  unfold ofAClassStatement
  refine wpAny_bind (wpAny_typeOf hT ?_)
  dsimp only
  have e : (("tuple" : String) == "tuple") = true := by decide
  simp only [e, if_true, Bool.not_true, Bool.false_eq_true, if_false]
  try refine wpAny_bind (wpAny_pure ?_)
  try simp only [Bool.not_true, Bool.false_eq_true, if_false]
  show wpAny _ _ (seqItems? (.ref a) >>= _) _ _ s
  refine wpAny_bind (wpAny_seqItems ho hd ?_)
  dsimp only
  refine wpAny_bind ?_
  show wpAny _ _ (forIn vs _ _) _ _ s
  rw [← Array.forIn_toList]
  refine wpAny_forIn_list _ (fun rest r s' => r.1 = none ∧ s' = s ∧ ∀ v ∈ rest, NoCls P w n s v) _ ?_ ?_ _ _ ⟨rfl, rfl, hq⟩
  · rintro v rest r s' ⟨hr, rfl, hall⟩
    refine wpAny_bind (hall v List.mem_cons_self _ _ _ ?_)
    simp only [Bool.false_eq_true, if_false]
    exact wpAny_pure ⟨rfl, rfl, fun u hu' => hall u (List.mem_cons_of_mem _ hu')⟩
  · rintro ⟨r1, r2⟩ s' ⟨hr, rfl, _⟩
    simp only at hr
    subst hr
    exact wpAny_pure h
theorem ByVal.tuple {n : Nat} {a : Addr} {o : Obj} {vs : Array Value} {m : Nat} (ho : s.heap.get? a = some o) (hc : o.cls = .type "tuple") (hd : o.data = .seq vs m) (hq : ∀ v ∈ vs.toList, ByVal P w n s v) : ByVal P w (n + 1) s (.ref a) := fun A E Q h => by
  have hT : s.TypeIs (.ref a) "tuple" := ⟨o, ho, hc⟩
  unfold hashByValue
  refine wpAny_bind (wpAny_specialOf hT F.slot_tuple_hash.lookup ?_)
  show wpAny _ _ (seqItems? (.ref a) >>= _) _ _ s
  refine wpAny_bind (wpAny_seqItems ho hd ?_)
  refine wpAny_bind ?_
  show wpAny _ _ (forIn vs _ _) _ _ s
  rw [← Array.forIn_toList]
  refine wpAny_forIn_list _ (fun rest r s' => r.1 = none ∧ s' = s ∧ ∀ v ∈ rest, ByVal P w n s v) _ ?_ ?_ _ _ ⟨rfl, rfl, hq⟩
  · rintro v rest r s' ⟨hr, rfl, hall⟩
    refine wpAny_bind (hall v List.mem_cons_self _ _ _ ?_)
    simp only [Bool.not_true, Bool.false_eq_true, if_false]
    exact wpAny_pure ⟨rfl, rfl, fun u hu' => hall u (List.mem_cons_of_mem _ hu')⟩
  · rintro ⟨r1, r2⟩ s' ⟨hr, rfl, _⟩
    simp only at hr
    subst hr
    exact wpAny_pure h
end
section
variable {P : Program} {w : World}
mutual
theorem noCls_key : ∀ (k : NestedKey) (v : Value) (n : Nat) (s : Shared), NestedIs s.heap k v → k.depth ≤ n → NoCls P w n s v
  | .none, _, n, s, x, _ => by cases x; intro A E Q h; cases n <;> exact wpAny_pure h
  | .num i, _, n, s, x, _ => by cases x <;> (intro A E Q h; cases n <;> exact wpAny_pure h)
  | .text y, _, n, s, x, _ => by cases x; intro A E Q h; cases n <;> exact wpAny_pure h
  | .tup ks, _, n, s, x, hn => by
    cases x with
    | tup hg hc hd hk =>
      simp only [NestedKey.depth] at hn
      cases n with
      | zero => omega
      | succ n => exact .tuple hg hc hd (noCls_keys ks _ n s hk (by omega))
theorem noCls_keys : ∀ (ks : List NestedKey) (vs : List Value) (n : Nat) (s : Shared), NestedAll s.heap ks vs → NestedKey.depthAll ks ≤ n → ∀ v ∈ vs, NoCls P w n s v
  | [], _, n, s, x, _, v, hv => by cases x; cases hv
  | k :: ks, _, n, s, x, hn, v, hv => by
    cases x with
    | cons x1 x2 =>
      simp only [NestedKey.depthAll] at hn
      rcases List.mem_cons.mp hv with e | hv
      · rw [e]; exact noCls_key k _ n s x1 (by omega)
      · exact noCls_keys ks _ n s x2 (by omega) v hv
end
mutual
theorem byVal_key : ∀ (k : NestedKey) (v : Value) (n : Nat) (s : Shared), NestedIs s.heap k v → tf k = true → k.depth ≤ n → ByVal P w n s v
  | .none, _, n, s, x, _, _ => by cases x; intro A E Q h; cases n <;> exact wpAny_pure h
  | .num i, _, n, s, x, _, _ => by cases x <;> (intro A E Q h; cases n <;> exact wpAny_pure h)
  | .text y, _, n, s, x, ht, _ => by simp [tf] at ht
  | .tup ks, _, n, s, x, ht, hn => by
    cases x with
    | tup hg hc hd hk =>
      simp only [NestedKey.depth] at hn
      cases n with
      | zero => omega
      | succ n => exact .tuple hg hc hd (byVal_keys ks _ n s hk (by simpa [tf] using ht) (by omega))
theorem byVal_keys : ∀ (ks : List NestedKey) (vs : List Value) (n : Nat) (s : Shared), NestedAll s.heap ks vs → tfs ks = true → NestedKey.depthAll ks ≤ n → ∀ v ∈ vs, ByVal P w n s v
  | [], _, n, s, x, _, _, v, hv => by cases x; cases hv
  | k :: ks, _, n, s, x, ht, hn, v, hv => by
    cases x with
    | cons x1 x2 =>
      simp only [NestedKey.depthAll] at hn
      simp only [tfs, Bool.and_eq_true] at ht
      rcases List.mem_cons.mp hv with e | hv
      · rw [e]; exact byVal_key k _ n s x1 ht.1 (by omega)
      · exact byVal_keys ks _ n s x2 ht.2 (by omega) v hv
end
end
section
variable {P : Program} {w : World} {A : Around} {E : Value → Shared → Prop} {s : Shared}
/-- a search among nested tuples shows nothing -/
theorem seen_key {k : NestedKey} {b : Addr} {Q : Bool → Shared → Prop} (hk : IsK s.heap k b) {ys : List Value} (hy : ∀ y ∈ ys, ∃ k' c, y = Value.ref c ∧ IsK s.heap k' c) (h : Q false s) : wpAny (model P w) A (searchCouldBeSeen (.ref b) ys) Q E s := by
  unfold searchCouldBeSeen
  refine wpAny_bind ?_
  refine wpAny_forIn_list _ (fun rest r s' => r.1 = none ∧ s' = s ∧ ∀ y ∈ rest, ∃ k' c, y = Value.ref c ∧ IsK s.heap k' c) _ ?_ ?_ _ _ ⟨rfl, rfl, hy⟩
  · rintro v rest r s' ⟨hr, rfl, hall⟩
    obtain ⟨k', c, rfl, hc⟩ := hall v List.mem_cons_self
    have rest' : ∀ y ∈ rest, ∃ k' c, y = Value.ref c ∧ IsK s'.heap k' c := fun u hu' => hall u (List.mem_cons_of_mem _ hu')
    dsimp only
    by_cases hv : (b == c || (carriedByValue (.ref b) && carriedByValue (.ref c))) = true
    · refine wp_if_pos hv ?_
      exact wpAny_pure ⟨rfl, rfl, rest'⟩
    · refine wp_if_neg hv ?_
      refine wpAny_bind (quiet_key k _ 8 s' hk.1 hk.2.1 _ _ _ ?_)
      simp only [Bool.not_true, Bool.false_eq_true, if_false]
      refine wpAny_bind (quiet_key k' _ 8 s' hc.1 hc.2.1 _ _ _ ?_)
      simp only [Bool.not_true, Bool.false_eq_true, if_false]
      refine wpAny_bind (noCls_key k _ 8 s' hk.1 hk.2.1 _ _ _ ?_)
      simp only [Bool.false_eq_true, if_false]
      refine wpAny_bind (noCls_key k' _ 8 s' hc.1 hc.2.1 _ _ _ ?_)
      simp only [Bool.false_eq_true, if_false]
      exact wpAny_pure ⟨rfl, rfl, rest'⟩
  · rintro ⟨r1, r2⟩ s' ⟨hr, rfl, _⟩
    simp only at hr
    subst hr
    exact wpAny_pure h
theorem eq_key {k k' : NestedKey} {b c : Addr} {Q : Bool → Shared → Prop} (hu : A.units + 8 < cLine) (hk : IsK s.heap k b) (hc : IsK s.heap k' c) (h : Q (decide (k = k')) s) : wpAny (model P w) A (eqBool (.ref b) (.ref c)) Q E s := by
  rw [NestedKey.decide_eq] at h
  have h1 := hk.2.1
  exact eqAt_key k k' A s _ _ hk.1 hc.1 (Nat.lt_of_le_of_lt (Nat.add_le_add_left (Nat.le_trans (Nat.min_le_left _ _) h1) _) hu) _ _ _ _ h
theorem hash_key {k : NestedKey} {b : Addr} {Q : Int → Shared → Prop} (hu : A.units + 8 < cLine) (hk : IsK s.heap k b) (h : Q (nh k) { s with toks := s.toks + k.draws }) : wpAny (model P w) A (pyHash (.ref b)) Q E s := by
  rw [← nh_eq w k hk.2.2] at h
  exact pyHash_key k _ A s Q hk.1 (Nat.lt_of_le_of_lt (Nat.add_le_add_left hk.2.1 _) hu) h

/-! ### the set -/
def rowsK (L : List (Addr × NestedKey)) : List (Int × Value) := L.map fun p => (nh p.2, Value.ref p.1)
abbrev hsK (L : List (Addr × NestedKey)) : List Int := L.map fun p => nh p.2
/-- the set at a (without the tuples themselves); fb: its order follows the text -/
structure SetK (fb : Bool) (h : Heap) (a : Addr) (L : List (Addr × NestedKey)) (es : Array (Int × Value)) (ep : Nat) (t : SetTable) : Prop where
  ob : ∃ o, h.get? a = some o ∧ o.ExactSet ∧ o.data = .set es ep t
  rows : es.toList = rowsK L
  tab : TabOk t (hsK L)
  nd : (L.map (·.2)).Nodup
  plain : t.plain = true
  led : fb = true ∨ t.led = true
  room : L.length * 5 < t.mask * 3
  few : L.length < 64
variable {fb : Bool} {a : Addr} {L : List (Addr × NestedKey)} {es : Array (Int × Value)} {ep : Nat} {t : SetTable}
theorem SetK.size {h : Heap} (R : SetK fb h a L es ep t) : es.size = L.length := by
  have h := congrArg List.length R.rows
  rwa [rowsK, Array.length_toList, List.length_map] at h
theorem SetK.fits {h : Heap} (R : SetK fb h a L es ep t) : t.fits es.size = true := by
  have h1 := R.tab.sz
  rw [List.length_map] at h1
  have h2 := R.size
  have h3 := R.room
  unfold SetTable.fits SetTable.fill
  rw [R.tab.dm, Bool.and_eq_true, beq_iff_eq, decide_eq_true_eq]
  show t.place.size = es.size ∧ t.place.size + 0 ≤ t.mask
  omega
theorem SetK.entry {h : Heap} (R : SetK fb h a L es ep t) {i : Nat} {p : Addr × NestedKey} (h : L[i]? = some p) : es[i]? = some (nh p.2, Value.ref p.1) := by
  rw [← Array.getElem?_toList, R.rows, rowsK, List.getElem?_map, h] <;> rfl
theorem SetK.gw {h : Heap} (R : SetK fb h a L es ep t) : ¬ t.gaveWay = true := by
  unfold SetTable.gaveWay
  rw [mask_odd R.tab.mok]
  decide
theorem SetK.keep {h h' : Heap} (R : SetK fb h a L es ep t) (k : ∀ o, h.get? a = some o → h'.get? a = some o) : SetK fb h' a L es ep t := by
  obtain ⟨o, ho, r⟩ := R.ob
  exact ⟨⟨o, k o ho, r⟩, R.rows, R.tab, R.nd, R.plain, R.led, R.room, R.few⟩

/-- the search, from the c-th step of the way on -/
theorem searchK_from (R : SetK fb s.heap a L es ep t) (tup : ∀ p ∈ L, IsK s.heap p.2 p.1) {x : Addr} {k : NestedKey} (hx : IsK s.heap k x) (hu : A.units + 8 < cLine) {adding : Bool} {K : Nat} (hKf : K < 10 * SetTable.turns t.mask)
    (hK : way t.mask (nh k) K ∉ t.place.toList) (hKb : ∀ c, c < K → way t.mask (nh k) c ∈ t.place.toList) {Q : SetFound → Shared → Prop}
    (hin : k ∈ L.map (·.2) → ∀ o, (adding = true → o = none) → (adding = false → o.isSome = true) → Q (.there o) s) (hout : k ∉ L.map (·.2) → Q (.free (way t.mask (nh k) K) false) s) :
    ∀ (f c : Nat) (stand : Option SetTable.Probe), stand.getD (t.probeStart (nh k)) = nth t.mask (runAt t.mask (SetTable.bits (nh k) % (t.mask + 1)) (SetTable.bits (nh k))) c → c ≤ K → K - c < f →
      (∀ (i : Nat) p, L[i]? = some p → p.2 = k → ∃ c', c ≤ c' ∧ c' < K ∧ t.place.toList[i]? = some (way t.mask (nh k) c')) →
      wpAny (model P w) A (setSearchFrom a (.ref x) (nh k) adding f stand) Q E s := by
  obtain ⟨p0, hp0⟩ : ∃ p0, p0 = runAt t.mask (SetTable.bits (nh k) % (t.mask + 1)) (SetTable.bits (nh k)) := ⟨_, rfl⟩
  have wy : ∀ n, (nth t.mask p0 n).j = way t.mask (nh k) n := fun n => by rw [hp0]
  rw [← hp0]
  have dm0 : ∀ (n : Nat) (p : SetTable.Probe), p.dummy = none → (nth t.mask p n).dummy = none := by
    intro n
    induction n with
    | zero => exact fun p h => h
    | succ n ih =>
      intro p h
      refine ih (adv t.mask p) ?_
      unfold adv
      split <;> exact h
  have hashAt : ∀ (i : Nat) p, L[i]? = some p → (es[i]?.map (·.1)).getD 0 = nh p.2 := fun i p hp => by
    rw [R.entry hp] <;> rfl
  intro f
  induction f with
  | zero => intro c stand _ _ hf; exact absurd hf (Nat.not_lt_zero _)
  | succ f ih =>
    intro c stand hst hc hf hre
    obtain ⟨o, ho, hex, hd⟩ := R.ob
    rw [setSearchFrom_succ]
    refine wpAny_bind (wpAny_setState_of ho hd R.fits ?_)
    dsimp only
    refine wp_if_neg R.gw ?_
    try refine wpAny_bind (wpAny_pure ?_)
    have sh : ∀ q, nth t.mask (nth t.mask p0 c) q = nth t.mask p0 (c + q) := fun q => (nth_add t.mask c p0 q).symm
    have e1 : ∀ q, (nth t.mask (nth t.mask p0 c) q).j = way t.mask (nh k) (c + q) := fun q => (congrArg SetTable.Probe.j (sh q)).trans (wy _)
    have spec := go_spec t R.tab.ris R.tab.dm (fun i => (es[i]?.map (·.1)).getD 0) (nh k) (10 * SetTable.turns t.mask) (K - c) (nth t.mask p0 c) (dm0 c p0 (by rw [hp0] <;> rfl)) (by omega)
      (fun q hq => by rw [e1]; exact hKb (c + q) (by omega)) (by rw [e1, show c + (K - c) = K by omega]; exact hK)
    rcases spec with ⟨q, i, hq, hi, hh, hno, hpr⟩ | ⟨hno, hpr⟩
    · have hpr' : t.probe (fun i => (es[i]?.map (·.1)).getD 0) (nh k) (stand.getD (t.probeStart (nh k))) = some (.candidate (way t.mask (nh k) (c + q)) i (nth t.mask p0 (c + (q + 1)))) := by
        rw [hst, ← e1, ← sh]
        exact hpr
      rw [hpr']
      dsimp only
      rw [e1] at hi
      have hil : i < L.length := by
        have h1 := (List.getElem?_eq_some_iff.mp hi).1
        have h2 := R.tab.sz
        rw [List.length_map] at h2
        rw [Array.length_toList] at h1
        omega
      obtain ⟨p, hp⟩ : ∃ p, L[i]? = some p := ⟨_, List.getElem?_eq_getElem hil⟩
      have hmem : p ∈ L := List.mem_of_getElem? hp
      have rest : wpAny (model P w) A (searchRest a (.ref x) (nh k) adding f es t (way t.mask (nh k) (c + q)) i (nth t.mask p0 (c + (q + 1)))) Q E s := by
        unfold searchRest
        rw [R.entry hp]
        dsimp only
        refine wpAny_bind (wpAny_holding (eq_key hu (tup p hmem) hx ?_))
        refine wpAny_bind (wpAny_setState_of ho hd R.fits ?_)
        dsimp only
        have hsl : t.slot (way t.mask (nh k) (c + q)) = .live i := slot_live R.tab.ris hi
        by_cases hz : (adding && decide (p.2 = k)) = true
        · refine wp_if_pos hz ?_
          rw [Bool.and_eq_true, decide_eq_true_eq] at hz
          exact wpAny_pure (hin (List.mem_map.mpr ⟨p, hmem, hz.2⟩) _ (fun _ => rfl) fun z => by rw [hz.1] at z; cases z)
        · refine wp_if_neg hz ?_
          try refine wpAny_bind (wpAny_pure ?_)
          rw [sameMem]
          dsimp only
          simp only [if_true, hsl, R.entry hp]
          refine wpAny_bind (wpAny_isSame_ref_self (wpAny_bind (wpAny_pure ?_)))
          simp only [if_true]
          by_cases hkk : p.2 = k
          · refine wp_if_pos (by simp [hkk]) ?_
            refine wpAny_pure (hin (List.mem_map.mpr ⟨p, hmem, hkk⟩) _ (fun z => ?_) fun _ => rfl)
            exact absurd (by rw [z, hkk] <;> simp) hz
          · refine wp_if_neg (by simp [hkk]) ?_
            refine ih (c + (q + 1)) _ rfl (by omega) (by omega) fun i0 p0' h0 hk0 => ?_
            obtain ⟨c', a1, a2, a3⟩ := hre i0 p0' h0 hk0
            refine ⟨c', ?_, a2, a3⟩
            rcases Nat.lt_trichotomy c' (c + q) with z | z | z
            · refine absurd ((hashAt i0 p0' h0).trans (congrArg nh hk0)) (hno (c' - c) i0 (by omega) ?_)
              rw [e1, show c + (c' - c) = c' by omega]
              exact a3
            · exfalso
              rw [z] at a3
              have s0 := slot_live R.tab.ris a3
              rw [hsl] at s0
              injection s0 with s0
              rw [← s0, hp] at h0
              exact hkk ((congrArg Prod.snd (Option.some.inj h0)).trans hk0)
            · omega
      by_cases hl : t.led = true
      · refine wp_if_neg (by simp [hl]) ?_
        try refine wpAny_bind (wpAny_pure ?_)
        exact rest
      · refine wp_if_pos (by simp [hl]) ?_
        refine wpAny_bind (seen_key hx (fun y hy => ?_) ?_)
        · obtain ⟨e, he, ee⟩ := List.mem_map.mp hy
          have he1 : e ∈ es ∧ e.1 = nh k := by simpa using he
          have he2 : e ∈ es.toList := by simpa using he1.1
          rw [R.rows] at he2
          obtain ⟨p2, hp2, e2⟩ := List.mem_map.mp he2
          exact ⟨p2.2, p2.1, by rw [← ee, ← e2], tup p2 hp2⟩
        · refine wp_if_neg (by decide) ?_
          try refine wpAny_bind (wpAny_pure ?_)
          exact rest
    · have hpr' : t.probe (fun i => (es[i]?.map (·.1)).getD 0) (nh k) (stand.getD (t.probeStart (nh k))) = some (.empty (way t.mask (nh k) K) none) := by
        have e2 : way t.mask (nh k) K = (nth t.mask (nth t.mask p0 c) (K - c)).j := by
          rw [e1, show c + (K - c) = K by omega]
        rw [hst, e2]
        exact hpr
      rw [hpr']
      dsimp only
      refine wpAny_pure (hout fun hm => ?_)
      obtain ⟨p1, h1, hk1⟩ := List.mem_map.mp hm
      obtain ⟨i0, hi0⟩ := List.mem_iff_getElem?.mp h1
      obtain ⟨c', a1, a2, a3⟩ := hre i0 p1 hi0 hk1
      refine hno (c' - c) i0 (by omega) ?_ ((hashAt i0 p1 hi0).trans (congrArg nh hk1))
      rw [e1, show c + (c' - c) = c' by omega]
      exact a3
theorem searchK (R : SetK fb s.heap a L es ep t) (tup : ∀ p ∈ L, IsK s.heap p.2 p.1) {x : Addr} {k : NestedKey} (hx : IsK s.heap k x) (hu : A.units + 8 < cLine) {adding : Bool} {Q : SetFound → Shared → Prop}
    (hin : k ∈ L.map (·.2) → ∀ o, (adding = true → o = none) → (adding = false → o.isSome = true) → Q (.there o) s)
    (hout : ∀ K, k ∉ L.map (·.2) → way t.mask (nh k) K ∉ t.place.toList → (∀ c, c < K → way t.mask (nh k) c ∈ t.place.toList) → Q (.free (way t.mask (nh k) K) false) s) :
    wpAny (model P w) A (setSearch a (.ref x) (nh k) adding) Q E s := by
  have hroom := R.room
  obtain ⟨K, hKf, hK, hKb⟩ := R.tab.first (by rw [List.length_map]; omega) (nh k)
  have hbig : K < 100000 := by
    have : 10 * SetTable.turns t.mask ≤ 1420 := by
      unfold SetTable.turns
      rcases R.tab.mok with e | e | e <;> omega
    omega
  unfold setSearch
  refine searchK_from R tup hx hu hKf hK hKb hin (fun hn => hout K hn hK hKb) 100000 0 none rfl (Nat.zero_le _) (by omega) fun i p hp hk => ?_
  have hi : (hsK L)[i]? = some (nh k) := by rw [List.getElem?_map, hp, ← hk] <;> rfl
  have hil : i < t.place.toList.length := by
    have h1 : i < L.length := (List.getElem?_eq_some_iff.mp hp).1
    have h2 := R.tab.sz
    rw [List.length_map] at h2
    rw [Array.length_toList]
    omega
  have hj := List.getElem?_eq_getElem hil
  obtain ⟨c, hc, e⟩ := R.tab.before hK hi hj
  exact ⟨c, Nat.zero_le _, hc, by rw [hj, e]⟩
/-- x in the set -/
theorem hasK (R : SetK fb s.heap a L es ep t) (tup : ∀ p ∈ L, IsK s.heap p.2 p.1) {x : Addr} {k : NestedKey} (hx : IsK s.heap k x) (hu : A.units + 8 < cLine) {Q : Bool → Shared → Prop}
    (h : ∀ tk, Q (decide (k ∈ L.map (·.2))) { s with toks := tk }) : wpAny (model P w) A (setContains a (.ref x)) Q E s := by
  obtain ⟨o, ho, hex, hd⟩ := R.ob
  unfold setContains
  refine wpAny_holding (wpAny_bind (hash_key hu hx ?_))
  refine wpAny_bind ?_
  unfold setFind
  show wpAny _ _ (setFindIn a (.ref x) (nh k) (99999 + 1)) _ _ _
  unfold setFindIn
  refine wpAny_bind (wpAny_setState_of (s := { s with toks := s.toks + k.draws }) ho hd R.fits ?_)
  dsimp only
  refine wp_if_neg (by simp [byScan, Value.scannable]) ?_
  try refine wpAny_bind (wpAny_pure ?_)
  refine wpAny_bind (searchK (s := { s with toks := s.toks + k.draws }) R tup hx hu (fun hm o _ h2 => ?_) fun K hm _ _ => ?_)
  · dsimp only
    refine wpAny_pure (wpAny_pure ?_)
    rw [h2 rfl]
    have q := h (s.toks + k.draws)
    rw [decide_eq_true hm] at q
    exact q
  · dsimp only
    refine wpAny_pure (wpAny_pure ?_)
    have q := h (s.toks + k.draws)
    rw [decide_eq_false hm] at q
    exact q

/-! ### one more -/
theorem rowsK_put (L : List (Addr × NestedKey)) (p : Nat) (x : Addr) (k : NestedKey) : rowsK (L.take p ++ (x, k) :: L.drop p) = (rowsK L).take p ++ (nh k, Value.ref x) :: (rowsK L).drop p := by
  unfold rowsK
  rw [List.map_append, List.map_cons, List.map_take, List.map_drop]
theorem fm_congr {α β : Type} {f g : α → Option β} : ∀ {l : List α}, (∀ x ∈ l, f x = g x) → l.filterMap f = l.filterMap g
  | [], _ => rfl
  | x :: l, h => by
    have e := h x List.mem_cons_self
    have ih := fm_congr (l := l) fun y hy => h y (List.mem_cons_of_mem _ hy)
    rw [List.filterMap_cons, List.filterMap_cons, e, ih]
theorem orderK {L : List (Addr × NestedKey)} {es : Array (Int × Value)} {order : Array Nat} (hr : es.toList = rowsK L) (hp : order.toList.Perm (List.range L.length)) :
    ∃ L2, (order.filterMap (es[·]?)).toList = rowsK L2 ∧ L2.Perm L ∧ hsK L2 = order.toList.map fun i => (es.map (·.1)).getD i 0 := by
  have ent : ∀ i (h : i < L.length), es[i]? = some (nh (L[i]).2, Value.ref (L[i]).1) := fun i h => by
    rw [← Array.getElem?_toList, hr, rowsK, List.getElem?_map, List.getElem?_eq_getElem h] <;> rfl
  have hall : ∀ i ∈ order.toList, i < L.length := fun i hi => List.mem_range.mp (hp.mem_iff.mp hi)
  refine ⟨order.toList.filterMap fun i => L[i]?, ?_, ?_, ?_⟩
  · rw [Array.toList_filterMap, rowsK, List.map_filterMap]
    refine fm_congr fun i hi => ?_
    show es[i]? = (L[i]?).map _
    rw [ent i (hall i hi), List.getElem?_eq_getElem (hall i hi)] <;> rfl
  · have h2 : (List.range L.length).filterMap (fun i => L[i]?) = L := by
      have key : ∀ n, n ≤ L.length → (List.range n).filterMap (fun i => L[i]?) = L.take n := by
        intro n
        induction n with
        | zero => intro _; rfl
        | succ n ih =>
          intro hn
          rw [List.range_succ, List.filterMap_append, ih (Nat.le_of_lt hn), List.take_succ, List.getElem?_eq_getElem hn, List.filterMap_cons_some (List.getElem?_eq_getElem hn)] <;> rfl
      rw [key _ (Nat.le_refl _), List.take_length]
    have h1 := hp.filterMap fun i => L[i]?
    rwa [h2] at h1
  · have hsz : es.size = L.length := by
      have h := congrArg List.length hr
      rwa [rowsK, Array.length_toList, List.length_map] at h
    have key : ∀ l : List Nat, (∀ i ∈ l, i < L.length) → hsK (l.filterMap fun i => L[i]?) = l.map fun i => (es.map (·.1)).getD i 0 := by
      intro l
      induction l with
      | nil => intro _; rfl
      | cons i l ih =>
        intro hl
        have hi := hl i List.mem_cons_self
        have e5 : (es.map (·.1))[i]? = some (nh (L[i]).2) := by rw [Array.getElem?_map, ent i hi] <;> rfl
        rw [List.filterMap_cons_some (List.getElem?_eq_getElem hi), hsK, List.map_cons, List.map_cons, ← hsK, ih fun j hj => hl j (List.mem_cons_of_mem _ hj)]
        congr 1
        simp [Array.getD_eq_getD_getElem?, e5]
    exact key _ hall
/-- the table laid anew -/
theorem relayK {o : Obj} (ho : s.heap.get? a = some o) (hex : o.ExactSet) (hd : o.data = .set es ep t) (hrows : es.toList = rowsK L) (hsz : t.place.size = es.size) (hdm : t.dummies = #[]) (hfl : es.size ≤ t.mask)
    (nd : (L.map (·.2)).Nodup) (pl : t.plain = true) (ld : fb = true ∨ t.led = true) (few : L.length < 64) {wanted M : Nat}
    (hw : SetTable.sizeAbove wanted - 1 = M) (hM : MaskOk M) (hw2 : SetTable.sizeAbove wanted ≤ 128) (hn : L.length * 5 < M * 3) {Q : Unit → Shared → Prop}
    (hQ : ∀ h' L' es' ep' t', Heap.SameBut a s.heap h' → SetK fb h' a L' es' ep' t' → L'.Perm L → Q () { s with heap := h' }) : wpAny (model P w) A (setRelay a wanted) Q E s := by
  have hsl : es.size = L.length := by
    have h := congrArg List.length hrows
    rwa [rowsK, Array.length_toList, List.length_map] at h
  have hfits : t.fits es.size = true := by
    unfold SetTable.fits SetTable.fill
    rw [hdm, Bool.and_eq_true, beq_iff_eq, decide_eq_true_eq]
    show t.place.size = es.size ∧ t.place.size + 0 ≤ t.mask
    omega
  obtain ⟨t', order, e, hp, T, em, el, ep', ed⟩ := relaid_ok t (hs := es.map (·.1)) (wanted := wanted) hw hM (by rw [Array.size_map, hsl]; omega)
  rw [Array.size_map, hsl] at hp
  obtain ⟨L2, r1, r2, r3⟩ := orderK hrows hp
  rw [← r3] at T
  have hs2 : (order.filterMap (es[·]?)).size = es.size := by
    have h := congrArg List.length r1
    rw [rowsK, Array.length_toList, List.length_map, r2.length_eq] at h
    rw [h, hsl]
  rw [setRelay_eq]
  refine wpAny_bind (wpAny_setState_of ho hd hfits ?_)
  dsimp only
  refine wp_if_neg (by rw [sizeLine_eq]; omega) ?_
  try refine wpAny_bind (wpAny_pure ?_)
  rw [e]
  dsimp only
  refine wpAny_bind ?_
  refine wp_if_neg (by rw [hs2]; simp) ?_
  try refine wpAny_bind (wpAny_pure ?_)
  refine wpAny_pure ?_
  dsimp only
  refine wpAny_storeSet_of ho hd ?_ (by rw [hs2, hsl, sizeLine_eq]; omega)
  refine hQ _ L2 (order.filterMap (es[·]?)) (ep + 1) t' (Heap.SameBut.update ..) ⟨⟨_, store_at ho hd, ⟨hex.1, hex.2.1, hex.2.2⟩, rfl⟩, r1, T, (r2.map (·.2)).nodup_iff.mpr nd, by rw [ep']; exact pl, by rw [el]; exact ld, ?_, by rw [r2.length_eq]; exact few⟩ r2
  rw [r2.length_eq, em]
  exact hn
/-- one more, hashed -/
theorem addK (R : SetK fb s.heap a L es ep t) (tup : ∀ p ∈ L, IsK s.heap p.2 p.1) {x : Addr} {k : NestedKey} (hx : IsK s.heap k x) (hu : A.units + 8 < cLine) (hfew : L.length + 1 < 64) {Q : Bool → Shared → Prop}
    (hQ : ∀ b h' L' es' ep' t', Heap.SameBut a s.heap h' → SetK fb h' a L' es' ep' t' → (k ∈ L.map (·.2) → L' = L) → (k ∉ L.map (·.2) → L'.Perm ((x, k) :: L)) → Q b { s with heap := h' }) :
    wpAny (model P w) A (setAddHashed a (.ref x) (nh k)) Q E s := by
  obtain ⟨o, ho, hex, hd⟩ := R.ob
  have hsl := R.size
  have hroom := R.room
  unfold setAddHashed
  refine wpAny_holding ?_
  rw [show (100000 : Nat) = 99999 + 1 from rfl, setAddHashedIn_succ]
  refine wpAny_bind (wpAny_setState_of ho hd R.fits ?_)
  dsimp only
  refine wp_if_neg (by simp [byScan, Value.scannable]) ?_
  try refine wpAny_bind (wpAny_pure ?_)
  refine wpAny_bind (searchK R tup hx hu (fun hm o h1 _ => ?_) fun K hm hK hb => ?_)
  · cases h1 rfl
    dsimp only
    exact wpAny_pure (hQ false s.heap L es ep t (Heap.SameBut.refl a s.heap) R (fun _ => rfl) fun z => absurd hm z)
  · dsimp only
    refine wpAny_bind (wpAny_setState_of ho hd R.fits ?_)
    dsimp only
    obtain ⟨q1, q2, q3, q4, q5, q6, q7, q8, q9⟩ := R.tab.put hK hb
    have hp1 : (t.put (way t.mask (nh k) K)).1.plain = true := by rw [q6]; exact R.plain
    generalize hpt : t.put (way t.mask (nh k) K) = pt at q1 q3 q4 q5 q6 q7 q8 q9 hp1 ⊢
    obtain ⟨t1, p⟩ := pt
    dsimp only at q1 q3 q4 q5 q6 q7 q8 q9 hp1 ⊢
    subst q1
    first
      | (refine wpAny_bind ?_; refine wp_if_pos hp1 ?_; refine byVal_key k _ 8 s hx.1 hx.2.2 hx.2.1 _ _ _ ?_)
      | refine wp_if_pos hp1 (wpAny_bind (byVal_key k _ 8 s hx.1 hx.2.2 hx.2.1 _ _ _ ?_))
    simp only [if_true]
    have hin : (SetTable.insertAt es (SetTable.below t.place (way t.mask (nh k) K)) (nh k, Value.ref x)).toList = rowsK (L.take (SetTable.below t.place (way t.mask (nh k) K)) ++ (x, k) :: L.drop (SetTable.below t.place (way t.mask (nh k) K))) := by
      rw [SetTable.toList_insertAt, rowsK_put, R.rows]
    generalize hpp : SetTable.below t.place (way t.mask (nh k) K) = p at q2 q3 hin ⊢
    have pm := put_perm L p (x, k)
    have hlen : (L.take p ++ (x, k) :: L.drop p).length = L.length + 1 := pm.length_eq
    have hhs : hsK (L.take p ++ (x, k) :: L.drop p) = (hsK L).take p ++ nh k :: (hsK L).drop p := by
      unfold hsK
      rw [List.map_append, List.map_cons, List.map_take, List.map_drop]
    rw [← hhs] at q3
    have nd1 : ((L.take p ++ (x, k) :: L.drop p).map (·.2)).Nodup := by
      refine (pm.map (·.2)).nodup_iff.mpr ?_
      rw [List.map_cons]
      exact List.nodup_cons.mpr ⟨hm, R.nd⟩
    have hes : (SetTable.insertAt es p (nh k, Value.ref x)).size = L.length + 1 := by
      have h := congrArg List.length hin
      rwa [rowsK, Array.length_toList, List.length_map, hlen] at h
    generalize SetTable.insertAt es p (nh k, Value.ref x) = es1 at hin hes ⊢
    generalize L.take p ++ (x, k) :: L.drop p = L1 at pm hlen q3 nd1 hin
    refine wpAny_bind (wpAny_storeSet_of ho hd ?_ (by rw [hes, sizeLine_eq]; omega))
    have sb : Heap.SameBut a s.heap (s.heap.update a (Obj.putSet es1 t1)) := Heap.SameBut.update ..
    have ho1 := store_at (es' := es1) (t' := t1) ho hd
    generalize s.heap.update a (Obj.putSet es1 t1) = h1 at sb ho1 ⊢
    have ld1 : fb = true ∨ t1.led = true := by rw [q5]; exact R.led
    by_cases hf : t1.tooFull = true
    · first
        | (refine wpAny_bind ?_; refine wp_if_pos (by simp [hf]) ?_)
        | (refine wp_if_pos (by simp [hf]) ?_; refine wpAny_bind ?_)
      have hfull : (L.length + 1) * 5 ≥ t1.mask * 3 := by
        have h := hf
        unfold SetTable.tooFull at h
        rw [decide_eq_true_eq, q9, List.length_map] at h
        exact h
      rw [hsl]
      have hsz1 : t1.place.size = es1.size := by
        have h := q3.sz
        rw [List.length_map, hlen] at h
        rw [h, hes]
      have cases2 : (t.mask = 7 ∧ L.length = 4) ∨ (t.mask = 31 ∧ L.length = 18) := by
        rcases R.tab.mok with e | e | e
        · left; rw [q4, e] at hfull; rw [e] at hroom; exact ⟨e, by omega⟩
        · right; rw [q4, e] at hfull; rw [e] at hroom; exact ⟨e, by omega⟩
        · exfalso; rw [q4, e] at hfull; omega
      have go : ∀ M, SetTable.sizeAbove (SetTable.grown (L.length + 1)) - 1 = M → MaskOk M → SetTable.sizeAbove (SetTable.grown (L.length + 1)) ≤ 128 → (L.length + 1) * 5 < M * 3 →
          wpAny (model P w) A (setRelay a (SetTable.grown (L.length + 1))) (fun _ s' => wpAny (model P w) A (pure true) Q E s') E { s with heap := h1 } := fun M h1' h2' h3' h4' => by
        refine relayK (s := { s with heap := h1 }) (fb := fb) ho1 ⟨hex.1, hex.2.1, hex.2.2⟩ rfl hin hsz1 q3.dm (by rw [hes, q4]; rcases cases2 with ⟨e, e2⟩ | ⟨e, e2⟩ <;> omega) nd1 hp1 ld1 (by rw [hlen]; exact hfew) h1' h2' h3' (by rw [hlen]; exact h4') ?_
        intro h2 L2 es2 ep2 t2 sb2 R2 pm2
        exact wpAny_pure (hQ true h2 L2 es2 ep2 t2 (sb.trans sb2) R2 (fun z => absurd z hm) fun _ => pm2.trans pm)
      rcases cases2 with ⟨_, e2⟩ | ⟨_, e2⟩
      · exact go 31 (by rw [e2, size_20]) (.inr (.inl rfl)) (by rw [e2, size_20]; decide) (by omega)
      · exact go 127 (by rw [e2, size_76]) (.inr (.inr rfl)) (by rw [e2, size_76]; decide) (by omega)
    · first
        | refine wp_if_neg (by simp [hf]) ?_
        | (refine wpAny_bind ?_; refine wp_if_neg (by simp [hf]) ?_; refine wpAny_pure ?_)
      refine wpAny_pure (hQ true h1 L1 es1 (ep + 1) t1 sb ⟨⟨_, ho1, ⟨hex.1, hex.2.1, hex.2.2⟩, rfl⟩, hin, q3, nd1, hp1, ld1, ?_, by rw [hlen]; exact hfew⟩ (fun z => absurd z hm) fun _ => pm)
      have h := hf
      unfold SetTable.tooFull at h
      rw [decide_eq_true_eq, q9, List.length_map] at h
      rw [hlen]
      omega
end
/-- the set at a -/
def IsSetK (fb : Bool) (h : Heap) (a : Addr) (L : List (Addr × NestedKey)) : Prop := ∃ es ep t, SetK fb h a L es ep t
def SetKO (fb : Bool) (a : Addr) (L : List (Addr × NestedKey)) : HO := .ext fun h => IsSetK fb h a L
theorem IsSetK.keep {fb : Bool} {h h' : Heap} {a : Addr} {L : List (Addr × NestedKey)} (R : IsSetK fb h a L) (k : ∀ o, h.get? a = some o → h'.get? a = some o) : IsSetK fb h' a L := by
  obtain ⟨es, ep, t, r⟩ := R
  exact ⟨es, ep, t, r.keep k⟩
theorem setKO_new {P : Program} {w : World} {fb : Bool} {H : Hp} {h : Heap} {a : Addr} {L : List (Addr × NestedKey)} (R : IsSetK fb h a L) : ObjOk P w H h a (SetKO fb a L) := by
  have ⟨es, ep, t, r⟩ := R
  have ⟨o, ho, _⟩ := r.ob
  exact ⟨R, ⟨o, ho⟩, fun h1 h2 p k => IsSetK.keep p k⟩
end VS
end

section
set_option Elab.async false
set_option linter.all false
set_option maxRecDepth 100000
namespace VS
open PySem PySem.Spec PyProof.Rows L2

/-! ## data -/
inductive D where
  | non | bl (b : Bool) | int (i : Int) | str (x : Str) | tup (ds : List D) | lst (ds : List D) | dic (ds : List D) | st (ds : List D)
mutual
/-- what a set may hold, as a key -/
def keyN : D → Option NestedKey
  | .non => some .none
  | .bl b => some (.num (if b = true then 1 else 0))
  | .int i => some (.num i)
  | .tup ds => (keysN ds).map .tup
  | .str _ => none
  | .lst _ => none
  | .dic _ => none
  | .st _ => none
def keysN : List D → Option (List NestedKey)
  | [] => some []
  | d :: ds => (keyN d).bind fun k => (keysN ds).map (k :: ·)
end
/-- L holds what L' names -/
def SubK (L L' : List (Addr × NestedKey)) : Prop := (∀ p ∈ L, p ∈ L') ∧ ∀ p ∈ L', p.2 ∈ L.map (·.2)
/-- a tuple that a set may hold -/
def setKey (d : D) : Option NestedKey := match d with
  | .tup ds => (keyN (.tup ds)).bind fun k => if k.depth ≤ 8 then some k else none
  | _ => none
abbrev Fp := Addr → Prop
def keyD (k : Key) : D := match k with
  | .inl i => .int i
  | .inr x => .str x
/-- a list that may be read: tracked, and S allows it; or written at the module's top -/
def LAt (K : PySem.W.Frag) (S : Fp) (H : Hp) (a : Addr) (vs : List V) : Prop := (Rd H a (.lst vs) ∧ S a) ∨
    ∃ (o : Obj) (its : Array Value) (n : Nat), K.lookup a = some o ∧ o.cls = .type "list" ∧ o.dict = none ∧ o.data = .seq its n ∧ its.size ≤ sizeLine ∧ Vals vs its.toList
theorem LAt.sq {K : PySem.W.Frag} {S : Fp} {H : Hp} {a : Addr} {vs : List V} (h : LAt K S H a vs) : SqL K H a vs := by
  rcases h with ⟨h, _⟩ | h
  · exact .inl h
  · exact .inr h

mutual
inductive At (K : PySem.W.Frag) (S : Fp) (H : Hp) : V → D → Prop
  | non : At K S H .non .non
  | bl (b : Bool) : At K S H (.bl b) (.bl b)
  | int (i : Int) : At K S H (.int i) (.int i)
  | str (x : Str) : At K S H (.str x) (.str x)
  | tup {a : Addr} {vs : List V} {ds : List D} : H a = some (.tup vs) → Ats K S H vs ds → At K S H (.ref a) (.tup ds)
  | lst {a : Addr} {vs : List V} {ds : List D} : LAt K S H a vs → Ats K S H vs ds → At K S H (.ref a) (.lst ds)
  | dic {a : Addr} {kvs : List (List Key × V)} {es : List D} : H a = some (.dT kvs) → S a → Ents K S H kvs es → At K S H (.ref a) (.dic es)
  | st {a : Addr} {fb : Bool} {L L' : List (Addr × NestedKey)} {ds : List D} : H a = some (SetKO fb a L) → S a → SubK L L' → Ats K S H (L'.map fun p => V.ref p.1) ds → (ds.map setKey = L'.map fun p => some p.2) → At K S H (.ref a) (.st ds)
inductive Ats (K : PySem.W.Frag) (S : Fp) (H : Hp) : List V → List D → Prop
  | nil : Ats K S H [] []
  | cons {v : V} {vs : List V} {d : D} {ds : List D} : At K S H v d → Ats K S H vs ds → Ats K S H (v :: vs) (d :: ds)
inductive Ents (K : PySem.W.Frag) (S : Fp) (H : Hp) : List (List Key × V) → List D → Prop
  | nil : Ents K S H [] []
  | cons {k : List Key} {v : V} {kvs : List (List Key × V)} {d : D} {es : List D} : At K S H v d → Ents K S H kvs es → Ents K S H ((k, v) :: kvs) (.tup [.tup (k.map keyD), d] :: es)
end

/-- H' keeps what S and the tuples may lean on -/
def Kp (S : Fp) (H H' : Hp) : Prop := (∀ a o, H a = some o → S a → H' a = some o) ∧ ∀ a xs, H a = some (.tup xs) → H' a = some (.tup xs)
section
variable {K : PySem.W.Frag} {S T : Fp} {H H' H'' : Hp}
theorem Kp.refl : Kp S H H := ⟨fun _ _ h _ => h, fun _ _ h => h⟩
theorem Kp.trans (a : Kp S H H') (b : Kp S H' H'') : Kp S H H'' := ⟨fun x o h s => b.1 x o (a.1 x o h s) s, fun x o h => b.2 x o (a.2 x o h)⟩
theorem Kp.sub (a : Kp S H H') (h : ∀ a, T a → S a) : Kp T H H' := ⟨fun x o e s => a.1 x o e (h x s), a.2⟩
theorem Kp.of_same (h : Same H H') : Kp S H H' := ⟨fun a o e _ => h a o e, fun a xs e => h a _ e⟩
theorem LAt.kp (k : Kp S H H') {a : Addr} {vs : List V} (h : LAt K S H a vs) : LAt K S H' a vs := by
  rcases h with ⟨h | ⟨o, h⟩, s⟩ | h
  · exact .inl ⟨.inl (k.1 _ _ h s), s⟩
  · exact .inl ⟨.inr ⟨o, k.1 _ _ h s⟩, s⟩
  · exact .inr h
theorem LAt.sub (h : ∀ a, S a → T a) {a : Addr} {vs : List V} (q : LAt K S H a vs) : LAt K T H a vs := q.imp (fun ⟨a, b⟩ => ⟨a, h _ b⟩) id
theorem LAt.trk {a : Addr} {vs : List V} (q : LAt K S H a vs) : LAt K (fun a => S a ∧ ∃ o, H a = some o) H a vs := q.imp (fun ⟨a, b⟩ => ⟨a, b, by
  rcases a with a | ⟨o, a⟩
  · exact ⟨_, a⟩
  · exact ⟨_, a⟩⟩) id
mutual
theorem At.kp (k : Kp S H H') : ∀ {v : V} {d : D}, At K S H v d → At K S H' v d
  | _, _, .non => .non
  | _, _, .bl b => .bl b
  | _, _, .int i => .int i
  | _, _, .str x => .str x
  | _, _, .tup h q => .tup (k.2 _ _ h) (Ats.kp k q)
  | _, _, .lst h q => .lst (LAt.kp k h) (Ats.kp k q)
  | _, _, .dic h s q => .dic (k.1 _ _ h s) s (Ents.kp k q)
  | _, _, .st h s p q z => .st (k.1 _ _ h s) s p (Ats.kp k q) z
theorem Ats.kp (k : Kp S H H') : ∀ {vs : List V} {ds : List D}, Ats K S H vs ds → Ats K S H' vs ds
  | _, _, .nil => .nil
  | _, _, .cons a b => .cons (At.kp k a) (Ats.kp k b)
theorem Ents.kp (k : Kp S H H') : ∀ {vs : List (List Key × V)} {ds : List D}, Ents K S H vs ds → Ents K S H' vs ds
  | _, _, .nil => .nil
  | _, _, .cons a b => .cons (At.kp k a) (Ents.kp k b)
end
mutual
theorem At.sub (h : ∀ a, S a → T a) : ∀ {v : V} {d : D}, At K S H v d → At K T H v d
  | _, _, .non => .non
  | _, _, .bl b => .bl b
  | _, _, .int i => .int i
  | _, _, .str x => .str x
  | _, _, .tup e q => .tup e (Ats.sub h q)
  | _, _, .lst e q => .lst (e.sub h) (Ats.sub h q)
  | _, _, .dic e s q => .dic e (h _ s) (Ents.sub h q)
  | _, _, .st e s p q z => .st e (h _ s) p (Ats.sub h q) z
theorem Ats.sub (h : ∀ a, S a → T a) : ∀ {vs : List V} {ds : List D}, Ats K S H vs ds → Ats K T H vs ds
  | _, _, .nil => .nil
  | _, _, .cons a b => .cons (At.sub h a) (Ats.sub h b)
theorem Ents.sub (h : ∀ a, S a → T a) : ∀ {vs : List (List Key × V)} {ds : List D}, Ents K S H vs ds → Ents K T H vs ds
  | _, _, .nil => .nil
  | _, _, .cons a b => .cons (At.sub h a) (Ents.sub h b)
end
end

section
variable {K : PySem.W.Frag} {S T : Fp} {H H' : Hp}
mutual
theorem At.trk : ∀ {v : V} {d : D}, At K S H v d → At K (fun a => S a ∧ ∃ o, H a = some o) H v d
  | _, _, .non => .non
  | _, _, .bl b => .bl b
  | _, _, .int i => .int i
  | _, _, .str x => .str x
  | _, _, .tup e q => .tup e (Ats.trk q)
  | _, _, .lst e q => .lst e.trk (Ats.trk q)
  | _, _, .dic e s q => .dic e ⟨s, _, e⟩ (Ents.trk q)
  | _, _, .st e s p q z => .st e ⟨s, _, e⟩ p (Ats.trk q) z
theorem Ats.trk : ∀ {vs : List V} {ds : List D}, Ats K S H vs ds → Ats K (fun a => S a ∧ ∃ o, H a = some o) H vs ds
  | _, _, .nil => .nil
  | _, _, .cons a b => .cons (At.trk a) (Ats.trk b)
theorem Ents.trk : ∀ {vs : List (List Key × V)} {ds : List D}, Ents K S H vs ds → Ents K (fun a => S a ∧ ∃ o, H a = some o) H vs ds
  | _, _, .nil => .nil
  | _, _, .cons a b => .cons (At.trk a) (Ents.trk b)
end
end

/-- no list, no dict within -/
def D.imm : D → Bool
  | .tup ds => immAll ds
  | .lst _ => false
  | .dic _ => false
  | .st _ => false
  | _ => true
where immAll : List D → Bool
  | [] => true
  | d :: ds => d.imm && immAll ds
abbrev D.imms : List D → Bool := D.imm.immAll
section
variable {K : PySem.W.Frag} {S T : Fp} {H H' : Hp}
mutual
theorem At.imm : ∀ {v : V} {d : D}, d.imm = true → At K S H v d → At K T H v d
  | _, _, _, .non => .non
  | _, _, _, .bl b => .bl b
  | _, _, _, .int i => .int i
  | _, _, _, .str x => .str x
  | _, _, h, .tup e q => .tup e (Ats.imm (by simpa [D.imm] using h) q)
  | _, _, h, .lst .. => by simp [D.imm] at h
  | _, _, h, .dic .. => by simp [D.imm] at h
  | _, _, h, .st .. => by simp [D.imm] at h
theorem Ats.imm : ∀ {vs : List V} {ds : List D}, D.imms ds = true → Ats K S H vs ds → Ats K T H vs ds
  | _, _, _, .nil => .nil
  | _, _, h, .cons a b => by
    simp only [D.imm.immAll, Bool.and_eq_true] at h
    exact .cons (At.imm h.1 a) (Ats.imm h.2 b)
end
theorem Ats.len : ∀ {vs : List V} {ds : List D}, Ats K S H vs ds → vs.length = ds.length
  | _, _, .nil => rfl
  | _, _, .cons _ b => by simp [Ats.len b]
theorem Ats.app : ∀ {vs ws : List V} {ds es : List D}, Ats K S H vs ds → Ats K S H ws es → Ats K S H (vs ++ ws) (ds ++ es)
  | _, _, _, _, .nil, q => q
  | _, _, _, _, .cons a b, q => .cons a (Ats.app b q)
theorem Ats.get : ∀ {vs : List V} {ds : List D} {i : Nat} {d : D}, Ats K S H vs ds → ds[i]? = some d → ∃ v, vs[i]? = some v ∧ At K S H v d
  | _, _, i, d, .nil, e => by simp at e
  | _, _, 0, d, .cons a b, e => by
    simp only [List.getElem?_cons_zero, Option.some.injEq] at e
    subst e
    exact ⟨_, rfl, a⟩
  | _, _, i + 1, d, .cons a b, e => by
    obtain ⟨v, h1, h2⟩ := Ats.get (i := i) (d := d) b (by simpa using e)
    exact ⟨v, by simpa using h1, h2⟩
theorem Ats.get' : ∀ {vs : List V} {ds : List D} {i : Nat} {v : V}, Ats K S H vs ds → vs[i]? = some v → ∃ d, ds[i]? = some d ∧ At K S H v d
  | _, _, i, d, .nil, e => by simp at e
  | _, _, 0, d, .cons a b, e => by
    simp only [List.getElem?_cons_zero, Option.some.injEq] at e
    subst e
    exact ⟨_, rfl, a⟩
  | _, _, i + 1, d, .cons a b, e => by
    obtain ⟨v, h1, h2⟩ := Ats.get' (i := i) (v := d) b (by simpa using e)
    exact ⟨v, by simpa using h1, h2⟩
theorem Ats.drop : ∀ {vs : List V} {ds : List D} (n : Nat), Ats K S H vs ds → Ats K S H (vs.drop n) (ds.drop n)
  | _, _, 0, h => h
  | _, _, n + 1, .nil => .nil
  | _, _, n + 1, .cons a b => Ats.drop n b
theorem Ats.take : ∀ {vs : List V} {ds : List D} (n : Nat), Ats K S H vs ds → Ats K S H (vs.take n) (ds.take n)
  | _, _, 0, h => .nil
  | _, _, n + 1, .nil => .nil
  | _, _, n + 1, .cons a b => .cons a (Ats.take n b)
theorem Ats.set {d : D} {v : V} (hd : At K S H v d) : ∀ {vs : List V} {ds : List D} (n : Nat), Ats K S H vs ds → Ats K S H (vs.set n v) (ds.set n d)
  | _, _, n, .nil => .nil
  | _, _, 0, .cons a b => .cons hd b
  | _, _, n + 1, .cons a b => .cons a (Ats.set hd n b)
theorem Ats.erase : ∀ {vs : List V} {ds : List D} (n : Nat), Ats K S H vs ds → Ats K S H (vs.eraseIdx n) (ds.eraseIdx n)
  | _, _, n, .nil => .nil
  | _, _, 0, .cons a b => b
  | _, _, n + 1, .cons a b => .cons a (Ats.erase n b)
theorem Ats.ints : ∀ (ns : List Int), Ats K S H (ns.map V.int) (ns.map D.int)
  | [] => .nil
  | n :: ns => .cons (.int n) (Ats.ints ns)
end

/-! ## frames -/
inductive SV where
  | un | dat (d : D) | wk (d : D) | lst (ds : List D) | dic (es : List D) | fz (ds : List D) | fzd (es : List D) | row

/-- H0: what was tracked at the frame's entry; R: the row (the one object that calls may change); Pr: what a loop walks (kept, not owned); Ex: lists that comprehensions are making; G: what the row leans on -/
structure Frm where
  H0 : Hp
  R : Option Addr
  Pr : Hp
  Ex : List Addr
  G : Fp
/-- what a frame's data lean on: what was tracked at its entry, the row apart -/
def Frm.SR (F : Frm) : Fp := fun a => F.R ≠ some a ∧ a ∉ F.Ex
def Frm.S0 (F : Frm) : Fp := fun a => (∃ o, F.H0 a = some o) ∧ F.SR a
theorem Frm.S0R (F : Frm) : ∀ a, F.S0 a → F.SR a := fun _ h => h.2

def RowIs (K : PySem.W.Frag) (F : Frm) (H : Hp) (ρ : List D) : Prop := (∀ r, F.R = some r → ∃ vs, H r = some (.lst vs) ∧ Ats K F.G H vs ρ) ∧ (∀ a ∈ F.Ex, F.R ≠ some a ∧ ∃ o, H a = some o) ∧ ∀ a, F.G a → F.S0 a
/-- what an expression may do: all stays but the row -/
def Eff (F : Frm) (H H' : Hp) : Prop := ∀ a o, H a = some o → F.R ≠ some a → H' a = some o

def SlotOk (K : PySem.W.Frag) (F : Frm) (H : Hp) (x : Option V) : SV → Prop
  | .un => True
  | .dat d => ∃ v, x = some v ∧ At K F.S0 H v d
  | .wk d => ∃ v, x = some v ∧ At K F.SR H v d
  | .lst ds => ∃ p vs, x = some (.ref p) ∧ H p = some (.lst vs) ∧ F.H0 p = none ∧ F.SR p ∧ Ats K F.S0 H vs ds ∧ F.Pr p = none
  | .dic es => ∃ p kvs, x = some (.ref p) ∧ H p = some (.dT kvs) ∧ F.H0 p = none ∧ F.SR p ∧ Ents K F.S0 H kvs es ∧ F.Pr p = none
  | .fz ds => ∃ p vs, x = some (.ref p) ∧ H p = some (.lst vs) ∧ F.H0 p = none ∧ F.SR p ∧ Ats K F.S0 H vs ds
  | .fzd es => ∃ p kvs, x = some (.ref p) ∧ H p = some (.dT kvs) ∧ F.H0 p = none ∧ F.SR p ∧ Ents K F.S0 H kvs es
  | .row => ∃ r, F.R = some r ∧ x = some (.ref r)
def SV.owned : SV → Bool
  | .lst _ => true
  | .dic _ => true
  | _ => false
/-- a list or dict of the frame's own, frozen or not -/
def SV.own : SV → Bool
  | .lst _ => true
  | .dic _ => true
  | .fz _ => true
  | .fzd _ => true
  | _ => false

structure Rel (K : PySem.W.Frag) (F : Frm) (σ : L2.St) (H : Hp) (env : List SV) (ρ : List D) : Prop where
  base : ∀ a o, F.H0 a = some o → F.R ≠ some a → H a = some o
  pr : ∀ a o, F.Pr a = some o → H a = some o ∧ F.R ≠ some a
  row : RowIs K F H ρ
  len : env.length = σ.length
  slot : ∀ (i : Nat) (x : Option V) (s : SV), σ[i]? = some x → env[i]? = some s → SlotOk K F H x s
  dis : ∀ (i j : Nat) (s t : SV) (a : Addr), i ≠ j → env[i]? = some s → s.owned = true → env[j]? = some t → t.own = true → σ[i]? = some (some (.ref a)) → σ[j]? = some (some (.ref a)) → False

section
variable {K : PySem.W.Frag} {F : Frm} {σ σ' : L2.St} {H H' H'' : Hp} {env : List SV} {ρ ρ' : List D}
theorem Eff.refl : Eff F H H := fun _ _ h _ => h
theorem Eff.trans (a : Eff F H H') (b : Eff F H' H'') : Eff F H H'' := fun x o h r => b x o (a x o h r) r
theorem Eff.of_same (h : Same H H') : Eff F H H' := fun a o e _ => h a o e
theorem RowIs.kp (r : RowIs K F H ρ) (e : Eff F H H') : Kp F.SR H H' := by
  have ne : ∀ a o, H a = some o → (∀ xs, o ≠ .lst xs) → F.R ≠ some a := fun a o h n z => by
    obtain ⟨vs, hv, _⟩ := r.1 a z
    rw [hv] at h
    exact n vs (Option.some.inj h).symm
  exact ⟨fun a o h s => e a o h s.1, fun a xs h => e a _ h (ne a _ h (by intro _ z; cases z))⟩
theorem RowIs.same (r : RowIs K F H ρ) (e : Same H H') : RowIs K F H' ρ := ⟨fun a h => by
  obtain ⟨vs, h1, h2⟩ := r.1 a h
  exact ⟨vs, e _ _ h1, h2.kp (Kp.of_same e)⟩, fun a h => by
  obtain ⟨n, o, h1⟩ := r.2.1 a h
  exact ⟨n, o, e _ _ h1⟩, r.2.2⟩
theorem RowIs.new (r : RowIs K F H ρ) {p : Addr} (hp : H p = none) : F.SR p := by
  refine ⟨fun z => ?_, fun z => ?_⟩
  · obtain ⟨vs, h1, _⟩ := r.1 p z
    rw [hp] at h1
    cases h1
  · obtain ⟨_, o, h1⟩ := r.2.1 p z
    rw [hp] at h1
    cases h1
theorem SlotOk.kp {x : Option V} {s : SV} (h : SlotOk K F H x s) (k : Kp F.SR H H') : SlotOk K F H' x s := by
  cases s with
  | un => trivial
  | dat d => obtain ⟨v, e, a⟩ := h; exact ⟨v, e, a.kp (k.sub F.S0R)⟩
  | wk d => obtain ⟨v, e, a⟩ := h; exact ⟨v, e, a.kp k⟩
  | lst ds => obtain ⟨p, vs, e, h1, h2, h3, a, z⟩ := h; exact ⟨p, vs, e, k.1 _ _ h1 h3, h2, h3, a.kp (k.sub F.S0R), z⟩
  | dic ds => obtain ⟨p, vs, e, h1, h2, h3, a, z⟩ := h; exact ⟨p, vs, e, k.1 _ _ h1 h3, h2, h3, a.kp (k.sub F.S0R), z⟩
  | fz ds => obtain ⟨p, vs, e, h1, h2, h3, a⟩ := h; exact ⟨p, vs, e, k.1 _ _ h1 h3, h2, h3, a.kp (k.sub F.S0R)⟩
  | fzd ds => obtain ⟨p, vs, e, h1, h2, h3, a⟩ := h; exact ⟨p, vs, e, k.1 _ _ h1 h3, h2, h3, a.kp (k.sub F.S0R)⟩
  | row => exact h
theorem Rel.eff (r : Rel K F σ H env ρ) (e : Eff F H H') (w : RowIs K F H' ρ') : Rel K F σ H' env ρ' :=
  ⟨fun a o h n => e a o (r.base a o h n) n, fun a o h => ⟨e a o (r.pr a o h).1 (r.pr a o h).2, (r.pr a o h).2⟩, w, r.len, fun i x s h1 h2 => (r.slot i x s h1 h2).kp (r.row.kp e), r.dis⟩
theorem Rel.get (r : Rel K F σ H env ρ) {i : Nat} {s : SV} (h : env[i]? = some s) : ∃ x, σ[i]? = some x ∧ SlotOk K F H x s := by
  have hi : i < σ.length := by rw [← r.len]; exact (List.getElem?_eq_some_iff.mp h).1
  exact ⟨σ[i], List.getElem?_eq_getElem hi, r.slot i _ s (List.getElem?_eq_getElem hi) h⟩
end

/-! ## expressions -/
abbrev E (α : Type) := List SV → List D → Option (α × List D)
def tM (K : PySem.W.Frag) (F : Frm) (f : E D) : TE := fun σ H Q => ∃ env ρ d ρ', Rel K F σ H env ρ ∧ f env ρ = some (d, ρ') ∧ ∀ v H', Eff F H H' → RowIs K F H' ρ' → At K F.SR H' v d → Q v H'
def tMT (K : PySem.W.Frag) (F : Frm) (f : E Bool) : TT := fun σ H Q => ∃ env ρ d ρ', Rel K F σ H env ρ ∧ f env ρ = some (d, ρ') ∧ ∀ H', Eff F H H' → RowIs K F H' ρ' → Q d H'
def tMA (K : PySem.W.Frag) (F : Frm) (f : E (List D)) : TA := fun σ H Q => ∃ env ρ d ρ', Rel K F σ H env ρ ∧ f env ρ = some (d, ρ') ∧ ∀ vs H', Eff F H H' → RowIs K F H' ρ' → Ats K F.SR H' vs d → Q vs H'
/-- a new list -/
def tMF (K : PySem.W.Frag) (F : Frm) (f : E (List D)) : TE := fun σ H Q => ∃ env ρ d ρ', Rel K F σ H env ρ ∧ f env ρ = some (d, ρ') ∧
  ∀ p vs H', Eff F H H' → RowIs K F H' ρ' → H p = none → H' p = some (.lst vs) → F.SR p → Ats K F.SR H' vs d → Q (.ref p) H'

structure PM (X : Cx) (e : Expr) (f : E D) : Prop where
  pe : ∀ F : Frm, PE X e (tM X.K F f)
structure PMT (X : Cx) (e : Expr) (f : E Bool) : Prop where
  pt : ∀ F : Frm, PT X e (tMT X.K F f)
structure PMA (X : Cx) (es : List Expr) (f : E (List D)) : Prop where
  pa : ∀ F : Frm, PA X es (tMA X.K F f)
structure PMF (X : Cx) (e : Expr) (f : E (List D)) : Prop where
  pe : ∀ F : Frm, PE X e (tMF X.K F f)

theorem PE.imp {X : Cx} {e : Expr} {t t' : TE} (h : PE X e t) (i : ∀ σ H Q, t' σ H Q → t σ H Q) : PE X e t' := ⟨fun pins s σ H Q I q => h.run pins s σ H Q I (i _ _ _ q)⟩
theorem PT.imp {X : Cx} {e : Expr} {t t' : TT} (h : PT X e t) (i : ∀ σ H Q, t' σ H Q → t σ H Q) : PT X e t' := ⟨fun pins s σ H Q I q => h.run pins s σ H Q I (i _ _ _ q)⟩
theorem PW.imp {X : Cx} {e : Expr} {t t' : TT} (h : PW X e t) (i : ∀ σ H Q, t' σ H Q → t σ H Q) : PW X e t' := ⟨fun wh pins s σ H Q I q => h.run wh pins s σ H Q I (i _ _ _ q)⟩
theorem PA.imp {X : Cx} {e : List Expr} {t t' : TA} (h : PA X e t) (i : ∀ σ H Q, t' σ H Q → t σ H Q) : PA X e t' := ⟨fun pos pins s σ H Q I q => h.run pos pins s σ H Q I (i _ _ _ q)⟩
theorem PS.imp {X : Cx} {e : Stmt} {t t' : TS} (h : PS X e t) (i : ∀ D σ H, t' D σ H → t D σ H) : PS X e t' := ⟨fun pins s σ H D I q => h.run pins s σ H D I (i _ _ _ q)⟩
theorem PSs.imp {X : Cx} {e : List Stmt} {t t' : TS} (h : PSs X e t) (i : ∀ D σ H, t' D σ H → t D σ H) : PSs X e t' := ⟨fun pins s σ H D I q => h.run pins s σ H D I (i _ _ _ q)⟩

/-! ### the pieces of mirrors -/
def mC (d : D) : E D := fun _ ρ => some (d, ρ)
def mVar (i : Nat) : E D := fun env ρ => match env[i]? with
  | some (.dat d) => some (d, ρ)
  | some (.wk d) => some (d, ρ)
  | some (.lst ds) => some (.lst ds, ρ)
  | some (.dic ds) => some (.dic ds, ρ)
  | some (.fz ds) => some (.lst ds, ρ)
  | some (.fzd ds) => some (.dic ds, ρ)
  | _ => none
def mBind {α β : Type} (a : E α) (k : α → E β) : E β := fun env ρ => (a env ρ).bind fun x => k x.1 env x.2
def mOp (g : D → D → Option D) (a b : E D) : E D := fun env ρ => (a env ρ).bind fun x => (b env x.2).bind fun y => (g x.1 y.1).map fun z => (z, y.2)
def mUn (g : D → Option D) (a : E D) : E D := fun env ρ => (a env ρ).bind fun x => (g x.1).map fun z => (z, x.2)
def mNil : E (List D) := fun _ ρ => some ([], ρ)
def mCons (a : E D) (b : E (List D)) : E (List D) := fun env ρ => (a env ρ).bind fun x => (b env x.2).map fun y => (x.1 :: y.1, y.2)
def mTup (a : E (List D)) : E D := fun env ρ => (a env ρ).bind fun x => if x.1.length ≤ 1000000 then some (.tup x.1, x.2) else none
def mLst (a : E (List D)) : E D := fun env ρ => (a env ρ).map fun x => (.lst x.1, x.2)
def mSz (a : E (List D)) : E (List D) := fun env ρ => (a env ρ).bind fun x => if x.1.length ≤ 1000000 then some x else none
def mCall (g : List D → Option D) (a : E (List D)) : E D := fun env ρ => (a env ρ).bind fun x => (g x.1).map fun z => (z, x.2)
def mCallF (g : List D → Option (List D)) (a : E (List D)) : E (List D) := fun env ρ => (a env ρ).bind fun x => (g x.1).map fun z => (z, x.2)
def mTest (a : E D) : E Bool := fun env ρ => (a env ρ).bind fun x => match x.1 with
  | .bl b => some (b, x.2)
  | _ => none
def mB (a : E Bool) : E D := fun env ρ => (a env ρ).map fun x => (.bl x.1, x.2)
def mAnd (a b : E Bool) : E Bool := fun env ρ => (a env ρ).bind fun x => if x.1 = true then b env x.2 else some (false, x.2)
def mOr (a b : E Bool) : E Bool := fun env ρ => (a env ρ).bind fun x => if x.1 = true then some (true, x.2) else b env x.2
def mNot (a : E Bool) : E Bool := fun env ρ => (a env ρ).map fun x => (!x.1, x.2)
def mIf {α : Type} (c : E Bool) (a b : E α) : E α := fun env ρ => (c env ρ).bind fun x => if x.1 = true then a env x.2 else b env x.2

theorem big {n : Nat} (h : n ≤ 1000000) : n ≤ sizeLine := Nat.le_trans h (by decide)
theorem big' {n : Nat} (h : n < 1000000) : n < sizeLine := Nat.lt_of_lt_of_le h (by decide)

section
variable {X : Cx}
theorem m_var {i : Nat} {x : Str} {pos : Pos} (hN : X.N[i]? = some x) (hv : Vis X.env.scope x) (hd : (x == ("__debug__" : Str)) = false := by decide) (hcd : (x == ("__classdict__" : Str)) = false := by decide) : PM X (.Name x pos) (mVar i) := by
  refine ⟨fun F => PE.imp (pe_var hN hv hd hcd) fun σ H Q h => ?_⟩
  obtain ⟨env, ρ, d, ρ', r, hf, k⟩ := h
  unfold mVar at hf
  cases he : env[i]? with
  | none => rw [he] at hf; cases hf
  | some s =>
    rw [he] at hf
    obtain ⟨x, hx, sl⟩ := r.get he
    have fin : ∀ v, x = some v → At X.K F.SR H v d → ρ = ρ' → ∃ v, σ[i]? = some (some v) ∧ Q v H := fun v e a z => ⟨v, by rw [hx, e], k v H Eff.refl (z ▸ r.row) a⟩
    cases s with
    | un => cases hf
    | row => cases hf
    | dat d' =>
      cases hf
      obtain ⟨v, e, a⟩ := sl
      exact fin v e (a.sub F.S0R) rfl
    | wk d' =>
      cases hf
      obtain ⟨v, e, a⟩ := sl
      exact fin v e a rfl
    | lst ds =>
      cases hf
      obtain ⟨p, vs, e, h1, h2, h3, a, _⟩ := sl
      exact fin _ e (.lst (.inl ⟨.inl h1, h3⟩) (a.sub F.S0R)) rfl
    | dic ds =>
      cases hf
      obtain ⟨p, vs, e, h1, h2, h3, a, _⟩ := sl
      exact fin _ e (.dic h1 h3 (a.sub F.S0R)) rfl
    | fz ds =>
      cases hf
      obtain ⟨p, vs, e, h1, h2, h3, a⟩ := sl
      exact fin _ e (.lst (.inl ⟨.inl h1, h3⟩) (a.sub F.S0R)) rfl
    | fzd ds =>
      cases hf
      obtain ⟨p, vs, e, h1, h2, h3, a⟩ := sl
      exact fin _ e (.dic h1 h3 (a.sub F.S0R)) rfl

theorem tM_C {F : Frm} {v : V} {d : D} (h : ∀ H, At X.K F.SR H v d) : ∀ σ H Q, tM X.K F (mC d) σ H Q → tC v σ H Q := fun σ H Q ⟨env, ρ, d', ρ', r, hf, k⟩ => by
  cases hf
  exact k v H Eff.refl r.row (h H)
theorem m_int {i j pos} : PM X (.Constant (.int i) j pos) (mC (.int i)) := ⟨fun F => PE.imp pe_int (tM_C fun _ => .int i)⟩
theorem m_bl {i j pos} : PM X (.Constant (.bool i) j pos) (mC (.bl i)) := ⟨fun F => PE.imp pe_bl (tM_C fun _ => .bl i)⟩
theorem m_non {j pos} : PM X (.Constant .none j pos) (mC .non) := ⟨fun F => PE.imp pe_non (tM_C fun _ => .non)⟩
theorem m_str {x j pos} : PM X (.Constant (.str x) j pos) (mC (.str x)) := ⟨fun F => PE.imp pe_str (tM_C fun _ => .str x)⟩

/-- a reading by the data: from what d's stand at the operands -/
def rD (K : PySem.W.Frag) (g : D → D → Option D) : R2 := fun x y H Q => ∃ (S : Fp) (d e z : D), (∀ p, H p = none → S p) ∧ At K S H x d ∧ At K S H y e ∧ g d e = some z ∧ ∀ v H', Same H H' → At K S H' v z → Q v H'
def rDU (K : PySem.W.Frag) (g : D → Option D) : V → Hp → VK → Prop := fun x H Q => ∃ (S : Fp) (d z : D), (∀ p, H p = none → S p) ∧ At K S H x d ∧ g d = some z ∧ ∀ v H', Same H H' → At K S H' v z → Q v H'
def rDC (K : PySem.W.Frag) (g : List D → Option D) : List V → Hp → VK → Prop := fun xs H Q => ∃ (S : Fp) (ds : List D) (z : D), (∀ p, H p = none → S p) ∧ Ats K S H xs ds ∧ g ds = some z ∧ ∀ v H', Same H H' → At K S H' v z → Q v H'
/-- .. that makes a list -/
def rDF (K : PySem.W.Frag) (g : List D → Option (List D)) : List V → Hp → VK → Prop := fun xs H Q => ∃ (S : Fp) (ds zs : List D), (∀ p, H p = none → S p) ∧ Ats K S H xs ds ∧ g ds = some zs ∧
  ∀ p vs H', Same H H' → H p = none → H' p = some (.lst vs) → Ats K S H' vs zs → Q (.ref p) H'
def rD2F (K : PySem.W.Frag) (g : D → D → Option (List D)) : R2 := fun x y H Q => ∃ (S : Fp) (d e : D) (zs : List D), (∀ p, H p = none → S p) ∧ At K S H x d ∧ At K S H y e ∧ g d e = some zs ∧
  ∀ p vs H', Same H H' → H p = none → H' p = some (.lst vs) → Ats K S H' vs zs → Q (.ref p) H'

theorem tM_op {F : Frm} {g : D → D → Option D} {fa fb : E D} : ∀ σ H Q, tM X.K F (mOp g fa fb) σ H Q → tOp (rD X.K g) (tM X.K F fa) (tM X.K F fb) σ H Q := by
  intro σ H Q ⟨env, ρ, d, ρ', r, hf, k⟩
  unfold mOp at hf
  obtain ⟨⟨da, ρ1⟩, ha, hf⟩ := Option.bind_eq_some_iff.mp hf
  obtain ⟨⟨db, ρ2⟩, hb, hf⟩ := Option.bind_eq_some_iff.mp hf
  obtain ⟨z, hz, hf⟩ := Option.map_eq_some_iff.mp hf
  cases hf
  refine ⟨env, ρ, da, ρ1, r, ha, fun v1 H1 e1 w1 a1 => ?_⟩
  refine ⟨env, ρ1, db, ρ2, r.eff e1 w1, hb, fun v2 H2 e2 w2 a2 => ?_⟩
  refine ⟨F.SR, da, db, d, fun p hp => w2.new hp, a1.kp (w1.kp e2), a2, hz, fun v H' s a => ?_⟩
  exact k v H' ((e1.trans e2).trans (Eff.of_same s)) (w2.same s) a
theorem tM_un {F : Frm} {g : D → Option D} {fa : E D} : ∀ σ H Q, tM X.K F (mUn g fa) σ H Q → tUn (rDU X.K g) (tM X.K F fa) σ H Q := by
  intro σ H Q ⟨env, ρ, d, ρ', r, hf, k⟩
  unfold mUn at hf
  obtain ⟨⟨da, ρ1⟩, ha, hf⟩ := Option.bind_eq_some_iff.mp hf
  obtain ⟨z, hz, hf⟩ := Option.map_eq_some_iff.mp hf
  cases hf
  refine ⟨env, ρ, da, ρ1, r, ha, fun v1 H1 e1 w1 a1 => ?_⟩
  exact ⟨F.SR, da, d, fun p hp => w1.new hp, a1, hz, fun v H' s a => k v H' (e1.trans (Eff.of_same s)) (w1.same s) a⟩
theorem m_op {a b : Expr} {op : Operator} {pos : Pos} {g : D → D → Option D} {fa fb : E D} (ho : OpR X (binaryOp op) (rD X.K g)) (ha : PM X a fa) (hb : PM X b fb) : PM X (.BinOp a op b pos) (mOp g fa fb) :=
  ⟨fun F => PE.imp (pe_op ho (ha.pe F) (hb.pe F)) tM_op⟩
theorem m_un {a : Expr} {op : UnaryOp} {pos : Pos} {g : D → Option D} {fa : E D} (ho : UnR X (unaryOp op) (rDU X.K g)) (ha : PM X a fa) : PM X (.UnaryOp op a pos) (mUn g fa) :=
  ⟨fun F => PE.imp (pe_un ho (ha.pe F)) tM_un⟩
theorem m_cmp {a b : Expr} {op : CmpOp} {pos : Pos} {g : D → D → Option D} {fa fb : E D} (ho : OpR X (compareOp op) (rD X.K g)) (ha : PM X a fa) (hb : PM X b fb) (hm : behindInMarks op b = false := by first | exact nomark _ | rfl) : PM X (.Compare a [op] [b] pos) (mOp g fa fb) :=
  ⟨fun F => PE.imp (pe_cmpR ho (ha.pe F) (hb.pe F) hm) tM_op⟩
theorem m_ix {a b : Expr} {pos : Pos} {g : D → D → Option D} {fa fb : E D} (ho : IxR X (rD X.K g)) (ha : PM X a fa) (hb : PM X b fb) (hs : PlainIx b := by intro _ _; rfl) : PM X (.Subscript a b pos) (mOp g fa fb) :=
  ⟨fun F => PE.imp (pe_ix ho (ha.pe F) (hb.pe F) hs) tM_op⟩

theorem ma_nil : PMA X [] mNil := ⟨fun F => PA.imp pa_nil fun σ H Q ⟨env, ρ, d, ρ', r, hf, k⟩ => by
  cases hf
  exact k [] H Eff.refl r.row .nil⟩
theorem ma_cons {e : Expr} {es : List Expr} {fa : E D} {fb : E (List D)} (ha : PM X e fa) (hb : PMA X es fb) (hs : starEach (e :: es) X.env = (false, eval e X.env) :: starEach es X.env := by rfl) : PMA X (e :: es) (mCons fa fb) :=
  ⟨fun F => PA.imp (pa_cons (ha.pe F) (hb.pa F) hs) fun σ H Q ⟨env, ρ, d, ρ', r, hf, k⟩ => by
    unfold mCons at hf
    obtain ⟨⟨da, ρ1⟩, ha, hf⟩ := Option.bind_eq_some_iff.mp hf
    obtain ⟨⟨db, ρ2⟩, hb, hf⟩ := Option.map_eq_some_iff.mp hf
    cases hf
    refine ⟨env, ρ, da, ρ1, r, ha, fun v1 H1 e1 w1 a1 => ?_⟩
    refine ⟨env, ρ1, db, ρ2, r.eff e1 w1, hb, fun v2 H2 e2 w2 a2 => ?_⟩
    exact k _ H2 (e1.trans e2) w2 (.cons (a1.kp (w1.kp e2)) a2)⟩
theorem m_tup {es : List Expr} {x1 pos} {f : E (List D)} (h : PMA X es f) : PM X (.Tuple es x1 pos) (mTup f) :=
  ⟨fun F => PE.imp (pe_tup (h.pa F)) fun σ H Q ⟨env, ρ, d, ρ', r, hf, k⟩ => by
    unfold mTup at hf
    obtain ⟨⟨ds, ρ1⟩, ha, hf⟩ := Option.bind_eq_some_iff.mp hf
    split at hf
    · rename_i hl
      cases hf
      refine ⟨env, ρ, ds, ρ1, r, ha, fun vs H1 e1 w1 a1 => ⟨by rw [a1.len]; exact big hl, fun p hp => ?_⟩⟩
      have s : Same H1 (upd H1 p (.tup vs)) := fun b o e => by rw [upd_ne (ne_of_none e hp)]; exact e
      exact k _ _ (e1.trans (Eff.of_same s)) (w1.same s) (.tup upd_same (a1.kp (Kp.of_same s)))
    · cases hf⟩
theorem mf_lst {es : List Expr} {pos} {f : E (List D)} (h : PMA X es f) : PMF X (.List es pos) (mSz f) :=
  ⟨fun F => PE.imp (pe_lst (h.pa F)) fun σ H Q ⟨env, ρ, d, ρ', r, hf, k⟩ => by
    unfold mSz at hf
    obtain ⟨⟨ds, ρ1⟩, ha, hf⟩ := Option.bind_eq_some_iff.mp hf
    split at hf
    · rename_i hl
      cases hf
      refine ⟨env, ρ, d, ρ', r, ha, fun vs H1 e1 w1 a1 => ⟨by rw [a1.len]; exact big hl, fun p hp => ?_⟩⟩
      have s : Same H1 (upd H1 p (.lst vs)) := fun b o e => by rw [upd_ne (ne_of_none e hp)]; exact e
      have hp0 : H p = none := by
        cases q : H p with
        | none => rfl
        | some o =>
          by_cases z : F.R = some p
          · exact absurd z (w1.new hp).1
          · rw [e1 p o q z] at hp; cases hp
      exact k p vs _ (e1.trans (Eff.of_same s)) (w1.same s) hp0 upd_same (w1.new hp) (a1.kp (Kp.of_same s))
    · cases hf⟩
/-- a new list as data -/
theorem PMF.m {e : Expr} {f : E (List D)} (h : PMF X e f) : PM X e (mLst f) :=
  ⟨fun F => PE.imp (h.pe F) fun σ H Q ⟨env, ρ, d, ρ', r, hf, k⟩ => by
    unfold mLst at hf
    obtain ⟨⟨ds, ρ1⟩, ha, hf⟩ := Option.map_eq_some_iff.mp hf
    cases hf
    exact ⟨env, ρ, ds, ρ1, r, ha, fun p vs H1 e1 w1 h0 h1 hr a1 => k _ _ e1 w1 (.lst (.inl ⟨.inl h1, hr⟩) a1)⟩⟩
theorem eff_new {F : Frm} {K : PySem.W.Frag} {H H1 : Hp} {ρ : List D} (e : Eff F H H1) (w : RowIs K F H1 ρ) {p : Addr} (hp : H1 p = none) : H p = none := by
  cases q : H p with
  | none => rfl
  | some o =>
    by_cases z : F.R = some p
    · exact absurd z (w.new hp).1
    · rw [e p o q z] at hp; cases hp
theorem m_callB {x : Str} {id : String} {e : Expr} {es : List Expr} {p pos : Pos} {g : List D → Option D} {f : E (List D)} (hc : CallR X (.builtin id) (rDC X.K g)) (hg : Gl X x) (hm : X.mg x = none) (hv : bootBuiltins x = some (.builtin id)) (ha : PMA X (e :: es) f) (hn : x ≠ "__name__" := by decide) (hdb : (x == ("__debug__" : Str)) = false := by decide)
    (he : starEach (e :: es) X.env = (false, eval e X.env) :: starEach es X.env := by rfl) (hpl : (backTo pos (starEach es X.env)).any (·.1) = false := by rfl) : PM X (.Call (.Name x p) (e :: es) [] pos) (mCall g f) :=
  ⟨fun F => PE.imp (pe_callB hc hg hm hv (ha.pa F) hn hdb he hpl) fun σ H Q ⟨env, ρ, d, ρ', r, hf, k⟩ => by
    unfold mCall at hf
    obtain ⟨⟨ds, ρ1⟩, ha, hf⟩ := Option.bind_eq_some_iff.mp hf
    obtain ⟨z, hz, hf⟩ := Option.map_eq_some_iff.mp hf
    cases hf
    exact ⟨env, ρ, ds, ρ1, r, ha, fun vs H1 e1 w1 a1 => ⟨F.SR, ds, d, fun p hp => w1.new hp, a1, hz, fun v H' s a => k v H' (e1.trans (Eff.of_same s)) (w1.same s) a⟩⟩⟩
theorem m_callTy {x : Str} {T : String} {e : Expr} {es : List Expr} {p pos : Pos} {g : List D → Option D} {f : E (List D)} (hc : CallR X (.type T) (rDC X.K g)) (hg : Gl X x) (hm : X.mg x = none) (hv : bootBuiltins x = some (.type T)) (ha : PMA X (e :: es) f) (hn : x ≠ "__name__" := by decide) (hdb : (x == ("__debug__" : Str)) = false := by decide)
    (he : starEach (e :: es) X.env = (false, eval e X.env) :: starEach es X.env := by rfl) (hpl : (backTo pos (starEach es X.env)).any (·.1) = false := by rfl) : PM X (.Call (.Name x p) (e :: es) [] pos) (mCall g f) :=
  ⟨fun F => PE.imp (pe_callTy hc hg hm hv (ha.pa F) hn hdb he hpl) fun σ H Q ⟨env, ρ, d, ρ', r, hf, k⟩ => by
    unfold mCall at hf
    obtain ⟨⟨ds, ρ1⟩, ha, hf⟩ := Option.bind_eq_some_iff.mp hf
    obtain ⟨z, hz, hf⟩ := Option.map_eq_some_iff.mp hf
    cases hf
    exact ⟨env, ρ, ds, ρ1, r, ha, fun vs H1 e1 w1 a1 => ⟨F.SR, ds, d, fun p hp => w1.new hp, a1, hz, fun v H' s a => k v H' (e1.trans (Eff.of_same s)) (w1.same s) a⟩⟩⟩
theorem mf_callB {x : Str} {id : String} {e : Expr} {es : List Expr} {p pos : Pos} {g : List D → Option (List D)} {f : E (List D)} (hc : CallR X (.builtin id) (rDF X.K g)) (hg : Gl X x) (hm : X.mg x = none) (hv : bootBuiltins x = some (.builtin id)) (ha : PMA X (e :: es) f) (hn : x ≠ "__name__" := by decide) (hdb : (x == ("__debug__" : Str)) = false := by decide)
    (he : starEach (e :: es) X.env = (false, eval e X.env) :: starEach es X.env := by rfl) (hpl : (backTo pos (starEach es X.env)).any (·.1) = false := by rfl) : PMF X (.Call (.Name x p) (e :: es) [] pos) (mCallF g f) :=
  ⟨fun F => PE.imp (pe_callB hc hg hm hv (ha.pa F) hn hdb he hpl) fun σ H Q ⟨env, ρ, d, ρ', r, hf, k⟩ => by
    unfold mCallF at hf
    obtain ⟨⟨ds, ρ1⟩, ha, hf⟩ := Option.bind_eq_some_iff.mp hf
    obtain ⟨z, hz, hf⟩ := Option.map_eq_some_iff.mp hf
    cases hf
    exact ⟨env, ρ, ds, ρ1, r, ha, fun vs H1 e1 w1 a1 => ⟨F.SR, ds, d, fun p hp => w1.new hp, a1, hz, fun p vs H' s hp hp' a => k p vs H' (e1.trans (Eff.of_same s)) (w1.same s) (eff_new e1 w1 hp) hp' (w1.new hp) a⟩⟩⟩
theorem mf_callTy {x : Str} {T : String} {e : Expr} {es : List Expr} {p pos : Pos} {g : List D → Option (List D)} {f : E (List D)} (hc : CallR X (.type T) (rDF X.K g)) (hg : Gl X x) (hm : X.mg x = none) (hv : bootBuiltins x = some (.type T)) (ha : PMA X (e :: es) f) (hn : x ≠ "__name__" := by decide) (hdb : (x == ("__debug__" : Str)) = false := by decide)
    (he : starEach (e :: es) X.env = (false, eval e X.env) :: starEach es X.env := by rfl) (hpl : (backTo pos (starEach es X.env)).any (·.1) = false := by rfl) : PMF X (.Call (.Name x p) (e :: es) [] pos) (mCallF g f) :=
  ⟨fun F => PE.imp (pe_callTy hc hg hm hv (ha.pa F) hn hdb he hpl) fun σ H Q ⟨env, ρ, d, ρ', r, hf, k⟩ => by
    unfold mCallF at hf
    obtain ⟨⟨ds, ρ1⟩, ha, hf⟩ := Option.bind_eq_some_iff.mp hf
    obtain ⟨z, hz, hf⟩ := Option.map_eq_some_iff.mp hf
    cases hf
    exact ⟨env, ρ, ds, ρ1, r, ha, fun vs H1 e1 w1 a1 => ⟨F.SR, ds, d, fun p hp => w1.new hp, a1, hz, fun p vs H' s hp hp' a => k p vs H' (e1.trans (Eff.of_same s)) (w1.same s) (eff_new e1 w1 hp) hp' (w1.new hp) a⟩⟩⟩
def mOpF (g : D → D → Option (List D)) (a b : E D) : E (List D) := fun env ρ => (a env ρ).bind fun x => (b env x.2).bind fun y => (g x.1 y.1).map fun z => (z, y.2)
theorem mf_op {a b : Expr} {op : Operator} {pos : Pos} {g : D → D → Option (List D)} {fa fb : E D} (ho : OpR X (binaryOp op) (rD2F X.K g)) (ha : PM X a fa) (hb : PM X b fb) : PMF X (.BinOp a op b pos) (mOpF g fa fb) :=
  ⟨fun F => PE.imp (pe_op ho (ha.pe F) (hb.pe F)) fun σ H Q ⟨env, ρ, d, ρ', r, hf, k⟩ => by
    unfold mOpF at hf
    obtain ⟨⟨da, ρ1⟩, ha, hf⟩ := Option.bind_eq_some_iff.mp hf
    obtain ⟨⟨db, ρ2⟩, hb, hf⟩ := Option.bind_eq_some_iff.mp hf
    obtain ⟨z, hz, hf⟩ := Option.map_eq_some_iff.mp hf
    cases hf
    refine ⟨env, ρ, da, ρ1, r, ha, fun v1 H1 e1 w1 a1 => ?_⟩
    refine ⟨env, ρ1, db, ρ2, r.eff e1 w1, hb, fun v2 H2 e2 w2 a2 => ?_⟩
    exact ⟨F.SR, da, db, d, fun p hp => w2.new hp, a1.kp (w1.kp e2), a2, hz, fun p vs H' s hp hp' a => k p vs H' ((e1.trans e2).trans (Eff.of_same s)) (w2.same s) (eff_new (e1.trans e2) w2 hp) hp' (w2.new hp) a⟩⟩

/-! ### tests -/
theorem mt_val {e : Expr} {f : E D} (h : PM X e f) (he : ∀ whole, isTrue e X.env whole = (do let v ← whole; standAt e.pos; holding [v] (truthy v)) := by intro _; rfl) : PMT X e (mTest f) :=
  ⟨fun F => PT.imp (pt_val (h.pe F) he) fun σ H Q ⟨env, ρ, d, ρ', r, hf, k⟩ => by
    unfold mTest at hf
    obtain ⟨⟨da, ρ1⟩, ha, hf⟩ := Option.bind_eq_some_iff.mp hf
    refine ⟨env, ρ, da, ρ1, r, ha, fun v H1 e1 w1 a1 => ?_⟩
    cases a1 <;> cases hf
    exact ⟨_, rfl, k H1 e1 w1⟩⟩
theorem mt_cmp {a b : Expr} {op : CmpOp} {pos : Pos} {g : D → D → Option D} {fa fb : E D} (ho : OpR X (compareOp op) (rD X.K g)) (ha : PM X a fa) (hb : PM X b fb) (hm : behindInMarks op b = false := by first | exact nomark _ | rfl) : PMT X (.Compare a [op] [b] pos) (mTest (mOp g fa fb)) :=
  ⟨fun F => PT.imp (pt_cmpR ho (ha.pe F) (hb.pe F) hm) fun σ H Q ⟨env, ρ, d, ρ', r, hf, k⟩ => by
    unfold mTest at hf
    obtain ⟨⟨da, ρ1⟩, ha, hf⟩ := Option.bind_eq_some_iff.mp hf
    have := tM_op (X := X) (F := F) σ H (fun x H' => ∃ k, x = .bl k ∧ Q k H') ⟨env, ρ, da, ρ1, r, ha, fun v H1 e1 w1 a1 => ?_⟩
    · exact this
    · cases a1 <;> cases hf
      exact ⟨_, rfl, k H1 e1 w1⟩⟩
theorem mt_not {e : Expr} {pos : Pos} {f : E Bool} (h : PMT X e f) : PMT X (.UnaryOp .Not e pos) (mNot f) :=
  ⟨fun F => PT.imp (pt_not (h.pt F)) fun σ H Q ⟨env, ρ, d, ρ', r, hf, k⟩ => by
    unfold mNot at hf
    obtain ⟨⟨da, ρ1⟩, ha, hf⟩ := Option.map_eq_some_iff.mp hf
    cases hf
    exact ⟨env, ρ, da, ρ1, r, ha, fun H1 e1 w1 => k H1 e1 w1⟩⟩
structure PMW (X : Cx) (e : Expr) (f : E Bool) : Prop where
  pw : ∀ F : Frm, PW X e (tMT X.K F f)
theorem PMW.t {e : Expr} {f : E Bool} (h : PMW X e f) : PMT X e f := ⟨fun F => (h.pw F).pt⟩
theorem mw_and1 {a : Expr} {pos : Pos} {f : E Bool} (h : PMT X a f) : PMW X (.BoolOp .And [a] pos) f := ⟨fun F => pw_and1 (h.pt F)⟩
theorem mw_or1 {a : Expr} {pos : Pos} {f : E Bool} (h : PMT X a f) : PMW X (.BoolOp .Or [a] pos) f := ⟨fun F => pw_or1 (h.pt F)⟩
theorem tMT_and {F : Frm} {fa fb : E Bool} : ∀ σ H Q, tMT X.K F (mAnd fa fb) σ H Q → tAnd (tMT X.K F fa) (tMT X.K F fb) σ H Q := fun σ H Q ⟨env, ρ, d, ρ', r, hf, k⟩ => by
  unfold mAnd at hf
  obtain ⟨⟨da, ρ1⟩, ha, hf⟩ := Option.bind_eq_some_iff.mp hf
  refine ⟨env, ρ, da, ρ1, r, ha, fun H1 e1 w1 => ?_⟩
  cases da with
  | true =>
    rw [if_pos rfl] at hf ⊢
    exact ⟨env, ρ1, d, ρ', r.eff e1 w1, hf, fun H2 e2 w2 => k H2 (e1.trans e2) w2⟩
  | false =>
    rw [if_neg (by simp)] at hf ⊢
    cases hf
    exact k H1 e1 w1
theorem tMT_or {F : Frm} {fa fb : E Bool} : ∀ σ H Q, tMT X.K F (mOr fa fb) σ H Q → tOr (tMT X.K F fa) (tMT X.K F fb) σ H Q := fun σ H Q ⟨env, ρ, d, ρ', r, hf, k⟩ => by
  unfold mOr at hf
  obtain ⟨⟨da, ρ1⟩, ha, hf⟩ := Option.bind_eq_some_iff.mp hf
  refine ⟨env, ρ, da, ρ1, r, ha, fun H1 e1 w1 => ?_⟩
  cases da with
  | true =>
    rw [if_pos rfl] at hf ⊢
    cases hf
    exact k H1 e1 w1
  | false =>
    rw [if_neg (by simp)] at hf ⊢
    exact ⟨env, ρ1, d, ρ', r.eff e1 w1, hf, fun H2 e2 w2 => k H2 (e1.trans e2) w2⟩
theorem mw_and {a b : Expr} {rest : List Expr} {pos : Pos} {fa fb : E Bool} (ha : PMT X a fa) (hb : PMW X (.BoolOp .And (b :: rest) pos) fb) : PMW X (.BoolOp .And (a :: b :: rest) pos) (mAnd fa fb) :=
  ⟨fun F => PW.imp (pw_and (ha.pt F) (hb.pw F)) tMT_and⟩
theorem mw_or {a b : Expr} {rest : List Expr} {pos : Pos} {fa fb : E Bool} (ha : PMT X a fa) (hb : PMW X (.BoolOp .Or (b :: rest) pos) fb) : PMW X (.BoolOp .Or (a :: b :: rest) pos) (mOr fa fb) :=
  ⟨fun F => PW.imp (pw_or (ha.pt F) (hb.pw F)) tMT_or⟩
/-- and, or, not as values: bools -/
def mAndV (a b : E D) : E D := fun env ρ => (a env ρ).bind fun x => match x.1 with
  | .bl true => b env x.2
  | .bl false => some (.bl false, x.2)
  | _ => none
def mOrV (a b : E D) : E D := fun env ρ => (a env ρ).bind fun x => match x.1 with
  | .bl false => b env x.2
  | .bl true => some (.bl true, x.2)
  | _ => none
theorem m_one {a : Expr} {op} {pos : Pos} {f : E D} (h : PM X a f) : PM X (.BoolOp op [a] pos) f := ⟨fun F => pe_one (h.pe F)⟩
theorem m_and {a b : Expr} {rest : List Expr} {pos : Pos} {fa fb : E D} (ha : PM X a fa) (hb : PM X (.BoolOp .And (b :: rest) pos) fb) : PM X (.BoolOp .And (a :: b :: rest) pos) (mAndV fa fb) :=
  ⟨fun F => PE.imp (pe_and (ha.pe F) (hb.pe F)) fun σ H Q ⟨env, ρ, d, ρ', r, hf, k⟩ => by
    unfold mAndV at hf
    obtain ⟨⟨da, ρ1⟩, ha, hf⟩ := Option.bind_eq_some_iff.mp hf
    refine ⟨env, ρ, da, ρ1, r, ha, fun v H1 e1 w1 a1 => ?_⟩
    cases a1 with
    | bl b =>
      refine ⟨b, rfl, ?_⟩
      cases b with
      | true =>
        rw [if_pos rfl]
        exact ⟨env, ρ1, d, ρ', r.eff e1 w1, hf, fun v H2 e2 w2 => k v H2 (e1.trans e2) w2⟩
      | false =>
        rw [if_neg (by decide)]
        cases hf
        exact k _ H1 e1 w1 (.bl false)
    | _ => cases hf⟩
theorem m_or {a b : Expr} {rest : List Expr} {pos : Pos} {fa fb : E D} (ha : PM X a fa) (hb : PM X (.BoolOp .Or (b :: rest) pos) fb) : PM X (.BoolOp .Or (a :: b :: rest) pos) (mOrV fa fb) :=
  ⟨fun F => PE.imp (pe_or (ha.pe F) (hb.pe F)) fun σ H Q ⟨env, ρ, d, ρ', r, hf, k⟩ => by
    unfold mOrV at hf
    obtain ⟨⟨da, ρ1⟩, ha, hf⟩ := Option.bind_eq_some_iff.mp hf
    refine ⟨env, ρ, da, ρ1, r, ha, fun v H1 e1 w1 a1 => ?_⟩
    cases a1 with
    | bl b =>
      refine ⟨b, rfl, ?_⟩
      cases b with
      | false =>
        rw [if_neg (by decide)]
        exact ⟨env, ρ1, d, ρ', r.eff e1 w1, hf, fun v H2 e2 w2 => k v H2 (e1.trans e2) w2⟩
      | true =>
        rw [if_pos rfl]
        cases hf
        exact k _ H1 e1 w1 (.bl true)
    | _ => cases hf⟩
def notD : D → Option D
  | .bl b => some (.bl !b)
  | _ => none
theorem m_not {a : Expr} {pos : Pos} {fa : E D} (ha : PM X a fa) : PM X (.UnaryOp .Not a pos) (mUn notD fa) :=
  ⟨fun F => PE.imp (pe_not (ha.pe F)) fun σ H Q ⟨env, ρ, d, ρ', r, hf, k⟩ => by
    unfold mUn at hf
    obtain ⟨⟨da, ρ1⟩, ha, hf⟩ := Option.bind_eq_some_iff.mp hf
    refine ⟨env, ρ, da, ρ1, r, ha, fun v H1 e1 w1 a1 => ?_⟩
    cases a1 with
    | bl b =>
      cases hf
      exact ⟨b, rfl, k _ H1 e1 w1 (.bl _)⟩
    | _ => cases hf⟩
theorem tIf_of {α : Type} {c : E Bool} {fa fb : E α} {env : List SV} {ρ ρ' : List D} {d : α} (h : mIf c fa fb env ρ = some (d, ρ')) : ∃ b ρ1, c env ρ = some (b, ρ1) ∧ (b = true → fa env ρ1 = some (d, ρ')) ∧ (b = false → fb env ρ1 = some (d, ρ')) := by
  unfold mIf at h
  obtain ⟨⟨b, ρ1⟩, hc, h⟩ := Option.bind_eq_some_iff.mp h
  refine ⟨b, ρ1, hc, fun e => ?_, fun e => ?_⟩
  · subst e; rwa [if_pos rfl] at h
  · subst e; rwa [if_neg (by simp)] at h
theorem m_ifExp {c a b : Expr} {pos : Pos} {fc : E Bool} {fa fb : E D} (hc : PMT X c fc) (ha : PM X a fa) (hb : PM X b fb) : PM X (.IfExp c a b pos) (mIf fc fa fb) :=
  ⟨fun F => PE.imp (pe_ifExp (hc.pt F) (ha.pe F) (hb.pe F)) fun σ H Q ⟨env, ρ, d, ρ', r, hf, k⟩ => by
    obtain ⟨b, ρ1, h1, h2, h3⟩ := tIf_of hf
    refine ⟨env, ρ, b, ρ1, r, h1, fun H1 e1 w1 => ?_⟩
    cases b with
    | true => rw [if_pos rfl]; exact ⟨env, ρ1, d, ρ', r.eff e1 w1, h2 rfl, fun v H2 e2 w2 => k v H2 (e1.trans e2) w2⟩
    | false => rw [if_neg (by decide)]; exact ⟨env, ρ1, d, ρ', r.eff e1 w1, h3 rfl, fun v H2 e2 w2 => k v H2 (e1.trans e2) w2⟩⟩
theorem mf_ifExp {c a b : Expr} {pos : Pos} {fc : E Bool} {fa fb : E (List D)} (hc : PMT X c fc) (ha : PMF X a fa) (hb : PMF X b fb) : PMF X (.IfExp c a b pos) (mIf fc fa fb) :=
  ⟨fun F => PE.imp (pe_ifExp (hc.pt F) (ha.pe F) (hb.pe F)) fun σ H Q ⟨env, ρ, d, ρ', r, hf, k⟩ => by
    obtain ⟨b, ρ1, h1, h2, h3⟩ := tIf_of hf
    refine ⟨env, ρ, b, ρ1, r, h1, fun H1 e1 w1 => ?_⟩
    cases b with
    | true => rw [if_pos rfl]; exact ⟨env, ρ1, d, ρ', r.eff e1 w1, h2 rfl, fun p v H2 e2 w2 hp => k p v H2 (e1.trans e2) w2 (eff_new e1 w1 hp)⟩
    | false => rw [if_neg (by decide)]; exact ⟨env, ρ1, d, ρ', r.eff e1 w1, h3 rfl, fun p v H2 e2 w2 hp => k p v H2 (e1.trans e2) w2 (eff_new e1 w1 hp)⟩⟩
end
end VS
end

section
set_option Elab.async false
set_option linter.all false
set_option maxRecDepth 100000
set_option maxHeartbeats 1000000
namespace VS
open PySem PySem.Spec PyProof.Rows L2

/-! ## what data are equal -/
mutual
def D.eqv : D → D → Bool
  | .non, .non => true
  | .bl a, .bl b => a == b
  | .bl a, .int j => (if a then 1 else 0) == j
  | .int i, .bl b => i == (if b then 1 else 0)
  | .int i, .int j => i == j
  | .str x, .str y => x == y
  | .lst xs, .lst ys => D.eqvs xs ys
  | .tup xs, .tup ys => D.eqvs xs ys
  | _, _ => false
def D.eqvs : List D → List D → Bool
  | [], [] => true
  | x :: xs, y :: ys => D.eqv x y && D.eqvs xs ys
  | _, _ => false
end
mutual
def D.py : D → Option PyData
  | .non => some .none
  | .bl b => some (.bool b)
  | .int i => some (.int i)
  | .str x => some (.str x)
  | .tup ds => (D.pys ds).map PyData.tuple
  | .lst ds => (D.pys ds).map PyData.list
  | .dic _ => none
  | .st _ => none
def D.pys : List D → Option (List PyData)
  | [] => some []
  | d :: ds => (D.py d).bind fun p => (D.pys ds).map fun ps => p :: ps
end
mutual
def D.okN : Nat → D → Bool
  | _, .non => true
  | _, .bl _ => true
  | _, .int _ => true
  | _, .str x => PyData.strOk x
  | n + 1, .tup ds => D.okNs n ds
  | n + 1, .lst ds => D.okNs n ds
  | _, _ => false
def D.okNs : Nat → List D → Bool
  | _, [] => true
  | n, d :: ds => D.okN n d && D.okNs n ds
end
abbrev D.ok (d : D) : Bool := d.okN 64

mutual
theorem eqv_py : ∀ {d e : D} {p q : PyData}, d.py = some p → e.py = some q → PyData.eqv p q = d.eqv e
  | d, e, p, q, h1, h2 => by
    cases d <;> cases e <;> simp only [D.py, Option.map_eq_some_iff, Option.some.injEq, reduceCtorEq] at h1 h2
    all_goals first
      | (obtain ⟨ps, h1, rfl⟩ := h1; obtain ⟨qs, h2, rfl⟩ := h2; simp only [PyData.eqv, D.eqv] <;> exact eqvs_py h1 h2)
      | (obtain ⟨ps, h1, rfl⟩ := h1; obtain ⟨qs, h2, rfl⟩ := h2; simp only [PyData.eqv, D.eqv])
      | (obtain ⟨ps, h1, rfl⟩ := h1; subst h2; simp only [PyData.eqv, D.eqv])
      | (obtain ⟨qs, h2, rfl⟩ := h2; subst h1; simp only [PyData.eqv, D.eqv])
      | (subst h1; subst h2; simp only [PyData.eqv, D.eqv])
theorem eqvs_py : ∀ {ds es : List D} {ps qs : List PyData}, D.pys ds = some ps → D.pys es = some qs → PyData.eqvAll ps qs = D.eqvs ds es
  | [], [], ps, qs, h1, h2 => by
    simp only [D.pys, Option.some.injEq] at h1 h2
    subst h1; subst h2; simp only [PyData.eqvAll, D.eqvs]
  | [], e :: es, ps, qs, h1, h2 => by
    simp only [D.pys, Option.some.injEq, Option.bind_eq_some_iff, Option.map_eq_some_iff] at h1 h2
    obtain ⟨q, _, qs', _, rfl⟩ := h2
    subst h1; simp only [PyData.eqvAll, D.eqvs]
  | d :: ds, [], ps, qs, h1, h2 => by
    simp only [D.pys, Option.some.injEq, Option.bind_eq_some_iff, Option.map_eq_some_iff] at h1 h2
    obtain ⟨q, _, qs', _, rfl⟩ := h1
    subst h2; simp only [PyData.eqvAll, D.eqvs]
  | d :: ds, e :: es, ps, qs, h1, h2 => by
    simp only [D.pys, Option.some.injEq, Option.bind_eq_some_iff, Option.map_eq_some_iff] at h1 h2
    obtain ⟨p, hp, ps', hps, rfl⟩ := h1
    obtain ⟨q, hq, qs', hqs, rfl⟩ := h2
    simp only [PyData.eqvAll, D.eqvs]
    rw [eqv_py hp hq, eqvs_py hps hqs]
end
mutual
theorem ok_py : ∀ {d : D} {n : Nat}, d.okN n = true → ∃ p, d.py = some p ∧ p.canLay0 = true ∧ p.depth ≤ n
  | .non, n, h => ⟨_, rfl, by simp [PyData.canLay0], by simp [PyData.depth]⟩
  | .bl b, n, h => ⟨_, rfl, by simp [PyData.canLay0], by simp [PyData.depth]⟩
  | .int i, n, h => ⟨_, rfl, by simp [PyData.canLay0], by simp [PyData.depth]⟩
  | .str x, n, h => ⟨_, rfl, by
    have h : PyData.strOk x = true := by cases n <;> simpa [D.okN] using h
    simpa [PyData.canLay0] using h, by simp [PyData.depth]⟩
  | .tup ds, 0, h => by simp [D.okN] at h
  | .lst ds, 0, h => by simp [D.okN] at h
  | .dic ds, 0, h => by simp [D.okN] at h
  | .st ds, 0, h => by simp [D.okN] at h
  | .tup ds, n + 1, h => by
    obtain ⟨ps, h1, h2, h3⟩ := oks_py (ds := ds) (n := n) (by simpa [D.okN] using h)
    exact ⟨.tuple ps, by simp [D.py, h1], by simpa [PyData.canLay0] using h2, by simp only [PyData.depth]; omega⟩
  | .lst ds, n + 1, h => by
    obtain ⟨ps, h1, h2, h3⟩ := oks_py (ds := ds) (n := n) (by simpa [D.okN] using h)
    exact ⟨.list ps, by simp [D.py, h1], by simpa [PyData.canLay0] using h2, by simp only [PyData.depth]; omega⟩
  | .dic ds, n + 1, h => by simp [D.okN] at h
  | .st ds, n + 1, h => by simp [D.okN] at h
theorem oks_py : ∀ {ds : List D} {n : Nat}, D.okNs n ds = true → ∃ ps, D.pys ds = some ps ∧ PyData.canLayAll0 ps = true ∧ PyData.depthAll ps ≤ n
  | [], n, h => ⟨[], rfl, by simp [PyData.canLayAll0], by simp [PyData.depthAll]⟩
  | d :: ds, n, h => by
    simp only [D.okNs, Bool.and_eq_true] at h
    obtain ⟨p, h1, h2, h3⟩ := ok_py h.1
    obtain ⟨ps, g1, g2, g3⟩ := oks_py h.2
    exact ⟨p :: ps, by simp [D.pys, h1, g1], by simp [PyData.canLayAll0, h2, g2], by simp only [PyData.depthAll]; omega⟩
end
section
variable {K : PySem.W.Frag} {S : Fp} {H : Hp}
mutual
theorem At.dp : ∀ {v : V} {d : D} {p : PyData}, At K S H v d → d.py = some p → Dp K H v p
  | _, _, p, .non, e => by simp only [D.py, Option.some.injEq] at e; subst e; exact .non
  | _, _, p, .bl b, e => by simp only [D.py, Option.some.injEq] at e; subst e; exact .bl b
  | _, _, p, .int i, e => by simp only [D.py, Option.some.injEq] at e; subst e; exact .int i
  | _, _, p, .str x, e => by simp only [D.py, Option.some.injEq] at e; subst e; exact .str x
  | _, _, p, .tup h q, e => by
    simp only [D.py, Option.map_eq_some_iff] at e
    obtain ⟨ps, e, rfl⟩ := e
    exact .tup (.of h) (Ats.dp q e)
  | _, _, p, .lst h q, e => by
    simp only [D.py, Option.map_eq_some_iff] at e
    obtain ⟨ps, e, rfl⟩ := e
    exact .lst h.sq (Ats.dp q e)
  | _, _, p, .dic .., e => by simp [D.py] at e
  | _, _, p, .st .., e => by simp [D.py] at e
theorem Ats.dp : ∀ {vs : List V} {ds : List D} {ps : List PyData}, Ats K S H vs ds → D.pys ds = some ps → DpAll K H vs ps
  | _, _, ps, .nil, e => by simp only [D.pys, Option.some.injEq] at e; subst e; exact .nil
  | _, _, ps, .cons a b, e => by
    simp only [D.pys, Option.bind_eq_some_iff, Option.map_eq_some_iff] at e
    obtain ⟨p, hp, ps', hps, rfl⟩ := e
    exact .cons (At.dp a hp) (Ats.dp b hps)
end
end

/-! ## operators -/
theorem OpR.imp {X : Cx} {f : Value → Value → Sem Value} {r r' : R2} (h : OpR X f r) (i : ∀ x y H Q, r' x y H Q → r x y H Q) : OpR X f r' := fun pins s σ H x y v u Q I rx ry q => h pins s σ H x y v u Q I rx ry (i _ _ _ _ q)
theorem IxR.imp {X : Cx} {r r' : R2} (h : IxR X r) (i : ∀ x y H Q, r' x y H Q → r x y H Q) : IxR X r' := fun va sl pins s σ H x y v u Q I rx ry q => h va sl pins s σ H x y v u Q I rx ry (i _ _ _ _ q)
theorem CallR.imp {X : Cx} {f : Value} {r r' : List V → Hp → VK → Prop} (h : CallR X f r) (i : ∀ xs H Q, r' xs H Q → r xs H Q) : CallR X f r' := fun pins s σ H xs us Q I rx q => h pins s σ H xs us Q I rx (i _ _ _ q)

section
variable {X : Cx}
/-- a reading by ints -/
theorem op_ints {f : Value → Value → Sem Value} {C : Int → Int → Prop} {g : Int → Int → V} {h : D → D → Option D} (o : OpR X f (rI C g))
    (hh : ∀ d e z, h d e = some z → ∃ i j, d = .int i ∧ e = .int j ∧ C i j ∧ ∀ K S H, At K S H (g i j) z) : OpR X f (rD X.K h) :=
  OpR.imp o fun x y H Q ⟨S, d, e, z, new, ad, ae, hg, k⟩ => by
    obtain ⟨i, j, rfl, rfl, c, a⟩ := hh d e z hg
    cases ad; cases ae
    exact ⟨i, j, rfl, rfl, c, k _ H (Same.refl H) (a _ _ _)⟩
def subD : D → D → Option D
  | .int i, .int j => some (.int (i - j))
  | _, _ => none
def mulD : D → D → Option D
  | .int i, .int j => if (-(2 ^ 64) < i ∧ i < 2 ^ 64) ∨ (-(2 ^ 64) < j ∧ j < 2 ^ 64) then some (.int (i * j)) else none
  | _, _ => none
def modD : D → D → Option D
  | .int i, .int j => if 0 < j then some (.int (i % j)) else none
  | _, _ => none
def fdivD : D → D → Option D
  | .int i, .int j => if 0 < j ∧ j < 1073741824 then some (.int (i / j)) else none
  | _, _ => none
def powD : D → D → Option D
  | .int i, .int j => if 0 ≤ j ∧ j ≤ 1000000 ∧ i.natAbs < 2 ^ 64 then some (.int (i ^ j.toNat)) else none
  | _, _ => none
def shlD : D → D → Option D
  | .int i, .int j => if 0 ≤ j ∧ j ≤ 1000000 ∧ i.natAbs < 2 ^ 64 then some (.int (i * 2 ^ j.toNat)) else none
  | _, _ => none
def ltD : D → D → Option D
  | .int i, .int j => some (.bl (decide (i < j)))
  | _, _ => none
def leD : D → D → Option D
  | .int i, .int j => some (.bl (decide (i ≤ j)))
  | _, _ => none
def gtD : D → D → Option D
  | .int i, .int j => some (.bl (decide (j < i)))
  | _, _ => none
def geD : D → D → Option D
  | .int i, .int j => some (.bl (decide (j ≤ i)))
  | _, _ => none
theorem ints_of {α : Type} {g : Int → Int → Option α} {d e : D} {z : α} {h : D → D → Option α} (hg : h d e = some z) (e1 : ∀ i j, h (.int i) (.int j) = g i j) (e2 : ∀ d e, h d e ≠ none → ∃ i j, d = .int i ∧ e = .int j) : ∃ i j, d = .int i ∧ e = .int j ∧ g i j = some z := by
  obtain ⟨i, j, rfl, rfl⟩ := e2 d e (by rw [hg]; simp)
  exact ⟨i, j, rfl, rfl, by rw [← e1]; exact hg⟩
theorem rI_of {f : Value → Value → Sem Value} {g : Int → Int → V} (o : OpR X f (rI0 g)) : OpR X f (rI (fun _ _ => True) g) := OpR.imp o fun x y H Q ⟨i, j, e1, e2, _, q⟩ => ⟨i, j, e1, e2, q⟩
theorem o_sub : OpR X (binaryOp .Sub) (rD X.K subD) := op_ints (rI_of op_sub) fun d e z h => by
  unfold subD at h; split at h
  · rename_i i j
    cases h
    exact ⟨i, j, rfl, rfl, trivial, fun _ _ _ => .int _⟩
  · cases h
theorem o_mul : OpR X (binaryOp .Mult) (rD X.K mulD) := op_ints op_mul fun d e z h => by
  unfold mulD at h; split at h
  · rename_i i j
    split at h
    · rename_i c
      cases h
      exact ⟨i, j, rfl, rfl, c, fun _ _ _ => .int _⟩
    · cases h
  · cases h
theorem o_mod : OpR X (binaryOp .Mod) (rD X.K modD) := op_ints op_mod fun d e z h => by
  unfold modD at h; split at h
  · rename_i i j
    split at h
    · rename_i c
      cases h
      exact ⟨i, j, rfl, rfl, c, fun _ _ _ => .int _⟩
    · cases h
  · cases h
theorem o_fdiv : OpR X (binaryOp .FloorDiv) (rD X.K fdivD) := op_ints op_fdiv fun d e z h => by
  unfold fdivD at h; split at h
  · rename_i i j
    split at h
    · rename_i c
      cases h
      exact ⟨i, j, rfl, rfl, c, fun _ _ _ => .int _⟩
    · cases h
  · cases h
theorem o_pow : OpR X (binaryOp .Pow) (rD X.K powD) := op_ints op_pow fun d e z h => by
  unfold powD at h; split at h
  · rename_i i j
    split at h
    · rename_i c
      cases h
      exact ⟨i, j, rfl, rfl, c, fun _ _ _ => .int _⟩
    · cases h
  · cases h
theorem o_shl : OpR X (binaryOp .LShift) (rD X.K shlD) := op_ints op_shl fun d e z h => by
  unfold shlD at h; split at h
  · rename_i i j
    split at h
    · rename_i c
      cases h
      exact ⟨i, j, rfl, rfl, c, fun _ _ _ => .int _⟩
    · cases h
  · cases h
theorem o_lt : OpR X (compareOp .Lt) (rD X.K ltD) := op_ints (rI_of op_lt) fun d e z h => by
  unfold ltD at h; split at h
  · rename_i i j
    cases h
    exact ⟨i, j, rfl, rfl, trivial, fun _ _ _ => .bl _⟩
  · cases h
theorem o_le : OpR X (compareOp .LtE) (rD X.K leD) := op_ints (rI_of op_le) fun d e z h => by
  unfold leD at h; split at h
  · rename_i i j
    cases h
    exact ⟨i, j, rfl, rfl, trivial, fun _ _ _ => .bl _⟩
  · cases h
theorem o_gt : OpR X (compareOp .Gt) (rD X.K gtD) := op_ints (rI_of op_gt) fun d e z h => by
  unfold gtD at h; split at h
  · rename_i i j
    cases h
    exact ⟨i, j, rfl, rfl, trivial, fun _ _ _ => .bl _⟩
  · cases h
theorem o_ge : OpR X (compareOp .GtE) (rD X.K geD) := op_ints (rI_of op_ge) fun d e z h => by
  unfold geD at h; split at h
  · rename_i i j
    cases h
    exact ⟨i, j, rfl, rfl, trivial, fun _ _ _ => .bl _⟩
  · cases h
def negD : D → Option D
  | .int i => some (.int (-i))
  | _ => none
theorem o_neg : UnR X (unaryOp .USub) (rDU X.K negD) := fun pins s σ H x v Q I rx ⟨S, d, z, new, ad, hg, k⟩ => by
  unfold negD at hg; split at hg
  · rename_i i
    cases hg; cases ad
    exact un_neg pins s σ H _ v Q I rx ⟨i, rfl, k _ H (Same.refl H) (.int _)⟩
  · cases hg

/-- a new object leaves all as it is -/
theorem same_new {H : Hp} {p : Addr} {o : HO} (h : H p = none) : Same H (upd H p o) := fun b u e => by
  rw [upd_ne (ne_of_none e h)]; exact e
def addD : D → D → Option D
  | .int i, .int j => some (.int (i + j))
  | .int i, .bl b => some (.int (i + b2i b))
  | .str x, .str y => if x.length + y.length ≤ 1000000 then some (.str (x ++ y)) else none
  | .tup xs, .tup ys => if xs.length + ys.length ≤ 1000000 then some (.tup (xs ++ ys)) else none
  | _, _ => none
theorem o_add : OpR X (binaryOp .Add) (rD X.K addD) := fun pins s σ H x y v u Q I rx ry ⟨S, d, e, z, new, ad, ae, hg, k⟩ => by
  unfold addD at hg; split at hg
  · rename_i i j
    cases hg; cases ad; cases ae
    exact op_add pins s σ H _ _ v u Q I rx ry ⟨i, j, rfl, rfl, k _ H (Same.refl H) (.int _)⟩
  · rename_i i j
    cases hg; cases ad; cases ae
    exact op_add_ib pins s σ H _ _ v u Q I rx ry ⟨i, j, rfl, rfl, k _ H (Same.refl H) (.int _)⟩
  · rename_i i j
    split at hg
    · rename_i hl
      cases hg; cases ad; cases ae
      exact op_add_str pins s σ H _ _ v u Q I rx ry ⟨i, j, rfl, rfl, big hl, k _ H (Same.refl H) (.str _)⟩
    · cases hg
  · rename_i xs ys
    split at hg
    · rename_i hl
      cases hg
      cases ad with
      | @tup a vs _ h1 q1 =>
        cases ae with
        | @tup b ws _ h2 q2 =>
          have l1 := q1.len
          have l2 := q2.len
          refine op_catA pins s σ H _ _ v u Q I rx ry ⟨a, b, vs, ws, rfl, rfl, .of h1, .of h2, by rw [l1, l2]; exact big hl, fun e => ?_, fun _ e => ?_, fun _ _ p hp => ?_⟩
          · subst e
            cases q1
            exact k _ H (Same.refl H) (.tup h2 q2)
          · subst e
            cases q2
            rw [List.append_nil] at k
            exact k _ H (Same.refl H) (.tup h1 q1)
          · exact k _ _ (same_new hp) (.tup upd_same ((q1.app q2).kp (Kp.of_same (same_new hp))))
    · cases hg
  · cases hg
/-- xs + ys, two lists: a new one -/
def catF : D → D → Option (List D)
  | .lst xs, .lst ys => if xs.length + ys.length ≤ 1000000 then some (xs ++ ys) else none
  | _, _ => none

/-! ### == and in -/
def eqD (d e : D) : Option D := if d.ok = true ∧ e.ok = true then some (.bl (d.eqv e)) else none
def neD (d e : D) : Option D := if d.ok = true ∧ e.ok = true then some (.bl (!d.eqv e)) else none
theorem shaped_of {d : D} (h : d.ok = true) : ∃ p, d.py = some p ∧ SeqAt.shaped p = true := by
  obtain ⟨p, h1, h2, h3⟩ := ok_py h
  exact ⟨p, h1, by unfold SeqAt.shaped; rw [h2]; simpa using h3⟩
theorem o_eq (hu : X.A.units + 64 < cLine) : OpR X (compareOp .Eq) (rD X.K eqD) := OpR.imp (op_eqD hu) fun x y H Q ⟨S, d, e, z, new, ad, ae, hg, k⟩ => by
  unfold eqD at hg
  split at hg
  · rename_i h
    cases hg
    obtain ⟨p, hp, sp⟩ := shaped_of h.1
    obtain ⟨q, hq, sq⟩ := shaped_of h.2
    refine ⟨p, q, ad.dp hp, ae.dp hq, sp, sq, ?_⟩
    rw [eqv_py hp hq]
    exact k _ H (Same.refl H) (.bl _)
  · cases hg
theorem o_ne (hu : X.A.units + 64 < cLine) : OpR X (compareOp .NotEq) (rD X.K neD) := OpR.imp (op_neD hu) fun x y H Q ⟨S, d, e, z, new, ad, ae, hg, k⟩ => by
  unfold neD at hg
  split at hg
  · rename_i h
    cases hg
    obtain ⟨p, hp, sp⟩ := shaped_of h.1
    obtain ⟨q, hq, sq⟩ := shaped_of h.2
    refine ⟨p, q, ad.dp hp, ae.dp hq, sp, sq, ?_⟩
    rw [eqv_py hp hq]
    exact k _ H (Same.refl H) (.bl _)
  · cases hg
/-- the key of a dict that a tuple is -/
def D.keys : List D → Option (List Key)
  | [] => some []
  | .int i :: ds => (D.keys ds).map fun r => .inl i :: r
  | .str x :: ds => (D.keys ds).map fun r => .inr x :: r
  | _ :: _ => none
def D.key : D → Option (List Key)
  | .tup ds => D.keys ds
  | _ => none
theorem keys_keyD : ∀ k : List Key, D.keys (k.map keyD) = some k
  | [] => rfl
  | .inl i :: k => by simp [D.keys, keyD, keys_keyD k]
  | .inr i :: k => by simp [D.keys, keyD, keys_keyD k]
theorem keys_at {K : PySem.W.Frag} {S : Fp} {H : Hp} : ∀ {vs : List V} {ds : List D} {k : List Key}, Ats K S H vs ds → D.keys ds = some k → vs = k.map kV
  | _, _, k, .nil, e => by simp only [D.keys, Option.some.injEq] at e; subst e; rfl
  | _, _, k, .cons a b, e => by
    cases a <;> simp only [D.keys, Option.map_eq_some_iff, reduceCtorEq] at e
    · obtain ⟨r, e, rfl⟩ := e
      rw [keys_at b e]; rfl
    · obtain ⟨r, e, rfl⟩ := e
      rw [keys_at b e]; rfl
/-- what a dict of entries (key, value) has at a key -/
def dicGet : List D → List Key → Option D
  | [], _ => none
  | .tup [k, v] :: es, key => if k.key = some key then some v else dicGet es key
  | _ :: es, key => dicGet es key
theorem ents_get {K : PySem.W.Frag} {S : Fp} {H : Hp} {k : List Key} : ∀ {kvs : List (List Key × V)} {es : List D}, Ents K S H kvs es → (match valV kvs k with
    | some v => ∃ d, dicGet es k = some d ∧ At K S H v d
    | none => dicGet es k = none)
  | _, _, .nil => rfl
  | _, _, .cons (k := k') (v := v) (kvs := kvs) (d := d) (es := es) a b => by
    have ek : D.key (.tup (k'.map keyD)) = some k' := keys_keyD k'
    by_cases h : k' = k
    · subst h
      rw [valV_pos rfl]
      exact ⟨d, by unfold dicGet; rw [if_pos ek], a⟩
    · have h' : ¬ ((k', v) : List Key × V).1 = k := h
      rw [valV_neg h']
      have e : dicGet (.tup [.tup (k'.map keyD), d] :: es) k = dicGet es k := by
        conv => lhs; unfold dicGet
        rw [if_neg (by rw [ek]; intro z; exact h (Option.some.inj z))]
      rw [e]
      exact ents_get b
/-! a set's keys -/
mutual
theorem keyN_tf : ∀ {d : D} {k : NestedKey}, keyN d = some k → tf k = true
  | .non, k, h => by simp only [keyN, Option.some.injEq] at h; subst h; rfl
  | .bl b, k, h => by simp only [keyN, Option.some.injEq] at h; subst h; rfl
  | .int b, k, h => by simp only [keyN, Option.some.injEq] at h; subst h; rfl
  | .str b, k, h => by simp [keyN] at h
  | .lst b, k, h => by simp [keyN] at h
  | .dic b, k, h => by simp [keyN] at h
  | .st b, k, h => by simp [keyN] at h
  | .tup ds, k, h => by
    simp only [keyN, Option.map_eq_some_iff] at h
    obtain ⟨ks, h, rfl⟩ := h
    rw [tf]
    exact keysN_tf h
theorem keysN_tf : ∀ {ds : List D} {ks : List NestedKey}, keysN ds = some ks → tfs ks = true
  | [], ks, h => by simp only [keysN, Option.some.injEq] at h; subst h; rfl
  | d :: ds, ks, h => by
    simp only [keysN, Option.bind_eq_some_iff, Option.map_eq_some_iff] at h
    obtain ⟨k, hk, ks', hks, rfl⟩ := h
    rw [tfs, keyN_tf hk, keysN_tf hks] <;> rfl
end
section
variable {P : Program} {w : World} {K : PySem.W.Frag} {H : Hp} {s : Shared} {S : Fp}
mutual
theorem nested_of (I : HOk P w H s.heap) : ∀ {d : D} {k : NestedKey} {v : V} {u : Value}, keyN d = some k → At K S H v d → RelV v u → NestedIs s.heap k u
  | .non, k, v, u, h, a, r => by
    simp only [keyN, Option.some.injEq] at h
    subst h
    cases a
    cases (show u = Value.none from r)
    exact .none
  | .bl b, k, v, u, h, a, r => by
    simp only [keyN, Option.some.injEq] at h
    subst h
    cases a
    cases (show u = Value.bool b from r)
    exact .bool rfl
  | .int i, k, v, u, h, a, r => by
    simp only [keyN, Option.some.injEq] at h
    subst h
    cases a
    obtain ⟨t, rfl⟩ := r
    exact .int i t
  | .str b, k, v, u, h, _, _ => by simp [keyN] at h
  | .lst b, k, v, u, h, _, _ => by simp [keyN] at h
  | .dic b, k, v, u, h, _, _ => by simp [keyN] at h
  | .st b, k, v, u, h, _, _ => by simp [keyN] at h
  | .tup ds, k, v, u, h, a, r => by
    simp only [keyN, Option.map_eq_some_iff] at h
    obtain ⟨ks, h, rfl⟩ := h
    cases a with
    | @tup a vs _ ha q =>
      cases r
      obtain ⟨_, its, rv, ⟨o, ho, hc, n, hd⟩⟩ := I a _ ha
      exact .tup ho hc hd (nested_all I h q (by simpa using rv))
theorem nested_all (I : HOk P w H s.heap) : ∀ {ds : List D} {ks : List NestedKey} {vs : List V} {us : List Value}, keysN ds = some ks → Ats K S H vs ds → Vals vs us → NestedAll s.heap ks us
  | [], ks, vs, us, h, a, r => by
    simp only [keysN, Option.some.injEq] at h
    subst h
    cases a
    cases r
    exact .nil
  | d :: ds, ks, vs, us, h, a, r => by
    simp only [keysN, Option.bind_eq_some_iff, Option.map_eq_some_iff] at h
    obtain ⟨k, hk, ks', hks, rfl⟩ := h
    cases a with
    | cons a1 a2 =>
      cases r with
      | cons r1 r2 => exact .cons (nested_of I hk a1 r1) (nested_all I hks a2 r2)
end
theorem isK_of (I : HOk P w H s.heap) {d : D} {k : NestedKey} {v : V} (h : setKey d = some k) (a : At K S H v d) : ∃ b, v = .ref b ∧ IsK s.heap k b := by
  cases d <;> simp only [setKey, reduceCtorEq] at h
  obtain ⟨k', hk, h⟩ := Option.bind_eq_some_iff.mp h
  split at h
  · rename_i hd
    cases h
    cases a with
    | @tup a vs _ ha q => exact ⟨a, rfl, nested_of I hk (.tup ha q) (u := .ref a) rfl, hd, keyN_tf hk⟩
  · cases h
/-- what a set holds -/
theorem set_tup (I : HOk P w H s.heap) : ∀ {L : List (Addr × NestedKey)} {ds : List D}, Ats K S H (L.map fun p => V.ref p.1) ds → (ds.map setKey = L.map fun p => some p.2) → ∀ p ∈ L, IsK s.heap p.2 p.1
  | [], ds, _, _, p, hp => by cases hp
  | q :: L, ds, a, h, p, hp => by
    rw [List.map_cons] at a
    cases a with
    | @cons _ _ d ds a1 a2 =>
      simp only [List.map_cons, List.cons.injEq] at h
      rcases List.mem_cons.mp hp with e | hp
      · subst e
        obtain ⟨b, e, i⟩ := isK_of I h.1 a1
        cases e
        exact i
      · exact set_tup I a2 h.2 p hp
theorem set_any {L L' : List (Addr × NestedKey)} {ds : List D} {k : NestedKey} (hp : SubK L L') (h : ds.map setKey = L'.map fun p => some p.2) : decide (k ∈ L.map (·.2)) = ds.any fun z => decide (setKey z = some k) := by
  rw [Bool.eq_iff_iff, decide_eq_true_eq, List.any_eq_true]
  constructor
  · intro m
    obtain ⟨p, hp1, e⟩ := List.mem_map.mp m
    have hp := hp.1 p hp1
    have m2 : some p.2 ∈ ds.map setKey := by rw [h]; exact List.mem_map.mpr ⟨p, hp, rfl⟩
    obtain ⟨z, hz, e2⟩ := List.mem_map.mp m2
    exact ⟨z, hz, decide_eq_true (by rw [e2, e])⟩
  · rintro ⟨z, hz, e⟩
    have e := of_decide_eq_true e
    have m2 : setKey z ∈ L'.map fun p => some p.2 := by rw [← h]; exact List.mem_map.mpr ⟨z, hz, rfl⟩
    obtain ⟨p, hp1, e2⟩ := List.mem_map.mp m2
    rw [e] at e2
    rw [← Option.some.inj e2]
    exact hp.2 p hp1
end
section
variable {P : Program} {w : World} {A : Around} {E : Value → Shared → Prop} {s : Shared} {fb : Bool} {a : Addr} {L : List (Addr × NestedKey)} {x : Addr} {k : NestedKey}
theorem typeIs_setK {es : Array (Int × Value)} {ep : Nat} {t : SetTable} (R : SetK fb s.heap a L es ep t) : s.TypeIs (.ref a) "set" := by
  obtain ⟨o, ho, hex, _⟩ := R.ob
  exact ⟨o, ho, hex.1⟩
theorem containsK (R : IsSetK fb s.heap a L) (tup : ∀ p ∈ L, IsK s.heap p.2 p.1) (hx : IsK s.heap k x) (hu : A.units + 20 < cLine) {Q : Bool → Shared → Prop}
    (h : ∀ tk, Q (decide (k ∈ L.map (·.2))) { s with toks := tk }) : wpAny (model P w) A (contains (.ref a) (.ref x)) Q E s := by
  obtain ⟨es, ep, t, R⟩ := R
  have hT := typeIs_setK R
  unfold contains
  try with_reducible refine wpAny_holding ?_
  refine wpAny_bind (wpAny_specialOf hT F.slot_set_contains.lookup ?_)
  show wpAny _ _ (if (some (Value.builtin "set.__contains__") == some Value.none) = true then _ else _) _ E s
  rw [if_neg (by rw [beq_builtin_none]; exact Bool.false_ne_true)]
  refine wpAny_bind (wpAny_callSpecialUnlessNone?_slot (name := Str.ofString "__contains__") hT F.slot_set_contains
    (wpAny_call_entry F.slot_set_contains hT entry_set_contains ?_ (F.args_set_contains_2 _ _)))
  unfold Builtin.«frozenset.__contains__» Builtin.Frozenset.oneOther
  simp only [List.isEmpty_nil, bind_assoc]
  unfold Builtin.Frozenset.addrOf Builtin.Frozenset.withSetAsKey
  refine wpAny_bind (wpAny_pure ?_)
  try dsimp only
  refine wpAny_bind (wpAny_pure ?_)
  try dsimp only
  refine wpAny_bind (wpAny_tryCatch ?_)
  refine hasK R tup hx (by simp only [Around.in1_units]; omega) fun tk => ?_
  show wpAny _ _ (ret (Value.bool _)) _ _ _
  exact wpAny_pure ⟨_, rfl, wpAny_truthy_bool (h tk)⟩
end
def inD (d c : D) : Option D := match c with
  | .lst ds => if d.ok = true ∧ D.okNs 63 ds = true then some (.bl (ds.any fun z => z.eqv d)) else none
  | .tup ds => if d.ok = true ∧ D.okNs 63 ds = true then some (.bl (ds.any fun z => z.eqv d)) else none
  | .dic es => d.key.map fun k => .bl (dicGet es k).isSome
  | .st ds => (setKey d).map fun k => .bl (ds.any fun z => decide (setKey z = some k))
  | _ => none
def notInD (d c : D) : Option D := match c with
  | .lst ds => if d.ok = true ∧ D.okNs 63 ds = true then some (.bl (!ds.any fun z => z.eqv d)) else none
  | .tup ds => if d.ok = true ∧ D.okNs 63 ds = true then some (.bl (!ds.any fun z => z.eqv d)) else none
  | .dic es => d.key.map fun k => .bl (!(dicGet es k).isSome)
  | .st ds => (setKey d).map fun k => .bl (!ds.any fun z => decide (setKey z = some k))
  | _ => none
theorem any_py {d : D} {p : PyData} (hp : d.py = some p) : ∀ {ds : List D} {ps : List PyData}, D.pys ds = some ps → (ps.any fun z => PyData.eqv z p) = ds.any fun z => z.eqv d
  | [], ps, h => by simp only [D.pys, Option.some.injEq] at h; subst h; rfl
  | e :: ds, ps, h => by
    simp only [D.pys, Option.bind_eq_some_iff, Option.map_eq_some_iff] at h
    obtain ⟨q, hq, qs, hqs, rfl⟩ := h
    rw [List.any_cons, List.any_cons, any_py hp hqs, eqv_py hq hp]
theorem shaped_all {ds : List D} (h : D.okNs 63 ds = true) : ∃ ps, D.pys ds = some ps ∧ SeqAt.shaped (.list ps) = true ∧ SeqAt.shaped (.tuple ps) = true := by
  obtain ⟨ps, h1, h2, h3⟩ := oks_py h
  refine ⟨ps, h1, ?_, ?_⟩
  · exact Bool.and_eq_true_iff.mpr ⟨by simpa [PyData.canLay0] using h2, decide_eq_true (by simp only [PyData.depth]; omega)⟩
  · exact Bool.and_eq_true_iff.mpr ⟨by simpa [PyData.canLay0] using h2, decide_eq_true (by simp only [PyData.depth]; omega)⟩
theorem key_at {K : PySem.W.Frag} {S : Fp} {H : Hp} {y : V} {d : D} {k : List Key} (a : At K S H y d) (e : d.key = some k) : ∃ b, y = .ref b ∧ H b = some (.tup (k.map kV)) := by
  cases a <;> simp only [D.key, reduceCtorEq] at e
  rename_i a vs ds h q
  rw [keys_at q e] at h
  exact ⟨a, rfl, h⟩
theorem o_in (hu : X.A.units + 65 < cLine) : OpR X (compareOp .In) (rD X.K inD) := fun pins s σ H x y v u Q I rx ry ⟨S, d, e, z, new, ad, ae, hg, k⟩ => by
  unfold inD at hg
  cases ae with
  | @lst a vs ds h q =>
    simp only at hg
    split at hg
    · rename_i o
      cases hg
      obtain ⟨p, hp, sp⟩ := shaped_of o.1
      obtain ⟨ps, hps, sl, _⟩ := shaped_all o.2
      refine op_inD hu pins s σ H _ _ v u Q I rx ry ⟨p, ps, ad.dp hp, .lst h.sq (q.dp hps), sp, sl, ?_⟩
      rw [any_py hp hps]
      exact k _ H (Same.refl H) (.bl _)
    · cases hg
  | @tup a vs ds h q =>
    simp only at hg
    split at hg
    · rename_i o
      cases hg
      obtain ⟨p, hp, sp⟩ := shaped_of o.1
      obtain ⟨ps, hps, _, sl⟩ := shaped_all o.2
      obtain ⟨as, r1⟩ := Dp.reads I p x v (ad.dp hp) rx
      obtain ⟨bs, r2⟩ := Dp.reads I (.tuple ps) _ u (.tup (.of h) (q.dp hps)) ry
      have sl' : PyData.canLayAll0 ps = true := by
        have := SeqAt.canLay_of_shaped sl
        simpa [PyData.canLay0] using this
      refine SeqAt.in_tuple_reads r2 r1 sl' (SeqAt.canLay_of_shaped sp) (room_in_shaped sp hu) ⟨.bl _, H, I, rfl, ?_⟩
      rw [any_py hp hps]
      exact k _ H (Same.refl H) (.bl _)
    · cases hg
  | @dic a kvs es h sa q =>
    simp only [Option.map_eq_some_iff] at hg
    obtain ⟨key, hk, rfl⟩ := hg
    obtain ⟨b, rfl, hb⟩ := key_at ad hk
    cases ry
    refine d_in (by omega) I (DGet.t h hb) rx fun s' I' => ⟨.bl _, H, I', rfl, ?_⟩
    have g := ents_get (k := key) q
    cases e : valV kvs key with
    | none =>
      rw [e] at g
      rw [g] at k
      exact k _ H (Same.refl H) (.bl _)
    | some w =>
      rw [e] at g
      obtain ⟨dd, g, _⟩ := g
      rw [g] at k
      exact k _ H (Same.refl H) (.bl _)
  | @st a fb L L' ds h sa pm q z =>
    simp only [Option.map_eq_some_iff] at hg
    obtain ⟨key, hk, rfl⟩ := hg
    obtain ⟨b, rfl, hb⟩ := isK_of I.hok hk ad
    cases rx
    cases ry
    have R : IsSetK fb s.heap a L := (I.hok a _ h).1
    have tup : ∀ p ∈ L, IsK s.heap p.2 p.1 := fun p hp => set_tup I.hok q z p (pm.1 p hp)
    show wpAny _ _ (do return Value.bool (← contains (.ref a) (.ref b))) _ _ _
    refine wpAny_bind (containsK R tup hb (by omega) fun tk => wpAny_pure ⟨.bl _, H, I.tok _, rfl, ?_⟩)
    rw [set_any pm z]
    exact k _ H (Same.refl H) (.bl _)
  | _ => simp at hg
theorem o_notIn (hu : X.A.units + 65 < cLine) : OpR X (compareOp .NotIn) (rD X.K notInD) := fun pins s σ H x y v u Q I rx ry ⟨S, d, e, z, new, ad, ae, hg, k⟩ => by
  unfold notInD at hg
  cases ae with
  | @lst a vs ds h q =>
    simp only at hg
    split at hg
    · rename_i o
      cases hg
      obtain ⟨p, hp, sp⟩ := shaped_of o.1
      obtain ⟨ps, hps, sl, _⟩ := shaped_all o.2
      refine op_notInD hu pins s σ H _ _ v u Q I rx ry ⟨p, ps, ad.dp hp, .lst h.sq (q.dp hps), sp, sl, ?_⟩
      rw [any_py hp hps]
      exact k _ H (Same.refl H) (.bl _)
    · cases hg
  | @tup a vs ds h q =>
    simp only at hg
    split at hg
    · rename_i o
      cases hg
      obtain ⟨p, hp, sp⟩ := shaped_of o.1
      obtain ⟨ps, hps, _, sl⟩ := shaped_all o.2
      obtain ⟨as, r1⟩ := Dp.reads I p x v (ad.dp hp) rx
      obtain ⟨bs, r2⟩ := Dp.reads I (.tuple ps) _ u (.tup (.of h) (q.dp hps)) ry
      have sl' : PyData.canLayAll0 ps = true := by
        have := SeqAt.canLay_of_shaped sl
        simpa [PyData.canLay0] using this
      refine SeqAt.notIn_tuple_reads r2 r1 sl' (SeqAt.canLay_of_shaped sp) (room_in_shaped sp hu) ⟨.bl _, H, I, rfl, ?_⟩
      rw [any_py hp hps]
      exact k _ H (Same.refl H) (.bl _)
    · cases hg
  | @dic a kvs es h sa q =>
    simp only [Option.map_eq_some_iff] at hg
    obtain ⟨key, hk, rfl⟩ := hg
    obtain ⟨b, rfl, hb⟩ := key_at ad hk
    cases ry
    refine d_notIn (by omega) I (DGet.t h hb) rx fun s' I' => ⟨.bl _, H, I', rfl, ?_⟩
    have g := ents_get (k := key) q
    cases e : valV kvs key with
    | none =>
      rw [e] at g
      rw [g] at k
      exact k _ H (Same.refl H) (.bl _)
    | some w =>
      rw [e] at g
      obtain ⟨dd, g, _⟩ := g
      rw [g] at k
      exact k _ H (Same.refl H) (.bl _)
  | @st a fb L L' ds h sa pm q z =>
    simp only [Option.map_eq_some_iff] at hg
    obtain ⟨key, hk, rfl⟩ := hg
    obtain ⟨b, rfl, hb⟩ := isK_of I.hok hk ad
    cases rx
    cases ry
    have R : IsSetK fb s.heap a L := (I.hok a _ h).1
    have tup : ∀ p ∈ L, IsK s.heap p.2 p.1 := fun p hp => set_tup I.hok q z p (pm.1 p hp)
    show wpAny _ _ (do return Value.bool (!(← contains (.ref a) (.ref b)))) _ _ _
    refine wpAny_bind (containsK R tup hb (by omega) fun tk => wpAny_pure ⟨.bl _, H, I.tok _, rfl, ?_⟩)
    rw [set_any pm z]
    exact k _ H (Same.refl H) (.bl _)
  | _ => simp at hg
def isD : D → D → Option D
  | d, .non => some (.bl (match d with | .non => true | _ => false))
  | .bl a, .bl b => some (.bl (decide (a = b)))
  | _, _ => none
def isNotD : D → D → Option D
  | d, .non => some (.bl (match d with | .non => false | _ => true))
  | .bl a, .bl b => some (.bl (!decide (a = b)))
  | _, _ => none
theorem o_is : OpR X (compareOp .Is) (rD X.K isD) := fun pins s σ H x y v u Q I rx ry ⟨S, d, e, z, new, ad, ae, hg, k⟩ => by
  unfold isD at hg
  split at hg
  · cases ae
    cases hg
    refine op_isN pins s σ H _ _ v u Q I rx ry ⟨rfl, ?_⟩
    cases ad <;> exact k _ H (Same.refl H) (.bl _)
  · cases hg; cases ad; cases ae
    exact op_is_bl pins s σ H _ _ v u Q I rx ry ⟨_, _, rfl, rfl, k _ H (Same.refl H) (.bl _)⟩
  · cases hg
theorem o_isNot : OpR X (compareOp .IsNot) (rD X.K isNotD) := fun pins s σ H x y v u Q I rx ry ⟨S, d, e, z, new, ad, ae, hg, k⟩ => by
  unfold isNotD at hg
  split at hg
  · cases ae
    cases hg
    refine op_notN pins s σ H _ _ v u Q I rx ry ⟨rfl, ?_⟩
    cases ad <;> exact k _ H (Same.refl H) (.bl _)
  · cases hg; cases ad; cases ae
    exact op_isnot_bl pins s σ H _ _ v u Q I rx ry ⟨_, _, rfl, rfl, k _ H (Same.refl H) (.bl _)⟩
  · cases hg

/-! ### an item -/
def ixD : D → D → Option D
  | .lst ds, .int i => atI ds i
  | .tup ds, .int i => atI ds i
  | _, _ => none
theorem ats_atI {K : PySem.W.Frag} {S : Fp} {H : Hp} {vs : List V} {ds : List D} {i : Int} {d : D} (a : Ats K S H vs ds) (h : atI ds i = some d) : ∃ v, atI vs i = some v ∧ At K S H v d := by
  unfold atI at h ⊢
  rw [a.len]
  obtain ⟨j, h1, h2⟩ := Option.bind_eq_some_iff.mp h
  obtain ⟨v, h3, h4⟩ := a.get h2
  exact ⟨v, by rw [h1]; exact h3, h4⟩
theorem x_ix : IxR X (rD X.K ixD) := IxR.imp ix_seq fun x y H Q ⟨S, d, e, z, new, ad, ae, hg, k⟩ => by
  unfold ixD at hg
  split at hg
  · cases ae
    cases ad with
    | @lst a vs ds h q =>
      obtain ⟨v, h1, h2⟩ := ats_atI q hg
      exact .inl ⟨_, _, _, v, rfl, rfl, h.sq, h1, k v H (Same.refl H) h2⟩
  · cases ae
    cases ad with
    | @tup a vs ds h q =>
      obtain ⟨v, h1, h2⟩ := ats_atI q hg
      exact .inr (.inl ⟨_, _, _, v, rfl, rfl, .of h, h1, k v H (Same.refl H) h2⟩)
  · cases hg
end

/-! ### slices -/
def cutD (ds : List D) (lo hi : Option Int) : List D := (ds.drop (HT.sIx ds.length 0 lo)).take (HT.sIx ds.length ds.length hi - HT.sIx ds.length 0 lo)
theorem cut_at {K : PySem.W.Frag} {S : Fp} {H : Hp} {vs : List V} {ds : List D} {lo hi : Option Int} (a : Ats K S H vs ds) : Ats K S H (cutV vs lo hi) (cutD ds lo hi) := by
  unfold cutV cutD
  rw [a.len]
  exact (a.drop _).take _
def mPart (a : E D) : E (Option Int) := fun env ρ => (a env ρ).bind fun x => match x.1 with
  | .int i => some (some i, x.2)
  | _ => none
def mNoPart : E (Option Int) := fun _ ρ => some (none, ρ)
def tMO (K : PySem.W.Frag) (F : Frm) (f : E (Option Int)) : TO := fun σ H Q => ∃ env ρ d ρ', Rel K F σ H env ρ ∧ f env ρ = some (d, ρ') ∧ ∀ H', Eff F H H' → RowIs K F H' ρ' → Q d H'
structure PMO (X : Cx) (e : Option Expr) (f : E (Option Int)) : Prop where
  po : ∀ F : Frm, PO X e (tMO X.K F f)
theorem PO.imp {X : Cx} {e : Option Expr} {t t' : TO} (h : PO X e t) (i : ∀ σ H Q, t' σ H Q → t σ H Q) : PO X e t' := ⟨fun pins s σ H Q I q => h.run pins s σ H Q I (i _ _ _ q)⟩
def mCutT (a : E D) (lo hi : E (Option Int)) : E D := fun env ρ => (a env ρ).bind fun x => (lo env x.2).bind fun l => (hi env l.2).bind fun h => match x.1 with
  | .tup ds => some (.tup (cutD ds l.1 h.1), h.2)
  | _ => none
def mCutL (a : E D) (lo hi : E (Option Int)) : E (List D) := fun env ρ => (a env ρ).bind fun x => (lo env x.2).bind fun l => (hi env l.2).bind fun h => match x.1 with
  | .lst ds => some (cutD ds l.1 h.1, h.2)
  | _ => none
section
variable {X : Cx}
theorem mo_none : PMO X none mNoPart := ⟨fun F => PO.imp po_none fun σ H Q ⟨env, ρ, d, ρ', r, hf, k⟩ => by
  cases hf
  exact k H Eff.refl r.row⟩
theorem mo_some {e : Expr} {f : E D} (h : PM X e f) : PMO X (some e) (mPart f) := ⟨fun F => PO.imp (po_some (h.pe F)) fun σ H Q ⟨env, ρ, d, ρ', r, hf, k⟩ => by
  unfold mPart at hf
  obtain ⟨⟨da, ρ1⟩, ha, hf⟩ := Option.bind_eq_some_iff.mp hf
  refine ⟨env, ρ, da, ρ1, r, ha, fun v H1 e1 w1 a1 => ?_⟩
  cases a1 <;> cases hf
  exact ⟨_, rfl, k H1 e1 w1⟩⟩
theorem m_cutT {e : Expr} {lo hi : Option Expr} {p2 pos : Pos} {fa : E D} {fl fh : E (Option Int)} (ha : PM X e fa) (hl : PMO X lo fl) (hh : PMO X hi fh) : PM X (.Subscript e (.Slice lo hi none p2) pos) (mCutT fa fl fh) :=
  ⟨fun F => PE.imp (pe_slice sl_tupA (ha.pe F) (hl.po F) (hh.po F)) fun σ H Q ⟨env, ρ, d, ρ', r, hf, k⟩ => by
    unfold mCutT at hf
    obtain ⟨⟨da, ρ1⟩, ha, hf⟩ := Option.bind_eq_some_iff.mp hf
    obtain ⟨⟨l, ρ2⟩, hl, hf⟩ := Option.bind_eq_some_iff.mp hf
    obtain ⟨⟨h, ρ3⟩, hh, hf⟩ := Option.bind_eq_some_iff.mp hf
    refine ⟨env, ρ, da, ρ1, r, ha, fun v H1 e1 w1 a1 => ?_⟩
    refine ⟨env, ρ1, l, ρ2, r.eff e1 w1, hl, fun H2 e2 w2 => ?_⟩
    refine ⟨env, ρ2, h, ρ3, (r.eff e1 w1).eff e2 w2, hh, fun H3 e3 w3 => ?_⟩
    simp only at hf
    split at hf
    · rename_i ds
      cases hf
      have e13 := e2.trans e3
      have a3 := a1.kp (w1.kp e13)
      cases a3 with
      | @tup a vs _ h1 q =>
        have q' := cut_at (lo := l) (hi := h) q
        refine ⟨a, vs, rfl, .of h1, fun e => ?_, fun _ p hp => ?_⟩
        · refine k _ H3 (e1.trans e13) w3 (.tup h1 ?_)
          have : cutV vs l h = vs := by
            unfold cutV; rw [e.1, e.2]; simp
          rw [this] at q'
          exact q'
        · exact k _ _ ((e1.trans e13).trans (Eff.of_same (same_new hp))) (w3.same (same_new hp)) (.tup upd_same (q'.kp (Kp.of_same (same_new hp))))
    · cases hf⟩
theorem mf_cut {e : Expr} {lo hi : Option Expr} {p2 pos : Pos} {fa : E D} {fl fh : E (Option Int)} (ha : PM X e fa) (hl : PMO X lo fl) (hh : PMO X hi fh) : PMF X (.Subscript e (.Slice lo hi none p2) pos) (mCutL fa fl fh) :=
  ⟨fun F => PE.imp (pe_slice sl_list (ha.pe F) (hl.po F) (hh.po F)) fun σ H Q ⟨env, ρ, d, ρ', r, hf, k⟩ => by
    unfold mCutL at hf
    obtain ⟨⟨da, ρ1⟩, ha, hf⟩ := Option.bind_eq_some_iff.mp hf
    obtain ⟨⟨l, ρ2⟩, hl, hf⟩ := Option.bind_eq_some_iff.mp hf
    obtain ⟨⟨h, ρ3⟩, hh, hf⟩ := Option.bind_eq_some_iff.mp hf
    refine ⟨env, ρ, da, ρ1, r, ha, fun v H1 e1 w1 a1 => ?_⟩
    refine ⟨env, ρ1, l, ρ2, r.eff e1 w1, hl, fun H2 e2 w2 => ?_⟩
    refine ⟨env, ρ2, h, ρ3, (r.eff e1 w1).eff e2 w2, hh, fun H3 e3 w3 => ?_⟩
    simp only at hf
    split at hf
    · rename_i ds
      cases hf
      have e13 := e2.trans e3
      have a3 := a1.kp (w1.kp e13)
      cases a3 with
      | @lst a vs _ h1 q =>
        have q' := cut_at (lo := l) (hi := h) q
        refine ⟨a, vs, rfl, h1.sq, fun p hp => ?_⟩
        exact k p _ _ ((e1.trans e13).trans (Eff.of_same (same_new hp))) (w3.same (same_new hp)) (eff_new (e1.trans e13) w3 hp) upd_same (w3.new hp) (q'.kp (Kp.of_same (same_new hp)))
    · cases hf⟩
end

/-! ## calls of built-ins -/
section
variable {X : Cx}
def lenD : List D → Option D
  | [.lst ds] => some (.int ds.length)
  | [.tup ds] => some (.int ds.length)
  | [.str x] => if x.length ≤ 1000000 then some (.int x.length) else none
  | _ => none
theorem c_len : CallR X (.builtin "len") (rDC X.K lenD) := fun pins s σ H xs us Q I r ⟨S, ds, z, new, a, hg, k⟩ => by
  unfold lenD at hg
  split at hg
  · cases a with
    | cons a b =>
      cases b
      cases a with
      | @lst a vs ds h q =>
        cases hg
        refine call_len_seq pins s σ H _ us Q I r ⟨a, vs, rfl, .inl h.sq, ?_⟩
        rw [q.len]
        exact k _ H (Same.refl H) (.int _)
  · cases a with
    | cons a b =>
      cases b
      cases a with
      | @tup a vs ds h q =>
        cases hg
        refine call_len_seq pins s σ H _ us Q I r ⟨a, vs, rfl, .inr (.of h), ?_⟩
        rw [q.len]
        exact k _ H (Same.refl H) (.int _)
  · split at hg
    · rename_i hl
      cases a with
      | cons a b =>
        cases b
        cases a
        cases hg
        exact call_len_str pins s σ H _ us Q I r ⟨_, rfl, big hl, k _ H (Same.refl H) (.int _)⟩
    · cases hg
  · cases hg
def intD : List D → Option D
  | [.int i] => some (.int i)
  | [.bl b] => some (.int (if b then 1 else 0))
  | _ => none
theorem c_int : CallR X (.type "int") (rDC X.K intD) := CallR.imp call_int1 fun xs H Q ⟨S, ds, z, new, a, hg, k⟩ => by
  unfold intD at hg
  split at hg
  · cases a with
    | cons a b =>
      cases b; cases a; cases hg
      exact .inl ⟨_, rfl, k _ H (Same.refl H) (.int _)⟩
  · cases a with
    | cons a b =>
      cases b; cases a; cases hg
      exact .inr ⟨_, rfl, k _ H (Same.refl H) (.int _)⟩
  · cases hg
def tupleD : List D → Option D
  | [.lst ds] => some (.tup ds)
  | [.tup ds] => some (.tup ds)
  | _ => none
theorem c_tuple : CallR X (.type "tuple") (rDC X.K tupleD) := CallR.imp call_tuple_of fun xs H Q ⟨S, ds, z, new, a, hg, k⟩ => by
  unfold tupleD at hg
  split at hg
  · cases a with
    | cons a b =>
      cases b
      cases a with
      | @lst a vs ds h q =>
        cases hg
        exact ⟨a, vs, rfl, .inl ⟨h.sq, fun l hl => k _ _ (same_new hl) (.tup upd_same (q.kp (Kp.of_same (same_new hl))))⟩⟩
  · cases a with
    | cons a b =>
      cases b
      cases a with
      | @tup a vs ds h q =>
        cases hg
        exact ⟨a, vs, rfl, .inr ⟨.of h, k _ H (Same.refl H) (.tup h q)⟩⟩
  · cases hg
def listF : List D → Option (List D)
  | [.lst ds] => some ds
  | [.tup ds] => some ds
  | _ => none
theorem c_list : CallR X (.type "list") (rDF X.K listF) := CallR.imp call_list_of fun xs H Q ⟨S, ds, zs, new, a, hg, k⟩ => by
  unfold listF at hg
  split at hg
  · cases a with
    | cons a b =>
      cases b
      cases a with
      | @lst a vs ds h q =>
        cases hg
        exact ⟨a, vs, rfl, .inl h.sq, fun l hl => k l _ _ (same_new hl) hl upd_same (q.kp (Kp.of_same (same_new hl)))⟩
  · cases a with
    | cons a b =>
      cases b
      cases a with
      | @tup a vs ds h q =>
        cases hg
        exact ⟨a, vs, rfl, .inr (.of h), fun l hl => k l _ _ (same_new hl) hl upd_same (q.kp (Kp.of_same (same_new hl)))⟩
  · cases hg
end
end VS
end

section
set_option Elab.async false
set_option linter.all false
set_option maxRecDepth 100000
set_option maxHeartbeats 1000000
namespace VS
open PySem PySem.Spec PyProof.Rows L2

/-! ## what is walked -/
/-- J yields ds, one behind another, while what S says stands as in H1 -/
def Walk (K : PySem.W.Frag) (S : Fp) (J : It) (ds : List D) (H1 : Hp) : Prop := ∀ H, Kp S H1 H →
  (∀ i, i < ds.length → J.go i H) ∧ J.stop ds.length H ∧ ∀ i x H', i < ds.length → J.yld i H x H' → ∃ d, ds[i]? = some d ∧ Same H H' ∧ At K S H' x d
section
variable {K : PySem.W.Frag} {S : Fp} {H1 : Hp}
theorem walk_list {a : Addr} {vs : List V} {ds : List D} (h : LAt K S H1 a vs) (q : Ats K S H1 vs ds) : Walk K S (Itl K a) ds H1 := fun H k => by
  have h' := (h.kp k).sq
  have q' := q.kp k
  have l := q.len
  refine ⟨fun i hi => ⟨vs, vs[i]'(by omega), h', List.getElem?_eq_getElem _⟩, ⟨vs, h', by omega⟩, fun i x H' hi y => ?_⟩
  obtain ⟨e, y⟩ := y
  subst e
  obtain ⟨d, hd, a⟩ := q'.get' (y vs h')
  exact ⟨d, hd, Same.refl _, a⟩
theorem walk_tup {a : Addr} {vs : List V} {ds : List D} (h : H1 a = some (.tup vs)) (q : Ats K S H1 vs ds) : Walk K S (Itt K a) ds H1 := fun H k => by
  have h' : SqT K H a vs := .of (k.2 _ _ h)
  have q' := q.kp k
  have l := q.len
  refine ⟨fun i hi => ⟨vs, vs[i]'(by omega), h', List.getElem?_eq_getElem _⟩, ⟨vs, h', by omega⟩, fun i x H' hi y => ?_⟩
  obtain ⟨e, y⟩ := y
  subst e
  obtain ⟨d, hd, a⟩ := q'.get' (y vs h')
  exact ⟨d, hd, Same.refl _, a⟩
def rngD (lo : Int) (n : Nat) : List D := (List.range n).map fun (i : Nat) => .int (lo + (i : Int))
theorem walk_rng {lo : Int} {n : Nat} : Walk K S (Itr lo n) (rngD lo n) H1 := fun H k => by
  have l : (rngD lo n).length = n := by simp [rngD]
  refine ⟨fun i hi => ?_, ?_, fun i x H' hi y => ?_⟩
  · show i < n
    omega
  · show n ≤ (rngD lo n).length
    omega
  · obtain ⟨e, rfl⟩ := y
    subst e
    rw [l] at hi
    exact ⟨.int (lo + i), by simp [rngD, hi], Same.refl _, .int _⟩
end

/-- the locked dicts that stand still stand -/
def FrzK (H1 H : Hp) : Prop := ∀ a od kvs, H1 a = some (.frz od (.dT kvs)) → H a = some (.frz od (.dT kvs))
def WalkF (K : PySem.W.Frag) (S : Fp) (J : It) (ds : List D) (H1 : Hp) : Prop := ∀ H, Kp S H1 H → FrzK H1 H →
  (∀ i, i < ds.length → J.go i H) ∧ J.stop ds.length H ∧ ∀ i x H', i < ds.length → J.yld i H x H' → ∃ d, ds[i]? = some d ∧ Same H H' ∧ At K S H' x d
theorem Walk.f {K : PySem.W.Frag} {S : Fp} {J : It} {ds : List D} {H1 : Hp} (w : Walk K S J ds H1) : WalkF K S J ds H1 := fun H k _ => w H k
def tMI (K : PySem.W.Frag) (F : Frm) (f : E (List D)) : TI := fun σ H R => ∃ env ρ ds ρ', Rel K F σ H env ρ ∧ f env ρ = some (ds, ρ') ∧
  ∀ J H', Eff F H H' → RowIs K F H' ρ' → WalkF K (fun a => F.SR a ∧ ∃ o, H' a = some o) J ds H' → R J H'
structure PMI (X : Cx) (tg iter : Expr) (f : E (List D)) : Prop where
  pi : ∀ F : Frm, PI X tg iter (tMI X.K F f)
def mSeq (a : E D) : E (List D) := fun env ρ => (a env ρ).bind fun x => match x.1 with
  | .lst ds => some (ds, x.2)
  | .tup ds => some (ds, x.2)
  | _ => none
section
variable {X : Cx} {tg : Expr}
theorem it_list {pins : List (Addr × Obj)} {σ : L2.St} {H : Hp} {s : Shared} {R : It → Hp → Prop} {E : Value → Shared → Prop} {a : Addr} {xs : List V} (I : Inv X pins σ H s) (hq : SqL X.K H a xs) (q : R (Itl X.K a) H) :
    wpAny (model X.prog X.w) X.A (pyIter (.ref a)) (PIE X pins σ tg R) E s := by
  obtain ⟨its, rv, p, hz⟩ := I.list hq
  refine wpAny_pyIter_list p.isList ?_
  refine ⟨s.heap.objs.size, [s.heap.objs.size], _, _, H, rfl, I.kept (t' := s.toks) fun b o e => Heap.get?_push_of_some _ e, turn_list a _, ⟨_, Heap.get?_push_size _ rfl, rfl, rfl⟩, fun b hb => ?_, q⟩
  have e : b = s.heap.objs.size := by simpa using hb
  subst e
  exact I.fpOk (Nat.le_refl _) (I.hok.fresh (Nat.le_refl _))
theorem it_tup {pins : List (Addr × Obj)} {σ : L2.St} {H : Hp} {s : Shared} {R : It → Hp → Prop} {E : Value → Shared → Prop} {a : Addr} {xs : List V} (I : Inv X pins σ H s) (hq : SqT X.K H a xs) (q : R (Itt X.K a) H) :
    wpAny (model X.prog X.w) X.A (pyIter (.ref a)) (PIE X pins σ tg R) E s := by
  obtain ⟨its, rv, p, hz⟩ := I.tuple hq
  refine wpAny_pyIter_tuple (show s.heap.IsTuple a its.toArray from p) ?_
  refine ⟨s.heap.objs.size, [s.heap.objs.size], _, _, H, rfl, I.kept (t' := s.toks) fun b o e => Heap.get?_push_of_some _ e, turn_tuple a _, ⟨_, Heap.get?_push_size _ rfl, rfl, rfl⟩, fun b hb => ?_, q⟩
  have e : b = s.heap.objs.size := by simpa using hb
  subst e
  exact I.fpOk (Nat.le_refl _) (I.hok.fresh (Nat.le_refl _))
theorem mi_seq {e : Expr} {f : E D} (h : PM X e f) : PMI X tg e (mSeq f) := ⟨fun F => ⟨fun pins s σ H R I ⟨env, ρ, ds, ρ', r, hf, k⟩ => by
  unfold mSeq at hf
  obtain ⟨⟨da, ρ1⟩, ha, hf⟩ := Option.bind_eq_some_iff.mp hf
  refine thn ((h.pe F).run pins s σ H (fun v H1 => Eff F H H1 ∧ RowIs X.K F H1 ρ1 ∧ At X.K F.SR H1 v da) I ⟨env, ρ, da, ρ1, r, ha, fun v H1 e1 w1 a1 => ⟨e1, w1, a1⟩⟩) fun v s1 ⟨x, H1, I1, r1, e1, w1, a1⟩ => ?_
  have a2 := a1.trk
  cases a2 with
  | lst h q =>
    cases r1; cases hf
    exact it_list I1 h.sq (k _ H1 e1 w1 (walk_list h q).f)
  | tup h q =>
    cases r1; cases hf
    exact it_tup I1 (.of h) (k _ H1 e1 w1 (walk_tup h q).f)
  | _ => cases hf⟩⟩
/-- a fresh list -/
theorem mi_f {e : Expr} {f : E (List D)} (h : PMF X e f) : PMI X tg e f := ⟨fun F => ⟨fun pins s σ H R I ⟨env, ρ, ds, ρ', r, hf, k⟩ => by
  refine thn ((h.pe F).run pins s σ H (fun v H1 => ∃ p vs, v = .ref p ∧ Eff F H H1 ∧ RowIs X.K F H1 ρ' ∧ H1 p = some (.lst vs) ∧ F.SR p ∧ Ats X.K F.SR H1 vs ds) I ⟨env, ρ, ds, ρ', r, hf, fun p vs H1 e1 w1 h0 h1 hr a1 => ⟨p, vs, rfl, e1, w1, h1, hr, a1⟩⟩) fun v s1 ⟨x, H1, I1, r1, p, vs, ev, e1, w1, h1, hr, a1⟩ => ?_
  subst ev
  cases r1
  exact it_list I1 (.of h1) (k _ H1 e1 w1 (walk_list (.inl ⟨.inl h1, hr, _, h1⟩) a1.trk).f)⟩⟩
def mRng1 (a : E (List D)) : E (List D) := fun env ρ => (a env ρ).bind fun x => match x.1 with
  | [.int j] => if -1000000 ≤ j ∧ j ≤ 1000000 then some (rngD 0 j.toNat, x.2) else none
  | _ => none
def mRng2 (a : E (List D)) : E (List D) := fun env ρ => (a env ρ).bind fun x => match x.1 with
  | [.int i, .int j] => if -1000000 ≤ i ∧ i ≤ 1000000 ∧ -1000000 ≤ j ∧ j ≤ 1000000 then some (rngD i (j - i).toNat, x.2) else none
  | _ => none
theorem small62 {j : Int} (h : j ≤ 1000000) (h0 : -(2 ^ 62) ≤ j) : -(2 ^ 62) ≤ j ∧ j < 2 ^ 62 := ⟨h0, by omega⟩
theorem mi_rng1 {a : Expr} {fa : E (List D)} {p pos : Pos} (hg : Gl X "range") (hm : X.mg "range" = none) (ha : PMA X [a] fa) (hs : starEach [a] X.env = [(false, eval a X.env)] := by rfl) : PMI X tg (.Call (.Name "range" p) [a] [] pos) (mRng1 fa) :=
  ⟨fun F => ⟨fun pins s σ H R I ⟨env, ρ, ds, ρ', r, hf, k⟩ => by
    unfold mRng1 at hf
    obtain ⟨⟨da, ρ1⟩, hfa, hf⟩ := Option.bind_eq_some_iff.mp hf
    simp only at hf
    split at hf
    · rename_i j
      split at hf
      · rename_i hj
        cases hf
        refine Call_ (ld_blt I hg hm boot_range (PyProof.Rows.callWith_type1 (thn ((ha.pa F).run pos pins s σ H (fun vs H1 => ∃ t, vs = [.int j] ∧ t = H1 ∧ Eff F H H1 ∧ RowIs X.K F H1 ρ') I ⟨env, ρ, _, _, r, hfa, fun vs H1 e1 w1 a1 => ?_⟩) fun us s1 ⟨vs, H1, I1, r1, t, ev, et, e1, w1⟩ => ?_) hs rfl))
        · cases a1 with
          | cons a b => cases b; cases a; exact ⟨H1, rfl, rfl, e1, w1⟩
        · subst ev
          cases r1 with
          | cons r rr =>
            cases rr
            obtain ⟨t, rfl⟩ := r
            exact call_range_1 (range_it I1 (by omega) (by omega) (by omega) (by omega) (by
              have e : (j - 0).toNat = j.toNat := by omega
              rw [e]
              exact k _ H1 e1 w1 walk_rng.f))
      · cases hf
    · cases hf⟩⟩
theorem mi_rng2 {a b : Expr} {fa : E (List D)} {p pos : Pos} (hg : Gl X "range") (hm : X.mg "range" = none) (ha : PMA X [a, b] fa) (hs : starEach [a, b] X.env = [(false, eval a X.env), (false, eval b X.env)] := by rfl) (hs2 : starEach [b] X.env = [(false, eval b X.env)] := by rfl) :
    PMI X tg (.Call (.Name "range" p) [a, b] [] pos) (mRng2 fa) :=
  ⟨fun F => ⟨fun pins s σ H R I ⟨env, ρ, ds, ρ', r, hf, k⟩ => by
    unfold mRng2 at hf
    obtain ⟨⟨da, ρ1⟩, hfa, hf⟩ := Option.bind_eq_some_iff.mp hf
    simp only at hf
    split at hf
    · rename_i i j
      split at hf
      · rename_i hj
        cases hf
        refine Call_ (ld_blt I hg hm boot_range (PyProof.Rows.callWith_type1 (thn ((ha.pa F).run pos pins s σ H (fun vs H1 => vs = [.int i, .int j] ∧ Eff F H H1 ∧ RowIs X.K F H1 ρ') I ⟨env, ρ, _, _, r, hfa, fun vs H1 e1 w1 a1 => ?_⟩) fun us s1 ⟨vs, H1, I1, r1, ev, e1, w1⟩ => ?_) (by rw [hs, hs2]) (by rw [hs2]; rfl)))
        · cases a1 with
          | cons a b =>
            cases a
            cases b with
            | cons c d => cases c; cases d; exact ⟨rfl, e1, w1⟩
        · subst ev
          cases r1 with
          | cons r rr =>
            cases rr with
            | cons r' rr =>
              cases rr
              obtain ⟨t, rfl⟩ := r
              obtain ⟨t', rfl⟩ := r'
              exact call_range_2 (range_it I1 (by omega) (by omega) (by omega) (by omega) (k _ H1 e1 w1 walk_rng.f))
      · cases hf
    · cases hf⟩⟩
end

/-! ## targets -/
def mk (d : D) : SV := if d.imm then .dat d else .wk d
theorem slot_mk {K : PySem.W.Frag} {F : Frm} {H : Hp} {v : V} {d : D} (a : At K F.SR H v d) : SlotOk K F H (some v) (mk d) := by
  unfold mk
  split
  · rename_i h
    exact ⟨v, rfl, a.imm h⟩
  · exact ⟨v, rfl, a⟩
theorem own_mk {d : D} : (mk d).own = false := by unfold mk; split <;> rfl
theorem owned_own {s : SV} (h : s.owned = true) : s.own = true := by cases s <;> first | rfl | cases h
section
variable {K : PySem.W.Frag} {F : Frm} {σ : L2.St} {H H' : Hp} {env : List SV} {ρ : List D}
/-- a slot stored: data -/
theorem Rel.set (r : Rel K F σ H env ρ) (i : Nat) {x : Option V} {s : SV} (h : SlotOk K F H x s) (hs : s.own = false) : Rel K F (σ.set i x) H (env.set i s) ρ := by
  refine ⟨r.base, r.pr, r.row, by simp [r.len], fun j y t h1 h2 => ?_, fun j l t u a hne h1 o1 h2 o2 h3 h4 => ?_⟩
  · by_cases e : i = j
    · subst e
      by_cases hi : i < σ.length
      · rw [List.getElem?_set_self hi] at h1
        rw [List.getElem?_set_self (by rw [r.len]; exact hi)] at h2
        cases h1; cases h2
        exact h
      · rw [List.getElem?_eq_none (by simpa using hi)] at h1; cases h1
    · rw [List.getElem?_set_ne e] at h1 h2
      exact r.slot j y t h1 h2
  · have ne : ∀ j t, (env.set i s)[j]? = some t → t.own = true → i ≠ j := fun j t h o e => by
      subst e
      by_cases hi : i < env.length
      · rw [List.getElem?_set_self hi] at h
        cases h
        rw [hs] at o; cases o
      · rw [List.getElem?_eq_none (by simpa using hi)] at h; cases h
    have e1 := ne j t h1 (owned_own o1)
    have e2 := ne l u h2 o2
    rw [List.getElem?_set_ne e1] at h1 h3
    rw [List.getElem?_set_ne e2] at h2 h4
    exact r.dis j l t u a hne h1 o1 h2 o2 h3 h4
/-- .. a new object of the frame's own -/
theorem Rel.setNew (r : Rel K F σ H env ρ) (i : Nat) {p : Addr} {s : SV} (h : SlotOk K F H (some (.ref p)) s) (hn : ∀ (j : Nat) (t : SV), i ≠ j → env[j]? = some t → t.own = true → s.owned = true ∨ t.owned = true → σ[j]? = some (some (.ref p)) → False) : Rel K F (σ.set i (some (.ref p))) H (env.set i s) ρ := by
  refine ⟨r.base, r.pr, r.row, by simp [r.len], fun j y t h1 h2 => ?_, fun j l t u a hne h1 o1 h2 o2 h3 h4 => ?_⟩
  · by_cases e : i = j
    · subst e
      by_cases hi : i < σ.length
      · rw [List.getElem?_set_self hi] at h1
        rw [List.getElem?_set_self (by rw [r.len]; exact hi)] at h2
        cases h1; cases h2
        exact h
      · rw [List.getElem?_eq_none (by simpa using hi)] at h1; cases h1
    · rw [List.getElem?_set_ne e] at h1 h2
      exact r.slot j y t h1 h2
  · by_cases e1 : i = j
    · subst e1
      rw [List.getElem?_set_ne hne] at h2 h4
      by_cases hi : i < σ.length
      · rw [List.getElem?_set_self hi] at h3
        cases h3
        rw [List.getElem?_set_self (by rw [r.len]; exact hi)] at h1
        cases h1
        exact hn l u hne h2 o2 (.inl o1) h4
      · rw [List.getElem?_eq_none (by simpa using hi)] at h3; cases h3
    · rw [List.getElem?_set_ne e1] at h1 h3
      by_cases e2 : i = l
      · subst e2
        by_cases hi : i < σ.length
        · rw [List.getElem?_set_self hi] at h4
          cases h4
          exact hn j t e1 h1 (owned_own o1) (.inr o1) h3
        · rw [List.getElem?_eq_none (by simpa using hi)] at h4; cases h4
      · rw [List.getElem?_set_ne e2] at h2 h4
        exact r.dis j l t u a hne h1 o1 h2 o2 h3 h4
/-- an own slot's object is tracked -/
theorem SlotOk.own_there {x : Option V} {s : SV} (h : SlotOk K F H x s) (o : s.own = true) {p : Addr} (e : x = some (.ref p)) : ∃ o, H p = some o ∧ ∀ xs, o ≠ .tup xs := by
  cases s with
  | lst ds => obtain ⟨p', vs, e', h1, _⟩ := h; rw [e] at e'; cases e'; exact ⟨_, h1, by intro _ z; cases z⟩
  | dic ds => obtain ⟨p', vs, e', h1, _⟩ := h; rw [e] at e'; cases e'; exact ⟨_, h1, by intro _ z; cases z⟩
  | fz ds => obtain ⟨p', vs, e', h1, _⟩ := h; rw [e] at e'; cases e'; exact ⟨_, h1, by intro _ z; cases z⟩
  | fzd ds => obtain ⟨p', vs, e', h1, _⟩ := h; rw [e] at e'; cases e'; exact ⟨_, h1, by intro _ z; cases z⟩
  | _ => cases o
theorem Rel.own_new (r : Rel K F σ H env ρ) {p : Addr} (hp : H p = none) : ∀ (j : Nat) (t : SV), env[j]? = some t → t.own = true → σ[j]? = some (some (.ref p)) → False := fun j t h o h2 => by
  obtain ⟨ob, h3, _⟩ := (r.slot j _ t h2 h).own_there o rfl
  rw [hp] at h3; cases h3
end

def tMG (K : PySem.W.Frag) (F : Frm) (g : D → List SV → Option (List SV)) (ts : List Nat) : TG := fun v σ H Q => ∃ env ρ d env', Rel K F σ H env ρ ∧ At K F.SR H v d ∧ g d env = some env' ∧
  ∀ σ', Rel K F σ' H env' ρ → (∀ vs, (∀ i ∈ ts, i ∈ vs) → wipe σ' vs = wipe σ vs) → Q σ' H
structure PMG (X : Cx) (tg : Expr) (g : D → List SV → Option (List SV)) (ts : List Nat) : Prop where
  pg : ∀ F : Frm, PG X tg (tMG X.K F g ts)
def gN (i : Nat) : D → List SV → Option (List SV) := fun d env => some (env.set i (mk d))
theorem wipe_set {σ : L2.St} {x : Option V} : ∀ {vs : List Nat} {i : Nat}, i ∈ vs → wipe (σ.set i x) vs = wipe σ vs
  | [], i, h => by cases h
  | v :: vs, i, h => by
    unfold wipe
    by_cases e : i ∈ vs
    · rw [wipe_set e]
    · have hv : i = v := by
        rcases List.mem_cons.mp h with h | h
        · exact h
        · exact absurd h e
      subst hv
      have : ∀ (vs : List Nat) (σ : L2.St), i ∉ vs → wipe (σ.set i x) vs = (wipe σ vs).set i x := by
        intro vs
        induction vs with
        | nil => intro σ _; rfl
        | cons w ws ih =>
          intro σ hn
          unfold wipe
          rw [ih σ (fun z => hn (List.mem_cons_of_mem _ z)), List.set_comm _ _ (by intro z; exact hn (by simp [z]))]
      rw [this vs σ e, List.set_set]
theorem wipe_wipe (σ : L2.St) : ∀ vs : List Nat, wipe (wipe σ vs) vs = wipe σ vs := by
  intro vs
  have gen : ∀ (ws vs : List Nat), (∀ w ∈ ws, w ∈ vs) → wipe (wipe σ ws) vs = wipe σ vs := by
    intro ws
    induction ws with
    | nil => intro vs _; rfl
    | cons w ws ih =>
      intro vs h
      show wipe ((wipe σ ws).set w none) vs = _
      rw [wipe_set (h w (by simp)), ih vs fun x hx => h x (List.mem_cons_of_mem _ hx)]
  exact gen vs vs fun _ h => h
theorem PG.imp {X : Cx} {e : Expr} {t t' : TG} (h : PG X e t) (i : ∀ v σ H Q, t' v σ H Q → t v σ H Q) : PG X e t' := ⟨fun pins s σ H v u Q I r q => h.run pins s σ H v u Q I r (i _ _ _ _ q)⟩
section
variable {X : Cx}
theorem mg_name {i : Nat} {x : Str} {pos : Pos} (hN : X.N.Nodup) (hi : X.N[i]? = some x) (hx : Loc X.env.scope x) (hf : X.fn x = true ∨ X.env.scope.names.lookup x = some .local := by first | exact .inl rfl | exact .inr rfl | assumption) : PMG X (.Name x pos) (gN i) [i] :=
  ⟨fun F => PG.imp (pg_name hN hi hx hf) fun v σ H Q ⟨env, ρ, d, env', r, a, hg, k⟩ => by
    cases hg
    exact k _ (r.set i (slot_mk a) own_mk) fun vs h => wipe_set (h i (by simp))⟩
end

/-! ## list comprehensions -/
def wipeE (env : List SV) : List Nat → List SV
  | [] => env
  | v :: vs => (wipeE env vs).set v .un
def lcGo (env : List SV) (g : D → List SV → Option (List SV)) (tt : E Bool) (el : E D) : List D → List D → Option (List D × List D)
  | [], ρ => some ([], ρ)
  | d :: ds, ρ => (g d env).bind fun env' => (tt env' ρ).bind fun t => if t.1 = true then (el env' t.2).bind fun y => (lcGo env g tt el ds y.2).map fun r => (y.1 :: r.1, r.2) else lcGo env g tt el ds t.2
def mLc (it : E (List D)) (own : List Nat) (g : D → List SV → Option (List SV)) (tt : E Bool) (el : E D) : E (List D) := fun env ρ => (it env ρ).bind fun x => if x.1.length ≤ 1000000 then lcGo (wipeE env own) g tt el x.1 x.2 else none
structure PMTs (X : Cx) (ifs : List Expr) (f : E Bool) : Prop where
  pt : ∀ F : Frm, PTs X ifs (tMT X.K F f)
def mYes : E Bool := fun _ ρ => some (true, ρ)
theorem PTs.imp {X : Cx} {e : List Expr} {t t' : TT} (h : PTs X e t) (i : ∀ σ H Q, t' σ H Q → t σ H Q) : PTs X e t' := ⟨fun pins s σ H Q I q => h.run pins s σ H Q I (i _ _ _ q)⟩
theorem mts_nil {X : Cx} : PMTs X [] mYes := ⟨fun F => PTs.imp pts_nil fun σ H Q ⟨env, ρ, d, ρ', r, hf, k⟩ => by
  cases hf
  exact k H Eff.refl r.row⟩
theorem mts_one {X : Cx} {c : Expr} {f : E Bool} (h : PMT X c f) : PMTs X [c] f := ⟨fun F => pts_one (h.pt F)⟩
def Frm.mkg (F : Frm) (D : Addr) : Frm := { F with Ex := D :: F.Ex }
section
variable {K : PySem.W.Frag} {F : Frm} {σ : L2.St} {H H' : Hp} {env : List SV} {ρ : List D}
theorem Rel.wipe (r : Rel K F σ H env ρ) : ∀ vs : List Nat, Rel K F (wipe σ vs) H (wipeE env vs) ρ
  | [] => r
  | v :: vs => (r.wipe vs).set v trivial rfl
theorem mkg_sr {D a : Addr} (h : F.SR a) (ne : a ≠ D) : (F.mkg D).SR a := ⟨h.1, fun z => by
  rcases List.mem_cons.mp z with z | z
  · exact ne z
  · exact h.2 z⟩
theorem sr_mkg {D a : Addr} (h : (F.mkg D).SR a) : F.SR a := ⟨h.1, fun z => h.2 (List.mem_cons_of_mem _ z)⟩
/-- a list begun by a comprehension -/
theorem Rel.begin (r : Rel K F σ H env ρ) {D : Addr} {xo : HO} (hD : H D = none) : Rel K (F.mkg D) σ (upd H D xo) env ρ := by
  have nr := r.row.new hD
  have sm := same_new (o := xo) hD
  have tr : ∀ a, (F.SR a ∧ ∃ o, H a = some o) → (F.mkg D).SR a := fun a h => mkg_sr h.1 (by rintro rfl; obtain ⟨o, e⟩ := h.2; rw [hD] at e; cases e)
  have tr0 : ∀ a, (F.S0 a ∧ ∃ o, H a = some o) → (F.mkg D).S0 a := fun a h => ⟨h.1.1, tr a ⟨h.1.2, h.2⟩⟩
  have h0 : F.H0 D = none := by
    cases q : F.H0 D with
    | none => rfl
    | some o => have := r.base D o q nr.1; rw [hD] at this; cases this
  refine ⟨fun a o h n => sm _ _ (r.base a o h n), fun a o h => ⟨sm _ _ (r.pr a o h).1, (r.pr a o h).2⟩, ⟨fun a h => ?_, fun a h => ?_, fun a h => ?_⟩, r.len, fun i x s h1 h2 => ?_, r.dis⟩
  · obtain ⟨vs, h1, h2⟩ := r.row.1 a h
    exact ⟨vs, sm _ _ h1, h2.kp (Kp.of_same sm)⟩
  · rcases List.mem_cons.mp h with h | h
    · subst h
      exact ⟨nr.1, _, upd_same⟩
    · obtain ⟨n, o, e⟩ := r.row.2.1 a h
      exact ⟨n, o, sm _ _ e⟩
  · have g := r.row.2.2 a h
    exact ⟨g.1, mkg_sr g.2 (by rintro rfl; obtain ⟨⟨o, e⟩, _⟩ := g; rw [h0] at e; cases e)⟩
  · have sl := r.slot i x s h1 h2
    have ne : ∀ p o, H p = some o → p ≠ D := fun p o h e => by subst e; rw [hD] at h; cases h
    cases s with
    | un => trivial
    | dat d => obtain ⟨v, e, a⟩ := sl; exact ⟨v, e, (a.trk.sub tr0).kp (Kp.of_same sm)⟩
    | wk d => obtain ⟨v, e, a⟩ := sl; exact ⟨v, e, (a.trk.sub tr).kp (Kp.of_same sm)⟩
    | lst ds => obtain ⟨p, vs, e, h1, h2, h3, a, z⟩ := sl; exact ⟨p, vs, e, sm _ _ h1, h2, mkg_sr h3 (ne _ _ h1), (a.trk.sub tr0).kp (Kp.of_same sm), z⟩
    | dic ds => obtain ⟨p, vs, e, h1, h2, h3, a, z⟩ := sl; exact ⟨p, vs, e, sm _ _ h1, h2, mkg_sr h3 (ne _ _ h1), (a.trk.sub tr0).kp (Kp.of_same sm), z⟩
    | fz ds => obtain ⟨p, vs, e, h1, h2, h3, a⟩ := sl; exact ⟨p, vs, e, sm _ _ h1, h2, mkg_sr h3 (ne _ _ h1), (a.trk.sub tr0).kp (Kp.of_same sm)⟩
    | fzd ds => obtain ⟨p, vs, e, h1, h2, h3, a⟩ := sl; exact ⟨p, vs, e, sm _ _ h1, h2, mkg_sr h3 (ne _ _ h1), (a.trk.sub tr0).kp (Kp.of_same sm)⟩
    | row => exact sl
/-- .. and grown -/
theorem Rel.grown {L : Addr} {xs : HO} (r : Rel K (F.mkg L) σ H env ρ) (h0 : F.H0 L = none) (hp : F.Pr L = none) (hn : F.R ≠ some L) (hl : ∃ o, H L = some o ∧ ∀ xs, o ≠ .tup xs) : Rel K (F.mkg L) σ (upd H L xs) env ρ := by
  have ne : ∀ a, (F.mkg L).SR a → a ≠ L := fun a h e => h.2 (by rw [e]; exact List.mem_cons_self)
  have k : Kp (F.mkg L).SR H (upd H L xs) := by
    refine ⟨fun a o h s => by rw [upd_ne (ne a s)]; exact h, fun a ys h => ?_⟩
    by_cases e : a = L
    · subst e
      obtain ⟨zs, hl, hz⟩ := hl
      rw [hl] at h
      exact absurd (Option.some.inj h) (hz ys)
    · rw [upd_ne e]; exact h
  refine ⟨fun a o h n => ?_, fun a o h => ?_, ⟨fun a h => ?_, fun a h => ?_, r.row.2.2⟩, r.len, fun i x s h1 h2 => (r.slot i x s h1 h2).kp k, r.dis⟩
  · rw [upd_ne (by rintro rfl; exact absurd (show F.H0 a = some o from h) (by rw [h0]; simp))]
    exact r.base a o h n
  · rw [upd_ne (by rintro rfl; exact absurd (show F.Pr a = some o from h) (by rw [hp]; simp))]
    exact r.pr a o h
  · obtain ⟨vs, h1, h2⟩ := r.row.1 a h
    exact ⟨vs, by rw [upd_ne (by rintro rfl; exact hn h)]; exact h1, h2.kp (k.sub fun a g => (r.row.2.2 a g).2)⟩
  · obtain ⟨n, o, e⟩ := r.row.2.1 a h
    by_cases z : a = L
    · subst z; exact ⟨n, _, upd_same⟩
    · exact ⟨n, o, by rw [upd_ne z]; exact e⟩
end
section
variable {X : Cx}
/-- the reading of a comprehension by its mirror -/
theorem lc_read {K : PySem.W.Frag} {F : Frm} {it : E (List D)} {g : D → List SV → Option (List SV)} {ts own : List Nat} {tt : E Bool} {el : E D} (hts : ∀ i ∈ ts, i ∈ own) {σ : L2.St} {H : Hp} {Q : VK}
    (h : tMF K F (mLc it own g tt el) σ H Q) :
    tLc (tMI K F it) (fun v σ H Q => ∃ F', tMG K F' g ts v σ H Q) (fun σ H Q => ∃ F', tMT K F' tt σ H Q) (fun σ H Q => ∃ F', tM K F' el σ H Q) own σ H Q := by
  obtain ⟨env, ρ, out, ρ', r, hf, k⟩ := h
  unfold mLc at hf
  obtain ⟨⟨ds, ρ1⟩, hit, hf⟩ := Option.bind_eq_some_iff.mp hf
  simp only at hf
  split at hf
  case isFalse => cases hf
  rename_i hlen
  refine ⟨env, ρ, ds, ρ1, r, hit, fun J H1 e1 w1 wk L hL => ?_⟩
  have nr := w1.new hL
  have r1 : Rel K F σ H1 env ρ1 := r.eff e1 w1
  have h0 : F.H0 L = none := by
    cases q : F.H0 L with
    | none => rfl
    | some o => have := r1.base L o q nr.1; rw [hL] at this; cases this
  have hp : F.Pr L = none := by
    cases q : F.Pr L with
    | none => rfl
    | some o => have := (r1.pr L o q).1; rw [hL] at this; cases this
  have rb : Rel K (F.mkg L) (wipe σ own) (upd H1 L (.lst [])) (wipeE env own) ρ1 := (r1.wipe own).begin hL
  refine ⟨fun i m H => m = ds.length - i ∧ i ≤ ds.length ∧ ∃ ρi acc vs rest, H L = some (.lst vs) ∧ Ats K (F.mkg L).SR H vs acc ∧ acc.length ≤ i ∧ (∀ a o, H1 a = some o → F.R ≠ some a → H a = some o) ∧
    Rel K (F.mkg L) (wipe σ own) H (wipeE env own) ρi ∧ lcGo (wipeE env own) g tt el (ds.drop i) ρi = some (rest, ρ') ∧ acc ++ rest = out,
    ⟨ds.length, by simp, Nat.zero_le _, ρ1, [], [], out, upd_same, .nil, Nat.zero_le _, fun a o h _ => by rw [upd_ne (ne_of_none h hL)]; exact h, rb, by simpa using hf, by simp⟩, ?_⟩
  rintro i m H2 ⟨rfl, hi, ρi, acc, vs, rest, hD, ha, hal, he, r2, hgo, hout⟩
  have kw : Kp (fun a => F.SR a ∧ ∃ o, H1 a = some o) H1 H2 := ⟨fun a o h s => he a o h s.1.1, fun a ys h => he a _ h (by
    intro z
    obtain ⟨us, hu, _⟩ := w1.1 a z
    rw [hu] at h; cases h)⟩
  have fz : FrzK H1 H2 := fun a od kvs h => he a _ h (by
    intro z
    obtain ⟨us, hu, _⟩ := w1.1 a z
    rw [hu] at h; cases h)
  obtain ⟨wgo, wst, wy⟩ := wk H2 kw fz
  by_cases hlt : i < ds.length
  case neg =>
    have ei : i = ds.length := by omega
    subst ei
    rw [List.drop_length] at hgo
    cases hgo
    rw [List.append_nil] at hout
    subst hout
    refine .inl ⟨wst, k L vs H2 (fun a o h n => he a o (e1 a o h n) n) ⟨r2.row.1, fun a h => r2.row.2.1 a (List.mem_cons_of_mem _ h), w1.2.2⟩ (eff_new e1 w1 hL) hD nr (ha.sub fun a s => sr_mkg s)⟩
  case pos =>
    refine .inr ⟨wgo i hlt, fun H' => ∃ m, m < ds.length - i ∧ (m = ds.length - (i + 1) ∧ i + 1 ≤ ds.length ∧ ∃ ρi acc vs rest, H' L = some (.lst vs) ∧ Ats K (F.mkg L).SR H' vs acc ∧ acc.length ≤ i + 1 ∧ (∀ a o, H1 a = some o → F.R ≠ some a → H' a = some o) ∧
      Rel K (F.mkg L) (wipe σ own) H' (wipeE env own) ρi ∧ lcGo (wipeE env own) g tt el (ds.drop (i + 1)) ρi = some (rest, ρ') ∧ acc ++ rest = out), fun H' h => h, fun x H3 y => ?_⟩
    obtain ⟨d, hd, sm, ax⟩ := wy i x H3 hlt y
    have ed : ds.drop i = d :: ds.drop (i + 1) := by
      obtain ⟨h1, h2⟩ := List.getElem?_eq_some_iff.mp hd
      rw [List.drop_eq_getElem_cons h1, h2]
    rw [ed] at hgo
    unfold lcGo at hgo
    obtain ⟨env', hg, hgo⟩ := Option.bind_eq_some_iff.mp hgo
    obtain ⟨⟨b, ρ2⟩, ht, hgo⟩ := Option.bind_eq_some_iff.mp hgo
    have r3 : Rel K (F.mkg L) (wipe σ own) H3 (wipeE env own) ρi := r2.eff (Eff.of_same sm) (r2.row.same sm)
    have hD3 : H3 L = some (.lst vs) := sm _ _ hD
    have ax' : At K (F.mkg L).SR H3 x d := ax.sub fun a h => mkg_sr h.1 (by rintro rfl; obtain ⟨o, e⟩ := h.2; rw [hL] at e; cases e)
    refine ⟨F.mkg L, wipeE env own, ρi, d, env', r3, ax', hg, fun σ' r4 hw => ?_⟩
    refine ⟨by rw [hw own hts]; exact wipe_wipe σ own, ?_⟩
    refine ⟨F.mkg L, env', ρi, b, ρ2, r4, ht, fun H4 e4 w4 => ?_⟩
    have hD4 : H4 L = some (.lst vs) := e4 L _ hD3 nr.1
    have sub4 : ∀ a o, H1 a = some o → F.R ≠ some a → H4 a = some o := fun a o h n => e4 a o (sm _ _ (he a o h n)) n
    have ha4 : Ats K (F.mkg L).SR H4 vs acc := (ha.kp (Kp.of_same sm)).kp (r3.row.kp e4)
    have r4' : Rel K (F.mkg L) (wipe σ own) H4 (wipeE env own) ρ2 := r3.eff e4 w4
    cases b with
    | false =>
      rw [if_neg (by simp)] at hgo
      show (if false = true then _ else _)
      rw [if_neg (by simp)]
      exact ⟨_, by omega, rfl, by omega, ρ2, acc, vs, rest, hD4, ha4, by omega, sub4, r4', hgo, hout⟩
    | true =>
      rw [if_pos rfl] at hgo
      show (if true = true then _ else _)
      rw [if_pos rfl]
      obtain ⟨⟨yd, ρ3⟩, hy, hgo⟩ := Option.bind_eq_some_iff.mp hgo
      obtain ⟨⟨rest', ρ4⟩, hrec, hgo⟩ := Option.map_eq_some_iff.mp hgo
      cases hgo
      refine ⟨F.mkg L, env', ρ2, yd, ρ3, r4.eff e4 w4, hy, fun yv H5 e5 w5 a5 => ?_⟩
      have hD5 : H5 L = some (.lst vs) := e5 L _ hD4 nr.1
      have ha5 : Ats K (F.mkg L).SR H5 vs acc := ha4.kp (w4.kp e5)
      have hl5 := ha5.len
      refine ⟨vs, hD5, by rw [hl5]; exact big' (by omega), ?_⟩
      have r5 : Rel K (F.mkg L) (wipe σ own) H5 (wipeE env own) ρ3 := r4'.eff e5 w5
      have r6 := r5.grown (xs := .lst (vs ++ [yv])) h0 hp nr.1 ⟨_, hD5, by intro _ z; cases z⟩
      have k6 : Kp (F.mkg L).SR H5 (upd H5 L (.lst (vs ++ [yv]))) := ⟨fun a o h s => by
        rw [upd_ne (by rintro rfl; exact s.2 List.mem_cons_self)]; exact h, fun a ys h => by
        rw [upd_ne (by rintro rfl; rw [hD5] at h; cases h)]; exact h⟩
      refine ⟨_, by omega, rfl, by omega, ρ3, acc ++ [yd], vs ++ [yv], rest', upd_same, ((ha5.app (.cons a5 .nil)).kp k6), by simp; omega, fun a o h n => ?_, r6, hrec, by rw [← hout]; simp⟩
      rw [upd_ne (by rintro rfl; rw [hL] at h; cases h)]
      exact e5 a o (sub4 a o h n) n
theorem PM.ex {e : Expr} {f : E D} (h : PM X e f) : PE X e (fun σ H Q => ∃ F', tM X.K F' f σ H Q) := ⟨fun pins s σ H Q I ⟨F, q⟩ => (h.pe F).run pins s σ H Q I q⟩
theorem PMTs.ex {e : List Expr} {f : E Bool} (h : PMTs X e f) : PTs X e (fun σ H Q => ∃ F', tMT X.K F' f σ H Q) := ⟨fun pins s σ H Q I ⟨F, q⟩ => (h.pt F).run pins s σ H Q I q⟩
theorem PMG.ex {e : Expr} {g : D → List SV → Option (List SV)} {ts : List Nat} (h : PMG X e g ts) : PG X e (fun v σ H Q => ∃ F', tMG X.K F' g ts v σ H Q) := ⟨fun pins s σ H v u Q I r ⟨F, q⟩ => (h.pg F).run pins s σ H v u Q I r q⟩
theorem mf_lc {elt tg iter : Expr} {ifs : List Expr} {scope : Scope} {own : List (Str × Nat)} {pos : Pos} {it : E (List D)} {g : D → List SV → Option (List SV)} {ts : List Nat} {tt : E Bool} {el : E D} (hc : X.calm = true) (hN : X.N.Nodup) (hi : PMI X tg iter it) (ok : BlkOk X.N X.env.scope scope own)
    (hg : ∀ (s : Shared) (H : Hp) (C : Addr) (cl : List (Str × Addr)) (fp : List Addr), PMG (X.blk s H scope (compEnvC scope cl C X.env) fp) tg g ts) (ht : ∀ (s : Shared) (H : Hp) (C : Addr) (cl : List (Str × Addr)) (fp : List Addr), PMTs (X.blk s H scope (compEnvC scope cl C X.env) fp) ifs tt)
    (he : ∀ (s : Shared) (H : Hp) (C : Addr) (cl : List (Str × Addr)) (fp : List Addr), PM (X.blk s H scope (compEnvC scope cl C X.env) fp) elt el) (hts : ∀ i ∈ ts, i ∈ own.map (·.2) := by decide) (hs : ∀ x, foldedSetIterable iter X.env x = pure x := by intro _; rfl) :
    PMF X (.ListComp elt [⟨tg, iter, ifs, 0⟩] scope pos) (mLc it (own.map (·.2)) g tt el) :=
  ⟨fun F => PE.imp (pe_lc hc hN (hi.pi F) ok (fun s H C cl fp => (hg s H C cl fp).ex) (fun s H C cl fp => (ht s H C cl fp).ex) (fun s H C cl fp => (he s H C cl fp).ex) hs) fun σ H Q h => lc_read hts h⟩
end
end VS
end

section
set_option Elab.async false
set_option linter.all false
set_option maxRecDepth 100000
set_option maxHeartbeats 1000000
namespace VS
open PySem PySem.Spec PyProof.Rows L2

/-! ## statements -/
def Tk (H H' : Hp) : Prop := ∀ a xs, H a = some (.tup xs) → H' a = some (.tup xs)
theorem Tk.refl {H : Hp} : Tk H H := fun _ _ h => h
theorem Tk.trans {H H' H'' : Hp} (a : Tk H H') (b : Tk H' H'') : Tk H H'' := fun x o h => b x o (a x o h)
inductive Out where
  | nx | bk | ct | rt (d : D)
abbrev C := List SV → List D → Option (Out × List SV × List D)
/-- a value handed back: a new list, a new dict, other data -/
def RetV (K : PySem.W.Frag) (S : Fp) (H : Hp) (v : V) : D → Prop
  | .lst ds => ∃ p vs, v = .ref p ∧ S p ∧ H p = some (.lst vs) ∧ Ats K S H vs ds
  | .dic es => ∃ p kvs, v = .ref p ∧ S p ∧ H p = some (.dT kvs) ∧ Ents K S H kvs es
  | d => At K S H v d
theorem RetV.at {K : PySem.W.Frag} {S : Fp} {H : Hp} {v : V} {d : D} (h : RetV K S H v d) : At K S H v d := by
  cases d with
  | lst ds => obtain ⟨p, vs, rfl, h1, h2, h3⟩ := h; exact .lst (.inl ⟨.inl h2, h1⟩) h3
  | dic es => obtain ⟨p, vs, rfl, h1, h2, h3⟩ := h; exact .dic h2 h1 h3
  | _ => exact h
theorem RetV.imm {K : PySem.W.Frag} {S : Fp} {H : Hp} {v : V} {d : D} (im : d.imm = true) (h : At K S H v d) : RetV K S H v d := by
  cases d with
  | lst ds => simp [D.imm] at im
  | dic es => simp [D.imm] at im
  | _ => exact h
/-- what a return leaves -/
structure Ret (K : PySem.W.Frag) (F : Frm) (H' : Hp) (ρ' : List D) (v : V) (d : D) : Prop where
  base : ∀ a o, F.H0 a = some o → F.R ≠ some a → H' a = some o
  row : RowIs K F H' ρ'
  val : RetV K (fun a => F.H0 a = none ∧ F.SR a) H' v d
def EndOk (K : PySem.W.Frag) (F : Frm) (D : Ends) (H : Hp) (env' : List SV) (ρ' : List VS.D) : Out → Prop
  | .nx => ∀ σ' H', Tk H H' → Rel K F σ' H' env' ρ' → D.nx σ' H'
  | .bk => ∀ σ' H', Tk H H' → Rel K F σ' H' env' ρ' → D.bk σ' H'
  | .ct => ∀ σ' H', Tk H H' → Rel K F σ' H' env' ρ' → D.ct σ' H'
  | .rt d => ∀ v H', Tk H H' → Ret K F H' ρ' v d → D.rt v H'
def tS (K : PySem.W.Frag) (F : Frm) (c : C) : TS := fun D σ H => ∃ env ρ o env' ρ', Rel K F σ H env ρ ∧ c env ρ = some (o, env', ρ') ∧ EndOk K F D H env' ρ' o
structure PMS (X : Cx) (st : Stmt) (c : C) : Prop where
  ps : ∀ F : Frm, PS X st (tS X.K F c)
structure PMSs (X : Cx) (st : List Stmt) (c : C) : Prop where
  ps : ∀ F : Frm, PSs X st (tS X.K F c)
theorem EndOk.tk {K : PySem.W.Frag} {F : Frm} {D : Ends} {H H1 : Hp} {env' : List SV} {ρ' : List VS.D} {o : Out} (h : EndOk K F D H env' ρ' o) (t : Tk H H1) : EndOk K F D H1 env' ρ' o := by
  cases o with
  | nx => exact fun σ' H' t' => h σ' H' (t.trans t')
  | bk => exact fun σ' H' t' => h σ' H' (t.trans t')
  | ct => exact fun σ' H' t' => h σ' H' (t.trans t')
  | rt d => exact fun v H' t' => h v H' (t.trans t')
theorem RowIs.tk {K : PySem.W.Frag} {F : Frm} {H H' : Hp} {ρ : List D} (r : RowIs K F H ρ) (e : Eff F H H') : Tk H H' := (r.kp e).2
theorem Tk.same {H H' : Hp} (e : Same H H') : Tk H H' := fun a xs h => e a _ h

def cNil : C := fun env ρ => some (.nx, env, ρ)
def cSeq (a b : C) : C := fun env ρ => (a env ρ).bind fun x => match x with
  | (.nx, env', ρ') => b env' ρ'
  | _ => some x
def cIf (c : E Bool) (a b : C) : C := fun env ρ => (c env ρ).bind fun x => if x.1 = true then a env x.2 else b env x.2
def cBrk : C := fun env ρ => some (.bk, env, ρ)
def cCont : C := fun env ρ => some (.ct, env, ρ)
section
variable {X : Cx}
theorem s_nil : PMSs X [] cNil := ⟨fun F => PSs.imp pss_nil fun D σ H ⟨env, ρ, o, env', ρ', r, hc, k⟩ => by
  cases hc
  exact k σ H Tk.refl r⟩
theorem s_pass {pos : Pos} : PMS X (.Pass pos) cNil := ⟨fun F => PS.imp ps_pass fun D σ H ⟨env, ρ, o, env', ρ', r, hc, k⟩ => by
  cases hc
  exact k σ H Tk.refl r⟩
theorem s_brk {pos : Pos} : PMS X (.Break pos) cBrk := ⟨fun F => PS.imp ps_break fun D σ H ⟨env, ρ, o, env', ρ', r, hc, k⟩ => by
  cases hc
  exact k σ H Tk.refl r⟩
theorem s_cont {pos : Pos} : PMS X (.Continue pos) cCont := ⟨fun F => PS.imp ps_continue fun D σ H ⟨env, ρ, o, env', ρ', r, hc, k⟩ => by
  cases hc
  exact k σ H Tk.refl r⟩
theorem s_one {st : Stmt} {a : C} (h : PMS X st a) : PMSs X [st] a := ⟨fun F => pss_one (h.ps F)⟩
theorem s_cons {st : Stmt} {rest : List Stmt} {a b : C} (h1 : PMS X st a) (h2 : PMSs X rest b) : PMSs X (st :: rest) (cSeq a b) := ⟨fun F => PSs.imp (pss_cons (h1.ps F) (h2.ps F)) fun D σ H ⟨env, ρ, o, env', ρ', r, hc, k⟩ => by
  unfold cSeq at hc
  obtain ⟨⟨o1, env1, ρ1⟩, ha, hc⟩ := Option.bind_eq_some_iff.mp hc
  cases o1 with
  | nx => exact ⟨env, ρ, .nx, env1, ρ1, r, ha, fun σ' H' t r' => ⟨env1, ρ1, o, env', ρ', r', hc, k.tk t⟩⟩
  | bk => cases hc; exact ⟨env, ρ, _, _, _, r, ha, k⟩
  | ct => cases hc; exact ⟨env, ρ, _, _, _, r, ha, k⟩
  | rt d => cases hc; exact ⟨env, ρ, _, _, _, r, ha, k⟩⟩
theorem s_if {c : Expr} {a b : List Stmt} {pos : Pos} {fc : E Bool} {ca cb : C} (hc : PMT X c fc) (ha : PMSs X a ca) (hb : PMSs X b cb) : PMS X (.If c a b pos) (cIf fc ca cb) :=
  ⟨fun F => PS.imp (ps_if (hc.pt F) (ha.ps F) (hb.ps F)) fun D σ H ⟨env, ρ, o, env', ρ', r, hc, k⟩ => by
    unfold cIf at hc
    obtain ⟨⟨t, ρ1⟩, ht, hc⟩ := Option.bind_eq_some_iff.mp hc
    refine ⟨env, ρ, t, ρ1, r, ht, fun H1 e1 w1 => ?_⟩
    cases t with
    | true =>
      rw [if_pos rfl] at hc ⊢
      exact ⟨env, ρ1, o, env', ρ', r.eff e1 w1, hc, k.tk (r.row.tk e1)⟩
    | false =>
      rw [if_neg (by simp)] at hc ⊢
      exact ⟨env, ρ1, o, env', ρ', r.eff e1 w1, hc, k.tk (r.row.tk e1)⟩⟩
end

/-! ### what an expression gives to a slot -/
mutual
theorem Ents.immT {K : PySem.W.Frag} {S T : Fp} {H : Hp} : ∀ {kvs : List (List Key × V)} {es : List D}, D.imms es = true → Ents K S H kvs es → Ents K T H kvs es
  | _, _, _, .nil => .nil
  | _, _, h, .cons a b => by
    simp only [D.imm.immAll, D.imm, Bool.and_eq_true] at h
    exact .cons (At.imm (by simpa using h.1.2) a) (Ents.immT h.2 b)
end
/-- a value ready for a slot: data without lists; a new list; a new dict -/
def SlotV (K : PySem.W.Frag) (F : Frm) (H H' : Hp) (v : V) : SV → Prop
  | .dat d => At K F.SR H' v d ∧ d.imm = true
  | .lst ds => ∃ p vs, v = .ref p ∧ H p = none ∧ H' p = some (.lst vs) ∧ F.SR p ∧ Ats K F.SR H' vs ds ∧ D.imms ds = true
  | .dic es => ∃ p kvs, v = .ref p ∧ H p = none ∧ H' p = some (.dT kvs) ∧ F.SR p ∧ Ents K F.SR H' kvs es ∧ D.imms es = true
  | .wk d => At K F.SR H' v d
  | _ => False
def tMR (K : PySem.W.Frag) (F : Frm) (f : E SV) : TE := fun σ H Q => ∃ env ρ d ρ', Rel K F σ H env ρ ∧ f env ρ = some (d, ρ') ∧ ∀ v H', Eff F H H' → RowIs K F H' ρ' → SlotV K F H H' v d → Q v H'
structure PMR (X : Cx) (e : Expr) (f : E SV) : Prop where
  pe : ∀ F : Frm, PE X e (tMR X.K F f)
def rDt (f : E D) : E SV := fun env ρ => (f env ρ).bind fun x => if x.1.imm = true then some (.dat x.1, x.2) else none
def rW (f : E D) : E SV := fun env ρ => (f env ρ).map fun x => (.wk x.1, x.2)
def rL (f : E (List D)) : E SV := fun env ρ => (f env ρ).bind fun x => if D.imms x.1 = true then some (.lst x.1, x.2) else none
/-- a new dict -/
def tMD (K : PySem.W.Frag) (F : Frm) (f : E (List D)) : TE := fun σ H Q => ∃ env ρ d ρ', Rel K F σ H env ρ ∧ f env ρ = some (d, ρ') ∧
  ∀ p kvs H', Eff F H H' → RowIs K F H' ρ' → H p = none → H' p = some (.dT kvs) → F.SR p → Ents K F.SR H' kvs d → Q (.ref p) H'
structure PMD (X : Cx) (e : Expr) (f : E (List D)) : Prop where
  pe : ∀ F : Frm, PE X e (tMD X.K F f)
def rDi (f : E (List D)) : E SV := fun env ρ => (f env ρ).bind fun x => if D.imms x.1 = true then some (.dic x.1, x.2) else none
section
variable {X : Cx}
theorem r_dat {e : Expr} {f : E D} (h : PM X e f) : PMR X e (rDt f) := ⟨fun F => PE.imp (h.pe F) fun σ H Q ⟨env, ρ, d, ρ', r, hf, k⟩ => by
  unfold rDt at hf
  obtain ⟨⟨x, ρ1⟩, ha, hf⟩ := Option.bind_eq_some_iff.mp hf
  split at hf
  · rename_i hi
    cases hf
    exact ⟨env, ρ, _, _, r, ha, fun v H' e w a => k v H' e w ⟨a, hi⟩⟩
  · cases hf⟩
theorem r_wk {e : Expr} {f : E D} (h : PM X e f) : PMR X e (rW f) := ⟨fun F => PE.imp (h.pe F) fun σ H Q ⟨env, ρ, d, ρ', r, hf, k⟩ => by
  unfold rW at hf
  obtain ⟨⟨x, ρ1⟩, ha, hf⟩ := Option.map_eq_some_iff.mp hf
  cases hf
  exact ⟨env, ρ, _, _, r, ha, fun v H' e w a => k v H' e w a⟩⟩
theorem r_lst {e : Expr} {f : E (List D)} (h : PMF X e f) : PMR X e (rL f) := ⟨fun F => PE.imp (h.pe F) fun σ H Q ⟨env, ρ, d, ρ', r, hf, k⟩ => by
  unfold rL at hf
  obtain ⟨⟨x, ρ1⟩, ha, hf⟩ := Option.bind_eq_some_iff.mp hf
  split at hf
  · rename_i hi
    cases hf
    exact ⟨env, ρ, _, _, r, ha, fun p vs H' e w h0 h1 h2 a => k _ H' e w ⟨p, vs, rfl, h0, h1, h2, a, hi⟩⟩
  · cases hf⟩
theorem r_dic {e : Expr} {f : E (List D)} (h : PMD X e f) : PMR X e (rDi f) := ⟨fun F => PE.imp (h.pe F) fun σ H Q ⟨env, ρ, d, ρ', r, hf, k⟩ => by
  unfold rDi at hf
  obtain ⟨⟨x, ρ1⟩, ha, hf⟩ := Option.bind_eq_some_iff.mp hf
  split at hf
  · rename_i hi
    cases hf
    exact ⟨env, ρ, _, _, r, ha, fun p vs H' e w h0 h1 h2 a => k _ H' e w ⟨p, vs, rfl, h0, h1, h2, a, hi⟩⟩
  · cases hf⟩
end
section
variable {K : PySem.W.Frag} {F : Frm} {σ : L2.St} {H H' : Hp} {env : List SV} {ρ ρ' : List D}
/-- what is new at H is not in the frame's entry, nor walked -/
theorem Rel.new0 (r : Rel K F σ H env ρ) {p : Addr} (hp : H p = none) : F.H0 p = none ∧ F.Pr p = none := by
  refine ⟨?_, ?_⟩
  · cases q : F.H0 p with
    | none => rfl
    | some o => have := r.base p o q (r.row.new hp).1; rw [hp] at this; cases this
  · cases q : F.Pr p with
    | none => rfl
    | some o => have := (r.pr p o q).1; rw [hp] at this; cases this
/-- a slot takes such a value -/
theorem Rel.put (r : Rel K F σ H env ρ) (e : Eff F H H') (w : RowIs K F H' ρ') {v : V} {s : SV} (h : SlotV K F H H' v s) (i : Nat) : Rel K F (σ.set i (some v)) H' (env.set i s) ρ' := by
  have r' := r.eff e w
  cases s with
  | dat d => exact r'.set i ⟨v, rfl, h.1.imm h.2⟩ rfl
  | wk d => exact r'.set i ⟨v, rfl, h⟩ rfl
  | lst ds =>
    obtain ⟨p, vs, rfl, h0, h1, h2, a, im⟩ := h
    have z := r.new0 h0
    exact r'.setNew i ⟨p, vs, rfl, h1, z.1, h2, a.imm im, z.2⟩ fun j t _ h o _ => r.own_new h0 j t h o
  | dic ds =>
    obtain ⟨p, vs, rfl, h0, h1, h2, a, im⟩ := h
    have z := r.new0 h0
    exact r'.setNew i ⟨p, vs, rfl, h1, z.1, h2, a.immT im, z.2⟩ fun j t _ h o _ => r.own_new h0 j t h o
  | _ => exact h.elim
end
def cAsg (i : Nat) (f : E SV) : C := fun env ρ => (f env ρ).map fun x => (.nx, env.set i x.1, x.2)
/-- x, y = e, f: both values ahead of both stores -/
def cPar (i j : Nat) (f g : E SV) : C := fun env ρ => (f env ρ).bind fun x => (g env x.2).map fun y => (.nx, (env.set i x.1).set j y.1, y.2)
def datOf : SV → Option D
  | .dat d => some d
  | .lst ds => some (.lst ds)
  | .dic ds => some (.dic ds)
  | .fz ds => some (.lst ds)
  | .fzd ds => some (.dic ds)
  | _ => none
def cRet (f : E SV) : C := fun env ρ => (f env ρ).bind fun x => (datOf x.1).map fun d => (.rt d, env, x.2)
/-- return of a list or a dict of the frame's own -/
def cRetV (i : Nat) : C := fun env ρ => match env[i]? with
  | some (.lst ds) => if D.imms ds = true then some (.rt (.lst ds), env, ρ) else none
  | some (.fz ds) => if D.imms ds = true then some (.rt (.lst ds), env, ρ) else none
  | some (.dic ds) => if D.imms ds = true then some (.rt (.dic ds), env, ρ) else none
  | some (.fzd ds) => if D.imms ds = true then some (.rt (.dic ds), env, ρ) else none
  | some (.dat d) => if d.imm = true then some (.rt d, env, ρ) else none
  | _ => none
def cDrop (f : E D) : C := fun env ρ => (f env ρ).map fun x => (.nx, env, x.2)
section
variable {X : Cx} {pos : Pos}
theorem s_asg {i : Nat} {x : Str} {e : Expr} {f : E SV} {pos' : Pos} (hN : X.N.Nodup) (hi : X.N[i]? = some x) (hx : Loc X.env.scope x) (he : PMR X e f) (hs : swapsWith e (some (.Name x pos')) pos.line X.env = pure false := by rfl) (hf : X.fn x = true ∨ X.env.scope.names.lookup x = some .local := by first | exact .inl rfl | exact .inr rfl | assumption) :
    PMS X (.Assign [.Name x pos'] e pos) (cAsg i f) := ⟨fun F => PS.imp (ps_set hN hi hx (he.pe F) hs hf) fun D σ H ⟨env, ρ, o, env', ρ', r, hc, k⟩ => by
  unfold cAsg at hc
  obtain ⟨⟨s, ρ1⟩, ha, hc⟩ := Option.map_eq_some_iff.mp hc
  cases hc
  exact ⟨env, ρ, s, _, r, ha, fun v H' e w sl => k _ H' (r.row.tk e) (r.put e w sl i)⟩⟩
theorem s_par {i j : Nat} {x y : Str} {a b : Expr} {fa fb : E SV} {px py pt : Pos} {kt k2 pt2} (hc : X.calm = true) (hN : X.N.Nodup) (hi : X.N[i]? = some x) (hj : X.N[j]? = some y) (hij : i ≠ j)
    (hx : X.env.scope.names.lookup x = some .local) (hy : X.env.scope.names.lookup y = some .local) (ha : PMR X a fa) (hb : PMR X b fb)
    (hw : swappedStores [.Tuple [.Name x px, .Name y py] kt pt] (.Tuple [a, b] k2 pt2) X.env = pure (some [x, y]))
    (hs : swapsWithSole [.Tuple [.Name x px, .Name y py] kt pt] (.Tuple [a, b] k2 pt2) pos.line X.env = pure false := by rfl)
    (h1 : starEach (a :: [b]) X.env = (false, eval a X.env) :: starEach [b] X.env := by rfl) (h2 : starEach (b :: []) X.env = (false, eval b X.env) :: starEach [] X.env := by rfl) :
    PMS X (.Assign [.Tuple [.Name x px, .Name y py] kt pt] (.Tuple [a, b] k2 pt2) pos) (cPar i j fa fb) := ⟨fun F => PS.imp (ps_par hc hN hi hj hij hx hy (pa_cons (ha.pe F) (pa_cons (hb.pe F) pa_nil h2) h1) hw hs) fun D σ H ⟨env, ρ, o, env', ρ', r, hc, k⟩ => by
  unfold cPar at hc
  obtain ⟨⟨s, ρ1⟩, ha, hc⟩ := Option.bind_eq_some_iff.mp hc
  obtain ⟨⟨t, ρ2⟩, hb, hc⟩ := Option.map_eq_some_iff.mp hc
  cases hc
  refine ⟨env, ρ, s, ρ1, r, ha, fun v H1 e1 w1 s1 => ?_⟩
  refine ⟨env, ρ1, t, _, r.eff e1 w1, hb, fun u H2 e2 w2 s2 => ⟨v, u, rfl, ?_⟩⟩
  have r1 := r.put e1 w1 s1 i
  exact k _ H2 (r.row.tk (e1.trans e2)) (r1.put e2 w2 s2 j)⟩
theorem s_ret {e : Expr} {f : E SV} (h : PMR X e f) : PMS X (.Return (some e) pos) (cRet f) := ⟨fun F => PS.imp (ps_ret (h.pe F)) fun D σ H ⟨env, ρ, o, env', ρ', r, hc, k⟩ => by
  unfold cRet at hc
  obtain ⟨⟨s, ρ1⟩, ha, hc⟩ := Option.bind_eq_some_iff.mp hc
  obtain ⟨d, hd, hc⟩ := Option.map_eq_some_iff.mp hc
  cases hc
  refine ⟨env, ρ, s, _, r, ha, fun v H1 e1 w1 sl => k v H1 (r.row.tk e1) ⟨fun a o h n => e1 a o (r.base a o h n) n, w1, ?_⟩⟩
  cases s with
  | dat d =>
    cases hd
    exact .imm sl.2 (sl.1.imm sl.2)
  | lst ds =>
    cases hd
    obtain ⟨p, vs, rfl, h0, h1, h2, a, im⟩ := sl
    exact ⟨p, vs, rfl, ⟨(r.new0 h0).1, h2⟩, h1, a.imm im⟩
  | dic ds =>
    cases hd
    obtain ⟨p, vs, rfl, h0, h1, h2, a, im⟩ := sl
    exact ⟨p, vs, rfl, ⟨(r.new0 h0).1, h2⟩, h1, a.immT im⟩
  | _ => first | exact False.elim sl | cases hd⟩
theorem s_retN : PMS X (.Return none pos) (cRet (rDt (mC .non))) := ⟨fun F => PS.imp ps_retN fun D σ H ⟨env, ρ, o, env', ρ', r, hc, k⟩ => by
  cases hc
  exact k _ H Tk.refl ⟨r.base, r.row, RetV.imm rfl .non⟩⟩
theorem s_retV {i : Nat} {x : Str} {pos' : Pos} (hN : X.N[i]? = some x) (hv : Vis X.env.scope x) (hd : (x == ("__debug__" : Str)) = false := by decide) (hcd : (x == ("__classdict__" : Str)) = false := by decide) : PMS X (.Return (some (.Name x pos')) pos) (cRetV i) :=
  ⟨fun F => PS.imp (ps_ret (pe_var hN hv hd hcd)) fun D σ H ⟨env, ρ, o, env', ρ', r, hc, k⟩ => by
    unfold cRetV at hc
    cases he : env[i]? with
    | none => rw [he] at hc; cases hc
    | some s =>
      rw [he] at hc
      obtain ⟨x, hx, sl⟩ := r.get he
      have fin : ∀ v d, x = some v → (o, env', ρ') = (Out.rt d, env, ρ) → RetV X.K (fun a => F.H0 a = none ∧ F.SR a) H v d → tRet (tVar i) D σ H := fun v d e z a => by
        cases z
        exact ⟨v, by rw [hx, e], k v H Tk.refl ⟨r.base, r.row, a⟩⟩
      cases s with
      | lst ds =>
        simp only at hc
        split at hc
        · rename_i im
          cases hc
          obtain ⟨p, vs, e, h1, h2, h3, a, _⟩ := sl
          exact fin _ _ e rfl ⟨p, vs, rfl, ⟨h2, h3⟩, h1, a.imm im⟩
        · cases hc
      | fz ds =>
        simp only at hc
        split at hc
        · rename_i im
          cases hc
          obtain ⟨p, vs, e, h1, h2, h3, a⟩ := sl
          exact fin _ _ e rfl ⟨p, vs, rfl, ⟨h2, h3⟩, h1, a.imm im⟩
        · cases hc
      | dic ds =>
        simp only at hc
        split at hc
        · rename_i im
          cases hc
          obtain ⟨p, vs, e, h1, h2, h3, a, _⟩ := sl
          exact fin _ _ e rfl ⟨p, vs, rfl, ⟨h2, h3⟩, h1, a.immT im⟩
        · cases hc
      | fzd ds =>
        simp only at hc
        split at hc
        · rename_i im
          cases hc
          obtain ⟨p, vs, e, h1, h2, h3, a⟩ := sl
          exact fin _ _ e rfl ⟨p, vs, rfl, ⟨h2, h3⟩, h1, a.immT im⟩
        · cases hc
      | dat d =>
        simp only at hc
        split at hc
        · rename_i im
          cases hc
          obtain ⟨v, e, a⟩ := sl
          exact fin _ _ e rfl (.imm im (a.imm im))
        · cases hc
      | _ => cases hc⟩
theorem s_drop {e : Expr} {f : E D} (h : PM X e f) (hs : swapsWith e none pos.line X.env = pure false := by rfl) : PMS X (.Expr e pos) (cDrop f) := ⟨fun F => PS.imp (ps_expr (h.pe F) hs) fun D σ H ⟨env, ρ, o, env', ρ', r, hc, k⟩ => by
  unfold cDrop at hc
  obtain ⟨⟨d, ρ1⟩, ha, hc⟩ := Option.map_eq_some_iff.mp hc
  cases hc
  exact ⟨env, ρ, d, _, r, ha, fun v H1 e1 w1 a => k σ H1 (r.row.tk e1) (r.eff e1 w1)⟩⟩
/-- name = [..] -/
theorem s_asgLc {i : Nat} {y : Str} {py : Pos} {elt tg iter : Expr} {ifs : List Expr} {scope : Scope} {own : List (Str × Nat)} {pos spos : Pos} {it : E (List D)} {g : D → List SV → Option (List SV)} {ts : List Nat} {tt : E Bool} {el : E D} (hc : X.calm = true) (hN : X.N.Nodup) (hy : X.N[i]? = some y) (hyl : X.env.scope.names.lookup y = some .local)
    (hsw : swapsWith (.ListComp elt [⟨tg, iter, ifs, 0⟩] scope pos) (some (.Name y py)) spos.line X.env = pure true) (hi : PMI X tg iter it) (ok : BlkOk X.N X.env.scope scope own)
    (hg : ∀ (s : Shared) (H : Hp) (C : Addr) (cl : List (Str × Addr)) (fp : List Addr), PMG (X.blk s H scope (compEnvC scope cl C X.env) fp) tg g ts) (ht : ∀ (s : Shared) (H : Hp) (C : Addr) (cl : List (Str × Addr)) (fp : List Addr), PMTs (X.blk s H scope (compEnvC scope cl C X.env) fp) ifs tt)
    (he : ∀ (s : Shared) (H : Hp) (C : Addr) (cl : List (Str × Addr)) (fp : List Addr), PM (X.blk s H scope (compEnvC scope cl C X.env) fp) elt el) (hts : ∀ i ∈ ts, i ∈ own.map (·.2) := by decide) (hs : ∀ x, foldedSetIterable iter X.env x = pure x := by intro _; rfl) :
    PMS X (.Assign [.Name y py] (.ListComp elt [⟨tg, iter, ifs, 0⟩] scope pos) spos) (cAsg i (rL (mLc it (own.map (·.2)) g tt el))) :=
  ⟨fun F => PS.imp (ps_setLc hc hN hy hyl hsw (hi.pi F) ok (fun s H C cl fp => (hg s H C cl fp).ex) (fun s H C cl fp => (ht s H C cl fp).ex) (fun s H C cl fp => (he s H C cl fp).ex) hs) fun D σ H ⟨env, ρ, o, env', ρ', r, hc, k⟩ => by
    unfold cAsg at hc
    obtain ⟨⟨s, ρ1⟩, ha, hc⟩ := Option.map_eq_some_iff.mp hc
    unfold rL at ha
    obtain ⟨⟨ds, ρ2⟩, hb, ha⟩ := Option.bind_eq_some_iff.mp ha
    split at ha
    · rename_i im
      cases ha; cases hc
      exact lc_read hts ⟨env, ρ, ds, _, r, hb, fun p vs H' e w h0 h1 h2 a => k _ H' (r.row.tk e) (r.put (s := .lst ds) e w ⟨p, vs, rfl, h0, h1, h2, a, im⟩ i)⟩
    · cases ha⟩
end
end VS
end

section
set_option Elab.async false
set_option linter.all false
set_option maxRecDepth 100000
set_option maxHeartbeats 1000000
namespace VS
open PySem PySem.Spec PyProof.Rows L2

/-! ## a list or a dict of the frame's own changes -/
def kill1 : SV → SV
  | .wk _ => .un
  | s => s
def kill (env : List SV) : List SV := env.map kill1
theorem kill_get {env : List SV} {i : Nat} {s : SV} (h : (kill env)[i]? = some s) : ∃ t, env[i]? = some t ∧ s = kill1 t := by
  unfold kill at h
  rw [List.getElem?_map] at h
  obtain ⟨t, h1, h2⟩ := Option.map_eq_some_iff.mp h
  exact ⟨t, h1, h2.symm⟩
theorem kill1_own {s : SV} : (kill1 s).own = s.own := by cases s <;> rfl
theorem kill1_owned {s : SV} : (kill1 s).owned = s.owned := by cases s <;> rfl
section
variable {K : PySem.W.Frag} {F : Frm} {σ : L2.St} {H H' : Hp} {env : List SV} {ρ ρ' : List D}
theorem Rel.mut (r : Rel K F σ H env ρ) {i : Nat} {p : Addr} {s s' : SV} {o : HO} (he : env[i]? = some s) (ow : s.owned = true) (hσ : σ[i]? = some (some (.ref p))) (h' : SlotOk K F (upd H p o) (some (.ref p)) s') (oo : s'.own = true) : Rel K F σ (upd H p o) ((kill env).set i s') ρ := by
  have sl := r.slot i _ s hσ he
  have hp : (∃ ob, H p = some ob ∧ ∀ xs, ob ≠ .tup xs) ∧ F.H0 p = none ∧ F.SR p ∧ F.Pr p = none := by
    refine ⟨sl.own_there (owned_own ow) rfl, ?_⟩
    cases s with
    | lst ds => obtain ⟨p', vs, e', h1, h2, h3, _, h4⟩ := sl; cases e'; exact ⟨h2, h3, h4⟩
    | dic ds => obtain ⟨p', vs, e', h1, h2, h3, _, h4⟩ := sl; cases e'; exact ⟨h2, h3, h4⟩
    | _ => cases ow
  obtain ⟨⟨ob, hob, nt⟩, p0, pr, pp⟩ := hp
  have k0 : Kp F.S0 H (upd H p o) := ⟨fun a u h q => by rw [upd_ne (by rintro rfl; obtain ⟨⟨z, e⟩, _⟩ := q; rw [p0] at e; cases e)]; exact h, fun a xs h => by
    rw [upd_ne (by rintro rfl; rw [hob] at h; exact nt xs (Option.some.inj h))]; exact h⟩
  have tk : ∀ a u, a ≠ p → H a = some u → upd H p o a = some u := fun a u n h => by rw [upd_ne n]; exact h
  have own_ne : ∀ j t, i ≠ j → env[j]? = some t → t.own = true → σ[j]? = some (some (.ref p)) → False := fun j t n h1 h2 h3 => r.dis i j s t p n he ow h1 h2 hσ h3
  refine ⟨fun a u h n => tk a u (by rintro rfl; rw [p0] at h; cases h) (r.base a u h n), fun a u h => ⟨tk a u (by rintro rfl; rw [pp] at h; cases h) (r.pr a u h).1, (r.pr a u h).2⟩,
    ⟨fun a h => ?_, fun a h => ?_, r.row.2.2⟩, by simp [kill, r.len], fun j x t h1 h2 => ?_, fun j l t u a n h1 o1 h2 o2 h3 h4 => ?_⟩
  · obtain ⟨vs, h1, h2⟩ := r.row.1 a h
    exact ⟨vs, tk _ _ (by rintro rfl; exact pr.1 h) h1, h2.kp (k0.sub r.row.2.2)⟩
  · obtain ⟨n, u, e⟩ := r.row.2.1 a h
    exact ⟨n, u, tk _ _ (by rintro rfl; exact pr.2 h) e⟩
  · by_cases e : i = j
    · subst e
      rw [List.getElem?_set_self (by simp [kill, r.len]; exact (List.getElem?_eq_some_iff.mp hσ).1)] at h2
      rw [hσ] at h1
      cases h1; cases h2
      exact h'
    · rw [List.getElem?_set_ne e] at h2
      obtain ⟨t0, g1, rfl⟩ := kill_get h2
      have sj := r.slot j x t0 h1 g1
      have ne : t0.own = true → ∀ q, x = some (.ref q) → q ≠ p := fun oo q hq e' => by
        subst e'; subst hq
        exact own_ne j t0 e g1 oo h1
      cases t0 with
      | un => trivial
      | wk d => trivial
      | row => exact sj
      | dat d => obtain ⟨v, e, a⟩ := sj; exact ⟨v, e, a.kp k0⟩
      | lst ds => obtain ⟨q, vs, e, g1, g2, g3, a, z⟩ := sj; exact ⟨q, vs, e, tk _ _ (ne rfl q e) g1, g2, g3, a.kp k0, z⟩
      | dic ds => obtain ⟨q, vs, e, g1, g2, g3, a, z⟩ := sj; exact ⟨q, vs, e, tk _ _ (ne rfl q e) g1, g2, g3, a.kp k0, z⟩
      | fz ds => obtain ⟨q, vs, e, g1, g2, g3, a⟩ := sj; exact ⟨q, vs, e, tk _ _ (ne rfl q e) g1, g2, g3, a.kp k0⟩
      | fzd ds => obtain ⟨q, vs, e, g1, g2, g3, a⟩ := sj; exact ⟨q, vs, e, tk _ _ (ne rfl q e) g1, g2, g3, a.kp k0⟩
  · have back : ∀ j t, ((kill env).set i s')[j]? = some t → t.own = true → ∃ t0, env[j]? = some t0 ∧ t0.own = true ∧ (i ≠ j → t.owned = true → t0.owned = true) := fun j t h o => by
      by_cases e : i = j
      · subst e; exact ⟨s, he, owned_own ow, fun z => absurd rfl z⟩
      · rw [List.getElem?_set_ne e] at h
        obtain ⟨t0, g1, rfl⟩ := kill_get h
        exact ⟨t0, g1, by rw [← kill1_own]; exact o, fun _ z => by rw [← kill1_owned]; exact z⟩
    obtain ⟨t0, g1, g2, g3⟩ := back j t h1 (owned_own o1)
    obtain ⟨u0, k1, k2, k3⟩ := back l u h2 o2
    by_cases e : i = j
    · subst e
      exact r.dis i l s u0 a n he ow k1 k2 h3 h4
    · exact r.dis j l t0 u0 a n g1 (g3 e o1) k1 k2 h3 h4
end

/-- xs.append(e) -/
def cApp (i : Nat) (f : E D) : C := fun env ρ => (f env ρ).bind fun x => match env[i]? with
  | some (.lst ds) => if x.1.imm = true ∧ ds.length < 1000000 then some (.nx, (kill env).set i (.lst (ds ++ [x.1])), x.2) else none
  | _ => none
/-- y = xs.pop() -/
def cPop (i j : Nat) : C := fun env ρ => match env[i]? with
  | some (.lst ds) => match ds[ds.length - 1]? with
    | some d => if d.imm = true ∧ i ≠ j then some (.nx, ((kill env).set i (.lst ds.dropLast)).set j (.dat d), ρ) else none
    | none => none
  | _ => none
/-- xs[k] = e -/
def cSetL (i : Nat) (fk f : E D) : C := fun env ρ => (f env ρ).bind fun x => (fk env x.2).bind fun k => match env[i]?, k.1 with
  | some (.lst ds), .int z => (ixN ds.length z).bind fun j => if x.1.imm = true then some (.nx, (kill env).set i (.lst (ds.set j x.1)), k.2) else none
  | _, _ => none
/-- what a dict holds behind d[k] = v -/
def dicPut (es : List D) (key : List Key) (v : D) : List D := if (dicGet es key).isSome then es.map fun e => match e with
      | .tup [k, w] => if k.key = some key then .tup [k, v] else e
      | e => e
    else es ++ [.tup [.tup (key.map keyD), v]]
def cPut (i : Nat) (fk f : E D) : C := fun env ρ => (f env ρ).bind fun x => (fk env x.2).bind fun k => match env[i]? with
  | some (.dic es) => (k.1.key).bind fun key => if x.1.imm = true ∧ es.length < 1000000 then some (.nx, (kill env).set i (.dic (dicPut es key x.1)), k.2) else none
  | _ => none
/-- x += e, ints -/
def cAug (i : Nat) (g : Int → Int → Int) (f : E D) : C := fun env ρ => match env[i]? with
  | some (.dat (.int a)) => (f env ρ).bind fun x => match x.1 with
    | .int b => some (.nx, env.set i (.dat (.int (g a b))), x.2)
    | _ => none
  | _ => none
/-- y = x, x a list or a dict of the frame's own: x is y's from here on -/
def cMove (i j : Nat) : C := fun env ρ => match env[j]? with
  | some s => if s.own = true ∧ i ≠ j then some (.nx, (env.set j .un).set i s, ρ) else none
  | none => none
/-- row[k] = e -/
def cRowSet (i : Nat) (fk f : E D) : C := fun env ρ => (f env ρ).bind fun x => (fk env x.2).bind fun k => match env[i]?, k.1 with
  | some .row, .int z => (ixN k.2.length z).bind fun j => if x.1.imm = true then some (.nx, env, k.2.set j x.1) else none
  | _, _ => none
/-- row[k] -/
def mRowIx (i : Nat) (fk : E D) : E D := fun env ρ => (fk env ρ).bind fun k => match env[i]?, k.1 with
  | some .row, .int z => (atI k.2 z).map fun d => (d, k.2)
  | _, _ => none
theorem ents_len {K : PySem.W.Frag} {S : Fp} {H : Hp} : ∀ {kvs : List (List Key × V)} {es : List D}, Ents K S H kvs es → kvs.length = es.length
  | _, _, .nil => rfl
  | _, _, .cons _ b => by simp [ents_len b]
theorem ents_app {K : PySem.W.Frag} {S : Fp} {H : Hp} {k : List Key} {v : V} {d : D} (a : At K S H v d) : ∀ {kvs : List (List Key × V)} {es : List D}, Ents K S H kvs es → Ents K S H (kvs ++ [(k, v)]) (es ++ [.tup [.tup (k.map keyD), d]])
  | _, _, .nil => .cons a .nil
  | _, _, .cons b c => .cons b (ents_app a c)
theorem ents_map {K : PySem.W.Frag} {S : Fp} {H : Hp} {k : List Key} {v : V} {d : D} (a : At K S H v d) : ∀ {kvs : List (List Key × V)} {es : List D}, Ents K S H kvs es →
    Ents K S H (kvs.map fun kv => if kv.1 = k then (kv.1, v) else kv) (es.map fun e => match e with
      | .tup [k', w] => if k'.key = some k then .tup [k', d] else e
      | e => e)
  | _, _, .nil => .nil
  | _, _, .cons (k := k') (v := w) (kvs := kvs) (d := dw) (es := es) b c => by
    have ek : D.key (.tup (k'.map keyD)) = some k' := keys_keyD k'
    rw [List.map_cons, List.map_cons]
    by_cases h : k' = k
    · subst h
      simp only [ek, if_true]
      exact .cons a (ents_map a c)
    · simp only [ek, if_neg h, if_neg (fun z => h (Option.some.inj z))]
      exact .cons b (ents_map a c)
theorem ents_put {K : PySem.W.Frag} {S : Fp} {H : Hp} {k : List Key} {v : V} {d : D} (a : At K S H v d) {kvs : List (List Key × V)} {es : List D} (q : Ents K S H kvs es) : Ents K S H (putK kvs k v) (dicPut es k d) := by
  have g := ents_get (k := k) q
  unfold putK dicPut
  rw [valV_any]
  cases e : valV kvs k with
  | none =>
    rw [e] at g
    have g : dicGet es k = none := g
    rw [g]
    exact ents_app a q
  | some w =>
    rw [e] at g
    obtain ⟨dd, g, _⟩ := g
    rw [g]
    exact ents_map a q
section
variable {X : Cx} {pos : Pos}
/-- a slot of a list, read as it stands behind an expression -/
theorem slot_after {K : PySem.W.Frag} {F : Frm} {σ : L2.St} {H : Hp} {env : List SV} {ρ : List D} (r : Rel K F σ H env ρ) {i : Nat} {ds : List D} (he : env[i]? = some (.lst ds)) : ∃ p vs, σ[i]? = some (some (.ref p)) ∧ H p = some (.lst vs) ∧ F.H0 p = none ∧ F.SR p ∧ Ats K F.S0 H vs ds ∧ F.Pr p = none := by
  obtain ⟨x, hx, p, vs, e, h⟩ := r.get he
  exact ⟨p, vs, by rw [hx, e], h⟩
theorem s_app {i : Nat} {x : Str} {e : Expr} {f : E D} {p1 p2 cpos : Pos} (hN : X.N[i]? = some x) (hv : Vis X.env.scope x) (he : PM X e f) (hd : (x == ("__debug__" : Str)) = false := by decide) (hcd : (x == ("__classdict__" : Str)) = false := by decide)
    (hs : swapsWith (.Call (.Attribute (.Name x p1) "append" p2) [e] [] cpos) none pos.line X.env = pure false := by rfl) (hst : starEach (e :: []) X.env = (false, eval e X.env) :: starEach [] X.env := by rfl)
    (hb : PE X (.Call (.Attribute (.Name x p1) "append" p2) [e] [] cpos) (tBM X.K "list" rAppend (tVar i) (tCons (fun σ H Q => ∃ F', tM X.K F' f σ H Q) tNil)) := by
      exact pe_bm PySem.F.plainAttrs_list PySem.F.slot_list_append PySem.F.type_list_append mt_append (pe_var hN hv hd hcd) (pa_cons he.ex pa_nil hst)) :
    PMS X (.Expr (.Call (.Attribute (.Name x p1) "append" p2) [e] [] cpos) pos) (cApp i f) := ⟨fun F => PS.imp (ps_expr hb hs) fun D σ H ⟨env, ρ, o, env', ρ', r, hc, k⟩ => by
  unfold cApp at hc
  obtain ⟨⟨d, ρ1⟩, ha, hc⟩ := Option.bind_eq_some_iff.mp hc
  cases hi : env[i]? with
  | none => rw [hi] at hc; cases hc
  | some s =>
    rw [hi] at hc
    cases s with
    | lst ds =>
      simp only at hc
      split at hc
      · rename_i c
        cases hc
        obtain ⟨p, vs, hσ, h1, h2, h3, a, h4⟩ := slot_after r hi
        refine ⟨_, hσ, .inl ⟨rfl, vs, .of h1⟩, F, env, ρ, d, _, r, ha, fun v H1 e1 w1 a1 => ?_⟩
        have r1 := r.eff e1 w1
        have g1 : H1 p = some (.lst vs) := e1 p _ h1 h3.1
        refine ⟨p, vs, v, rfl, rfl, g1, by rw [a.len]; exact big' c.2, ?_⟩
        have a2 : Ats X.K F.S0 H1 vs ds := a.kp ((r.row.kp e1).sub F.S0R)
        refine k σ _ ((r.row.tk e1).trans fun b xs h => ?_) (r1.mut hi rfl hσ ⟨p, _, rfl, upd_same, h2, h3, ?_, h4⟩ rfl)
        · rw [upd_ne (by rintro rfl; rw [g1] at h; cases h)]; exact h
        · have q : Ats X.K F.S0 H1 (vs ++ [v]) (ds ++ [d]) := a2.app (.cons (a1.imm c.1) .nil)
          exact q.kp ⟨fun b u h z => by rw [upd_ne (by rintro rfl; obtain ⟨⟨_, e⟩, _⟩ := z; rw [h2] at e; cases e)]; exact h, fun b xs h => by rw [upd_ne (by rintro rfl; rw [g1] at h; cases h)]; exact h⟩
      · cases hc
    | _ => cases hc⟩
/-- y = xs.pop() -/
theorem s_pop {i j : Nat} {x y : Str} {p1 p2 cpos py : Pos} (hN : X.N[i]? = some x) (hv : Vis X.env.scope x) (hnd : X.N.Nodup) (hj : X.N[j]? = some y) (hy : Loc X.env.scope y) (hd : (x == ("__debug__" : Str)) = false := by decide) (hcd : (x == ("__classdict__" : Str)) = false := by decide)
    (hs : swapsWith (.Call (.Attribute (.Name x p1) "pop" p2) [] [] cpos) (some (.Name y py)) pos.line X.env = pure false := by rfl) (hf : X.fn y = true ∨ X.env.scope.names.lookup y = some .local := by first | exact .inl rfl | exact .inr rfl | assumption)
    (hb : PE X (.Call (.Attribute (.Name x p1) "pop" p2) [] [] cpos) (tBM0 X.K "list" rPop (tVar i)) := by
      exact pe_bm0 PySem.F.plainAttrs_list PySem.F.slot_list_pop PySem.F.type_list_pop mt_pop (pe_var hN hv hd hcd)) :
    PMS X (.Assign [.Name y py] (.Call (.Attribute (.Name x p1) "pop" p2) [] [] cpos) pos) (cPop i j) := ⟨fun F => PS.imp (ps_set hnd hj hy hb hs hf) fun D σ H ⟨env, ρ, o, env', ρ', r, hc, k⟩ => by
  unfold cPop at hc
  cases hi : env[i]? with
  | none => rw [hi] at hc; cases hc
  | some s =>
    rw [hi] at hc
    cases s with
    | lst ds =>
      simp only at hc
      cases hl : ds[ds.length - 1]? with
      | none => rw [hl] at hc; cases hc
      | some d =>
        rw [hl] at hc
        simp only at hc
        split at hc
        · rename_i c
          cases hc
          obtain ⟨p, vs, hσ, h1, h2, h3, a, h4⟩ := slot_after r hi
          obtain ⟨v, hv', av⟩ := a.get hl
          refine ⟨_, hσ, .inl ⟨rfl, vs, .of h1⟩, p, vs, v, rfl, rfl, h1, by rw [a.len]; exact hv', ?_⟩
          have k0 : Kp F.S0 H (upd H p (.lst vs.dropLast)) := ⟨fun b u h z => by rw [upd_ne (by rintro rfl; obtain ⟨⟨_, e⟩, _⟩ := z; rw [h2] at e; cases e)]; exact h, fun b xs h => by rw [upd_ne (by rintro rfl; rw [h1] at h; cases h)]; exact h⟩
          have q : Ats X.K F.S0 H vs.dropLast ds.dropLast := by
            rw [List.dropLast_eq_take, List.dropLast_eq_take, a.len]
            exact a.take _
          have r1 := r.mut (s' := .lst ds.dropLast) hi rfl hσ ⟨p, _, rfl, upd_same, h2, h3, q.kp k0, h4⟩ rfl
          exact k _ _ k0.2 (r1.set j ⟨v, rfl, av.kp k0⟩ rfl)
        · cases hc
    | _ => cases hc⟩
/-- xs[k] = e -/
theorem s_setL {i : Nat} {x : Str} {ek e : Expr} {fk f : E D} {p1 p2 : Pos} (hN : X.N[i]? = some x) (hv : Vis X.env.scope x) (hk : PM X ek fk) (he : PM X e f) (hd : (x == ("__debug__" : Str)) = false := by decide) (hcd : (x == ("__classdict__" : Str)) = false := by decide)
    (hst : ∀ v, assign (.Subscript (.Name x p1) ek p2) X.env v = (do
      let ov ← holding [v] (eval (.Name x p1) X.env)
      let iv ← holding [v, ov] (eval ek X.env)
      standAt p2
      holding [v, ov, iv] (setItem ov iv v)
      release [v, ov, iv] []) := by intro _; rfl)
    (hs : swapsWithSole [.Subscript (.Name x p1) ek p2] e pos.line X.env = pure false := by rfl) (hw : swappedStores [.Subscript (.Name x p1) ek p2] e X.env = pure none := by rfl)
    (h1 : (assignEach [.Subscript (.Name x p1) ek p2] X.env).map (·.2) = [assign (.Subscript (.Name x p1) ek p2) X.env] := by rfl) :
    PMS X (.Assign [.Subscript (.Name x p1) ek p2] e pos) (cSetL i fk f) := ⟨fun F => PS.imp (ps_asg (he.pe F) (pg_sub (pe_var hN hv hd hcd) (hk.pe F) set_list hst) hs hw h1) fun D σ H ⟨env, ρ, o, env', ρ', r, hc, k⟩ => by
  unfold cSetL at hc
  obtain ⟨⟨d, ρ1⟩, ha, hc⟩ := Option.bind_eq_some_iff.mp hc
  obtain ⟨⟨dk, ρ2⟩, hb, hc⟩ := Option.bind_eq_some_iff.mp hc
  simp only at hc
  split at hc
  · rename_i ds z hi
    obtain ⟨j, hj, hc⟩ := Option.bind_eq_some_iff.mp hc
    split at hc
    · rename_i im
      cases hc
      obtain ⟨p, vs, hσ, h1, h2, h3, a, h4⟩ := slot_after r hi
      refine ⟨env, ρ, d, ρ1, r, ha, fun v H1 e1 w1 a1 => ⟨_, hσ, env, ρ1, _, _, r.eff e1 w1, hb, fun kv H2 e2 w2 a2 => ?_⟩⟩
      cases a2
      have e12 := e1.trans e2
      have g1 : H2 p = some (.lst vs) := e12 p _ h1 h3.1
      refine ⟨p, vs, z, j, rfl, rfl, g1, by rw [a.len]; exact hj, ?_⟩
      have k0 : Kp F.S0 H2 (upd H2 p (.lst (vs.set j v))) := ⟨fun b u h z => by rw [upd_ne (by rintro rfl; obtain ⟨⟨_, e⟩, _⟩ := z; rw [h2] at e; cases e)]; exact h, fun b xs h => by rw [upd_ne (by rintro rfl; rw [g1] at h; cases h)]; exact h⟩
      have q : Ats X.K F.S0 H2 (vs.set j v) (ds.set j d) := (a.kp ((r.row.kp e12).sub F.S0R)).set ((a1.kp (w1.kp e2)).imm im) j
      exact k σ _ ((r.row.tk e12).trans k0.2) (((r.eff e1 w1).eff e2 w2).mut hi rfl hσ ⟨p, _, rfl, upd_same, h2, h3, q.kp k0, h4⟩ rfl)
    · cases hc
  · cases hc⟩
/-- d[k] = e, the keys tuples -/
theorem s_put {i : Nat} {x : Str} {ek e : Expr} {fk f : E D} {p1 p2 : Pos} (hu : X.A.units + 1 < cLine) (hN : X.N[i]? = some x) (hv : Vis X.env.scope x) (hk : PM X ek fk) (he : PM X e f) (hd : (x == ("__debug__" : Str)) = false := by decide) (hcd : (x == ("__classdict__" : Str)) = false := by decide)
    (hs : swapsWith e (some (.Subscript (.Name x p1) ek p2)) pos.line X.env = pure false := by rfl) (hb : PS X (.Assign [.Subscript (.Name x p1) ek p2] e pos) (sDPut (tVar i) (fun σ H Q => ∃ F', tM X.K F' fk σ H Q) (fun σ H Q => ∃ F', tM X.K F' f σ H Q)) := by
      exact ps_dput hu (pe_var hN hv hd hcd) hk.ex he.ex hs) :
    PMS X (.Assign [.Subscript (.Name x p1) ek p2] e pos) (cPut i fk f) := ⟨fun F => PS.imp hb fun D σ H ⟨env, ρ, o, env', ρ', r, hc, k⟩ => by
  unfold cPut at hc
  obtain ⟨⟨d, ρ1⟩, ha, hc⟩ := Option.bind_eq_some_iff.mp hc
  obtain ⟨⟨dk, ρ2⟩, hb, hc⟩ := Option.bind_eq_some_iff.mp hc
  simp only at hc
  split at hc
  · rename_i es hi
    obtain ⟨key, hkey, hc⟩ := Option.bind_eq_some_iff.mp hc
    split at hc
    · rename_i c
      cases hc
      obtain ⟨x, hx, p, kvs, ex, h1, h2, h3, a, h4⟩ := r.get hi
      have hσ : σ[i]? = some (some (.ref p)) := by rw [hx, ex]
      refine ⟨F, env, ρ, d, ρ1, r, ha, fun v H1 e1 w1 a1 => ⟨_, hσ, F, env, ρ1, dk, _, r.eff e1 w1, hb, fun kv H2 e2 w2 a2 => ?_⟩⟩
      have e12 := e1.trans e2
      have g1 : H2 p = some (.dT kvs) := e12 p _ h1 h3.1
      obtain ⟨b, rfl, hkb⟩ := key_at a2 hkey
      have l := ents_len a
      refine ⟨p, _, rfl, DPut.t (v := v) g1 hkb (by rw [l]; exact big' c.2), ?_⟩
      have k0 : Kp F.S0 H2 (upd H2 p (.dT (putK kvs key v))) := ⟨fun b u h z => by rw [upd_ne (by rintro rfl; obtain ⟨⟨_, e⟩, _⟩ := z; rw [h2] at e; cases e)]; exact h, fun b xs h => by rw [upd_ne (by rintro rfl; rw [g1] at h; cases h)]; exact h⟩
      have q : Ents X.K F.S0 H2 (putK kvs key v) (dicPut es key d) := ents_put ((a1.kp (w1.kp e2)).imm c.1) (a.kp ((r.row.kp e12).sub F.S0R))
      exact k σ _ ((r.row.tk e12).trans k0.2) (((r.eff e1 w1).eff e2 w2).mut hi rfl hσ ⟨p, _, rfl, upd_same, h2, h3, q.kp k0, h4⟩ rfl)
    · cases hc
  · cases hc⟩
theorem s_aug {i : Nat} {x : Str} {e : Expr} {op : Operator} {g : Int → Int → Int} {f : E D} {pos' : Pos} (hN : X.N.Nodup) (hi : X.N[i]? = some x) (hx : Loc X.env.scope x) (he : PM X e f) (ho : PIp X op (ipI g)) (hf : X.fn x = true ∨ X.env.scope.names.lookup x = some .local := by first | exact .inl rfl | exact .inr rfl | assumption) :
    PMS X (.AugAssign (.Name x pos') op e pos) (cAug i g f) := ⟨fun F => PS.imp (ps_aug hN hi hx (he.pe F) ho hf) fun D σ H ⟨env, ρ, o, env', ρ', r, hc, k⟩ => by
  unfold cAug at hc
  split at hc
  · rename_i a hi
    obtain ⟨⟨d, ρ1⟩, ha, hc⟩ := Option.bind_eq_some_iff.mp hc
    simp only at hc
    split at hc
    · rename_i b
      cases hc
      obtain ⟨x, hx, v, ev, av⟩ := r.get hi
      cases av
      refine ⟨.int a, by rw [hx, ev], env, ρ, _, _, r, ha, fun w H1 e1 w1 a1 => ?_⟩
      cases a1
      exact ⟨a, b, rfl, rfl, k _ H1 (r.row.tk e1) ((r.eff e1 w1).set i ⟨_, rfl, .int _⟩ rfl)⟩
    · cases hc
  · cases hc⟩
theorem s_move {i j : Nat} {x y : Str} {p1 p2 : Pos} (hnd : X.N.Nodup) (hi : X.N[i]? = some x) (hx : Loc X.env.scope x) (hj : X.N[j]? = some y) (hy : Vis X.env.scope y) (hd : (y == ("__debug__" : Str)) = false := by decide) (hcd : (y == ("__classdict__" : Str)) = false := by decide)
    (hs : swapsWith (.Name y p2) (some (.Name x p1)) pos.line X.env = pure false := by rfl) (hf : X.fn x = true ∨ X.env.scope.names.lookup x = some .local := by first | exact .inl rfl | exact .inr rfl | assumption) :
    PMS X (.Assign [.Name x p1] (.Name y p2) pos) (cMove i j) := ⟨fun F => PS.imp (ps_set hnd hi hx (pe_var hj hy hd hcd) hs hf) fun D σ H ⟨env, ρ, o, env', ρ', r, hc, k⟩ => by
  unfold cMove at hc
  split at hc
  · rename_i s he
    split at hc
    · rename_i c
      cases hc
      obtain ⟨x, hx, sl⟩ := r.get he
      obtain ⟨p, ep⟩ : ∃ p, x = some (.ref p) := by
        cases s with
        | lst ds => obtain ⟨p, _, e, _⟩ := sl; exact ⟨p, e⟩
        | dic ds => obtain ⟨p, _, e, _⟩ := sl; exact ⟨p, e⟩
        | fz ds => obtain ⟨p, _, e, _⟩ := sl; exact ⟨p, e⟩
        | fzd ds => obtain ⟨p, _, e, _⟩ := sl; exact ⟨p, e⟩
        | _ => cases c.1
      subst ep
      refine ⟨_, hx, k _ H Tk.refl ?_⟩
      have hσ : σ.set j (some (.ref p)) = σ := by
        refine List.ext_getElem? fun n => ?_
        by_cases e : j = n
        · subst e
          rw [List.getElem?_set_self (List.getElem?_eq_some_iff.mp hx).1, hx]
        · rw [List.getElem?_set_ne e]
      have r1 : Rel X.K F σ H (env.set j .un) ρ := by
        have := r.set j (x := some (.ref p)) (s := .un) trivial rfl
        rwa [hσ] at this
      refine r1.setNew i (r.slot j _ s hx he) fun l t n h1 o1 o2 h2 => ?_
      have hl : j ≠ l := by
        rintro rfl
        rw [List.getElem?_set_self (List.getElem?_eq_some_iff.mp he).1] at h1
        cases h1; cases o1
      rw [List.getElem?_set_ne hl] at h1
      rcases o2 with o2 | o2
      · exact r.dis j l s t p hl he o2 h1 o1 hx h2
      · exact r.dis l j t s p (Ne.symm hl) h1 o2 he c.1 h2 hx
    · cases hc
  · cases hc⟩
end
end VS
end

section
set_option Elab.async false
set_option linter.all false
set_option maxRecDepth 100000
set_option maxHeartbeats 1000000
namespace VS
open PySem PySem.Spec PyProof.Rows L2

/-! ## the row -/
section
variable {X : Cx} {pos : Pos}
theorem Rel.rowSet {K : PySem.W.Frag} {F : Frm} {σ : L2.St} {H : Hp} {env : List SV} {ρ ρ' : List D} {r : Addr} {vs : List V} (h : Rel K F σ H env ρ) (hr : F.R = some r) (g : H r = some (.lst vs)) {ws : List V} (a : Ats K F.G (upd H r (.lst ws)) ws ρ') :
    Rel K F σ (upd H r (.lst ws)) env ρ' ∧ Tk H (upd H r (.lst ws)) := by
  have tk : ∀ b u, F.R ≠ some b → H b = some u → upd H r (.lst ws) b = some u := fun b u n h => by rw [upd_ne (by rintro rfl; exact n hr)]; exact h
  have k : Kp F.SR H (upd H r (.lst ws)) := ⟨fun b u h z => tk b u z.1 h, fun b xs h => by rw [upd_ne (by rintro rfl; rw [g] at h; cases h)]; exact h⟩
  refine ⟨⟨fun b u e n => tk b u n (h.base b u e n), fun b u e => ⟨tk b u (h.pr b u e).2 (h.pr b u e).1, (h.pr b u e).2⟩, ⟨fun b e => ?_, fun b e => ?_, h.row.2.2⟩, h.len, fun i x s h1 h2 => (h.slot i x s h1 h2).kp k, h.dis⟩, k.2⟩
  · rw [hr] at e; cases e
    exact ⟨ws, upd_same, a⟩
  · obtain ⟨n, u, z⟩ := h.row.2.1 b e
    exact ⟨n, u, tk b u n z⟩
theorem m_rowIx {i : Nat} {x : Str} {b : Expr} {fb : E D} {p1 : Pos} (hN : X.N[i]? = some x) (hv : Vis X.env.scope x) (hb : PM X b fb) (hs : PlainIx b := by intro _ _; rfl) (hd : (x == ("__debug__" : Str)) = false := by decide) (hcd : (x == ("__classdict__" : Str)) = false := by decide) :
    PM X (.Subscript (.Name x p1) b pos) (mRowIx i fb) := ⟨fun F => PE.imp (pe_ix ix_list (pe_var hN hv hd hcd) (hb.pe F) hs) fun σ H Q ⟨env, ρ, d, ρ', r, hf, k⟩ => by
  unfold mRowIx at hf
  obtain ⟨⟨dk, ρ1⟩, ha, hf⟩ := Option.bind_eq_some_iff.mp hf
  simp only at hf
  split at hf
  · rename_i z hi
    obtain ⟨d', hd', hf⟩ := Option.map_eq_some_iff.mp hf
    cases hf
    obtain ⟨x, hx, ra, er, ex⟩ := r.get hi
    refine ⟨.ref ra, by rw [hx, ex], env, ρ, _, _, r, ha, fun v H1 e1 w1 a1 => ?_⟩
    cases a1
    obtain ⟨vs, h1, h2⟩ := w1.1 ra er
    obtain ⟨v, h3, h4⟩ := ats_atI h2 hd'
    exact ⟨ra, vs, z, v, rfl, rfl, .of h1, h3, k v H1 e1 w1 (h4.sub fun a g => (w1.2.2 a g).2)⟩
  · cases hf⟩
theorem s_rowSet {i : Nat} {x : Str} {ek e : Expr} {fk f : E D} {p1 p2 : Pos} (hN : X.N[i]? = some x) (hv : Vis X.env.scope x) (hk : PM X ek fk) (he : PM X e f) (hd : (x == ("__debug__" : Str)) = false := by decide) (hcd : (x == ("__classdict__" : Str)) = false := by decide)
    (hst : ∀ v, assign (.Subscript (.Name x p1) ek p2) X.env v = (do
      let ov ← holding [v] (eval (.Name x p1) X.env)
      let iv ← holding [v, ov] (eval ek X.env)
      standAt p2
      holding [v, ov, iv] (setItem ov iv v)
      release [v, ov, iv] []) := by intro _; rfl)
    (hs : swapsWithSole [.Subscript (.Name x p1) ek p2] e pos.line X.env = pure false := by rfl) (hw : swappedStores [.Subscript (.Name x p1) ek p2] e X.env = pure none := by rfl)
    (h1 : (assignEach [.Subscript (.Name x p1) ek p2] X.env).map (·.2) = [assign (.Subscript (.Name x p1) ek p2) X.env] := by rfl) :
    PMS X (.Assign [.Subscript (.Name x p1) ek p2] e pos) (cRowSet i fk f) := ⟨fun F => PS.imp (ps_asg (he.pe F) (pg_sub (pe_var hN hv hd hcd) (hk.pe F) set_list hst) hs hw h1) fun D σ H ⟨env, ρ, o, env', ρ', r, hc, k⟩ => by
  unfold cRowSet at hc
  obtain ⟨⟨d, ρ1⟩, ha, hc⟩ := Option.bind_eq_some_iff.mp hc
  obtain ⟨⟨dk, ρ2⟩, hb, hc⟩ := Option.bind_eq_some_iff.mp hc
  simp only at hc
  split at hc
  · rename_i z hi
    obtain ⟨j, hj, hc⟩ := Option.bind_eq_some_iff.mp hc
    split at hc
    · rename_i im
      cases hc
      obtain ⟨x, hx, ra, er, ex⟩ := r.get hi
      refine ⟨env, ρ, d, ρ1, r, ha, fun v H1 e1 w1 a1 => ⟨.ref ra, by rw [hx, ex], env, ρ1, _, _, r.eff e1 w1, hb, fun kv H2 e2 w2 a2 => ?_⟩⟩
      cases a2
      obtain ⟨vs, g1, g2⟩ := w2.1 ra er
      refine ⟨ra, vs, z, j, rfl, rfl, g1, by rw [g2.len]; exact hj, ?_⟩
      have r2 := (r.eff e1 w1).eff e2 w2
      have q : Ats X.K F.G H2 (vs.set j v) (ρ2.set j d) := g2.set ((a1.kp (w1.kp e2)).imm im) j
      have kg : Kp F.G H2 (upd H2 ra (.lst (vs.set j v))) := ⟨fun b u h g => by rw [upd_ne (by rintro rfl; exact (w2.2.2 _ g).2.1 er)]; exact h, fun b xs h => by rw [upd_ne (by rintro rfl; rw [g1] at h; cases h)]; exact h⟩
      obtain ⟨r3, tk⟩ := r2.rowSet er g1 (q.kp kg)
      exact k σ _ ((r.row.tk (e1.trans e2)).trans tk) r3
    · cases hc
  · cases hc⟩
end

/-! ## defs and calls -/
def fr (R : Option Addr) (H : Hp) (G : Fp) : Frm := ⟨H, R, fun _ => none, [], G⟩
/-- the promise by a mirror g: from the arguments' data (behind the row, if there is one) and the row's -/
def spM (K : PySem.W.Frag) (rw : Bool) (g : List D → List D → Option (D × List D)) : Sp := fun vs H Q _ => ∃ (R : Option Addr) (G : Fp) (ρ : List D) (ws : List V) (ds : List D) (d : D) (ρ' : List D),
  R.isSome = rw ∧ vs = (R.map V.ref).toList ++ ws ∧ RowIs K (fr R H G) H ρ ∧ Ats K (fr R H G).SR H ws ds ∧ g ds ρ = some (d, ρ') ∧
    ∀ v H', (∀ a o, H a = some o → R ≠ some a → H' a = some o) → RowIs K (fr R H G) H' ρ' → RetV K (fun a => H a = none) H' v d → Q v H'
def gOf (n np : Nat) (rw : Bool) (c : C) : List D → List D → Option (D × List D) := fun ds ρ => if ds.length = np then
    match c ((if rw then [SV.row] else []) ++ ds.map SV.dat ++ List.replicate (n - ((if rw then 1 else 0) + np)) .un) ρ with
    | some (.rt d, _, ρ') => some (d, ρ')
    | some (.nx, _, ρ') => some (.non, ρ')
    | _ => none
  else none
def g0 (g : List D → List D → Option (D × List D)) : List D → Option D := fun ds => (g ds []).map (·.1)
def mCall0 (g : List D → Option D) (f : E (List D)) : E D := fun env ρ => (f env ρ).bind fun x => (g x.1).map fun z => (z, x.2)
def mCallR (i : Nat) (g : List D → List D → Option (D × List D)) (f : E (List D)) : E D := fun env ρ => (f env ρ).bind fun x => match env[i]? with
  | some .row => g x.1 x.2
  | _ => none
def mAsL (f : E D) : E (List D) := fun env ρ => (f env ρ).bind fun x => match x.1 with
  | .lst ds => some (ds, x.2)
  | _ => none
def mAsD (f : E D) : E (List D) := fun env ρ => (f env ρ).bind fun x => match x.1 with
  | .dic ds => some (ds, x.2)
  | _ => none
theorem dats_slot {K : PySem.W.Frag} {R : Option Addr} {G : Fp} {H : Hp} : ∀ {ws : List V} {ds : List D} {i : Nat} {x : Option V} {s : SV}, Ats K (fr R H G).SR H ws ds → (ws.map some)[i]? = some x → (ds.map SV.dat)[i]? = some s → SlotOk K (fr R H G) H x s := by
  intro ws ds i x s a h1 h2
  rw [List.getElem?_map] at h1 h2
  obtain ⟨w, hw, rfl⟩ := Option.map_eq_some_iff.mp h1
  obtain ⟨d, hd, rfl⟩ := Option.map_eq_some_iff.mp h2
  obtain ⟨w', hw', aw⟩ := a.get hd
  rw [hw] at hw'; cases hw'
  exact ⟨w, rfl, aw.trk.sub fun b h => ⟨h.2, h.1⟩⟩
theorem rel_start {K : PySem.W.Frag} {R : Option Addr} {G : Fp} {H : Hp} {ρ : List D} {ws : List V} {ds : List D} {N : List Str} (hr : RowIs K (fr R H G) H ρ) (a : Ats K (fr R H G).SR H ws ds) (hn : (if R.isSome then 1 else 0) + ds.length ≤ N.length) :
    Rel K (fr R H G) (L2.start N ((R.map V.ref).toList ++ ws)) H ((if R.isSome then [SV.row] else []) ++ ds.map SV.dat ++ List.replicate (N.length - ((if R.isSome then 1 else 0) + ds.length)) .un) ρ := by
  have l := a.len
  have noown : ∀ (j : Nat) (t : SV), ((if R.isSome then [SV.row] else []) ++ ds.map SV.dat ++ List.replicate (N.length - ((if R.isSome then 1 else 0) + ds.length)) .un)[j]? = some t → t.owned = true → False := fun j t h o => by
    have := List.mem_of_getElem? h
    simp only [List.mem_append, List.mem_map, List.mem_replicate] at this
    rcases this with (h | ⟨d, _, rfl⟩) | ⟨_, rfl⟩
    · split at h
      · simp at h; subst h; cases o
      · cases h
    · cases o
    · cases o
  refine ⟨fun b o h _ => h, fun b o h => (by cases h), hr, ?_, fun i x s h1 h2 => ?_, fun i j s t b _ h1 o1 _ _ _ _ => (noown i s h1 o1).elim⟩
  · unfold L2.start
    cases R with
    | none => simp [l]
    | some r =>
      simp [l]
      omega
  · unfold L2.start at h1
    cases R with
    | none =>
      simp only [Option.map_none, Option.toList_none, List.nil_append, Option.isSome_none, Bool.false_eq_true, if_false] at h1 h2
      by_cases hi : i < ds.length
      · rw [List.getElem?_append_left (by simpa [l] using hi)] at h1
        rw [List.getElem?_append_left (by simpa using hi)] at h2
        exact dats_slot a h1 h2
      · rw [List.getElem?_append_right (by simpa using hi)] at h2
        have := (List.mem_of_getElem? h2)
        rw [List.mem_replicate] at this
        obtain ⟨_, rfl⟩ := this
        trivial
    | some r =>
      simp only [Option.map_some, Option.toList_some, List.cons_append, List.nil_append, Option.isSome_some, if_true] at h1 h2
      cases i with
      | zero =>
        simp only [List.map_cons, List.cons_append, List.getElem?_cons_zero, Option.some.injEq] at h1 h2
        subst h1; subst h2
        exact ⟨r, rfl, rfl⟩
      | succ i =>
        simp only [List.map_cons, List.cons_append, List.getElem?_cons_succ] at h1 h2
        by_cases hi : i < ds.length
        · rw [List.getElem?_append_left (by simpa [l] using hi)] at h1
          rw [List.getElem?_append_left (by simpa using hi)] at h2
          exact dats_slot a h1 h2
        · rw [List.getElem?_append_right (by simpa using hi)] at h2
          have := (List.mem_of_getElem? h2)
          rw [List.mem_replicate] at this
          obtain ⟨_, rfl⟩ := this
          trivial
theorem RetV.sub {K : PySem.W.Frag} {S T : Fp} {H : Hp} {v : V} {d : D} (h : ∀ a, S a → T a) (r : RetV K S H v d) : RetV K T H v d := by
  cases d with
  | lst ds => obtain ⟨p, vs, e, h1, h2, h3⟩ := r; exact ⟨p, vs, e, h _ h1, h2, h3.sub h⟩
  | dic es => obtain ⟨p, vs, e, h1, h2, h3⟩ := r; exact ⟨p, vs, e, h _ h1, h2, h3.sub h⟩
  | non => exact At.sub h (show At K S H v _ from r)
  | bl b => exact At.sub h (show At K S H v _ from r)
  | int b => exact At.sub h (show At K S H v _ from r)
  | str b => exact At.sub h (show At K S H v _ from r)
  | tup b => exact At.sub h (show At K S H v _ from r)
  | st b => exact At.sub h (show At K S H v _ from r)
section
variable {P : Program} {w : World} {K : PySem.W.Frag} {mg : Str → Option Value} {base : Heap}
theorem fn_ok {x qual : Str} {st : Stmt} {f : Addr} {fd : FuncData} {N ps : List Str} {k : Nat} (F : Fun K x qual st f fd) (S : FnScope N ps (defScope st)) {rw : Bool} {c : C} (np : Nat) (hps : ps.length = (if rw then 1 else 0) + np) (hN : ps.length ≤ N.length)
    (hb : ∀ (cdv : Value) (A : Around) (outer : List Env) (s : Shared) (H : Hp) (E : XK), Room k (A.deeper (envOfC qual (defScope st) s.heap.objs.size f cdv)) → PMSs (cxOf CX0 P w K mg base N qual (defScope st) f cdv A outer s H E).nox (defBody st) c) :
    FnOk P w K mg base CX0 (k + 1) f fd ps (spM K rw (gOf N.length np rw c)) := by
  have hl : ∀ vs H Q E, spM K rw (gOf N.length np rw c) vs H Q E → vs.length = ps.length := by
    rintro vs H Q E ⟨R, G, ρ, ws, ds, d, ρ', hR, rfl, hr, a, hg, _⟩
    unfold gOf at hg
    split at hg
    · rename_i hlen
      rw [hps, List.length_append, a.len, hlen]
      cases R <;> cases rw <;> first | rfl | cases hR
    · cases hg
  refine F.ok S hl (fun cdv A outer s H vs Q E hr h => ?_)
  have hl := hl _ _ _ _ h
  obtain ⟨R, G, ρ, ws, ds, d, ρ', hR, rfl, hrow, a, hg, k⟩ := h
  refine ⟨_, ((hb cdv A outer s H E hr).ps (fr R H G)), ?_⟩
  unfold gOf at hg
  split at hg
  case isFalse => cases hg
  rename_i hlen
  have hn : (if R.isSome then 1 else 0) + ds.length ≤ N.length := by rw [hR, hlen, ← hps]; exact hN
  have r := rel_start (N := N) hrow a hn
  rw [hR, hlen] at r
  split at hg
  · rename_i d' env1 ρ1 hc
    cases hg
    exact ⟨_, ρ, _, _, _, r, hc, fun v H' t ret => k v H' (fun b o h n => ret.base b o h n) ret.row (by
      have := ret.val
      exact RetV.sub (fun b h => h.1) this)⟩
  · rename_i env1 ρ1 hc
    cases hg
    exact ⟨_, ρ, _, _, _, r, hc, fun σ' H' t r' => k _ H' (fun b o h n => r'.base b o h n) r'.row (RetV.imm rfl .non)⟩
  · cases hg
end
section
variable {X : Cx} {k : Nat} {f : Addr} {fd : FuncData} {ps : List Str} {x : Str} {p pos : Pos} {e : Expr} {es : List Expr}
/-- a def without a row is called: what it promises, for the frame at hand -/
theorem call0_ok {K : PySem.W.Frag} {F : Frm} {g : List D → List D → Option (D × List D)} {H H1 : Hp} {ρ1 : List D} {vs : List V} {ds : List D} {d : D} {E : XK} (e1 : Eff F H H1) (w1 : RowIs K F H1 ρ1) (a : Ats K F.SR H1 vs ds) (hg : g0 g ds = some d) {Q : VK}
    (k : ∀ v H', Eff F H1 H' → RowIs K F H' ρ1 → RetV K (fun a => H1 a = none) H' v d → Q v H') : spM K false g vs H1 Q E := by
  unfold g0 at hg
  obtain ⟨⟨d', ρ'⟩, hg', hd⟩ := Option.map_eq_some_iff.mp hg
  cases hd
  refine ⟨none, fun _ => False, [], vs, ds, _, ρ', rfl, rfl, ⟨fun r h => (by cases h), fun b h => (by cases h), fun b h => h.elim⟩, a.sub fun b h => ⟨(by intro z; cases z), (by intro z; cases z)⟩, hg', fun v H' hk _ rv => ?_⟩
  have sm : Same H1 H' := fun b o h => hk b o h (by intro z; cases z)
  exact k v H' (Eff.of_same sm) (w1.same sm) rv
theorem sr_new {K : PySem.W.Frag} {F : Frm} {H : Hp} {ρ : List D} (w : RowIs K F H ρ) : ∀ a, H a = none → F.SR a := fun a h => w.new h
theorem m_call {g : List D → List D → Option (D × List D)} {fa : E (List D)} (Fn : FnOk X.prog X.w X.K X.mg X.base CX0 k f fd ps (spM X.K false g)) (hr : Room k X.A) (hg : Gl X x) (hm : X.mg x = some (.ref f)) (hk : PySem.W.keepIn X.K (.ref f) = true) (hb : Binds X.K fd ps [])
    (ha : PMA X (e :: es) fa) (hdb : (x == ("__debug__" : Str)) = false := by decide) (he : starEach (e :: es) X.env = (false, eval e X.env) :: starEach es X.env := by rfl) (hpl : (backTo pos (starEach es X.env)).any (·.1) = false := by rfl) :
    PM X (.Call (.Name x p) (e :: es) [] pos) (mCall0 (g0 g) fa) := ⟨fun F => PE.imp (pe_call Fn hr hg hm hk hb .nil pass0 (ha.pa F) hdb he hpl) fun σ H Q ⟨env, ρ, d, ρ', r, hf, k⟩ => by
  unfold mCall0 at hf
  obtain ⟨⟨ds, ρ1⟩, ha, hf⟩ := Option.bind_eq_some_iff.mp hf
  obtain ⟨z, hz, hf⟩ := Option.map_eq_some_iff.mp hf
  cases hf
  refine ⟨env, ρ, ds, _, r, ha, fun vs H1 e1 w1 a1 => ?_⟩
  show spM X.K false g (vs ++ []) H1 Q _
  rw [List.append_nil]
  exact call0_ok e1 w1 a1 hz fun v H' e2 w2 rv => k v H' (e1.trans e2) w2 ((rv.sub (sr_new w1)).at)⟩
theorem m_callN {g : List D → List D → Option (D × List D)} (Fn : FnOk X.prog X.w X.K X.mg X.base CX0 k f fd ps (spM X.K false g)) (hr : Room k X.A) (hg : Gl X x) (hm : X.mg x = some (.ref f)) (hk : PySem.W.keepIn X.K (.ref f) = true) (hb : Binds X.K fd ps [])
    (hdb : (x == ("__debug__" : Str)) = false := by decide) : PM X (.Call (.Name x p) [] [] pos) (mCall0 (g0 g) mNil) := ⟨fun F => PE.imp (pe_call0 Fn hr hg hm hk hb .nil pass0 hdb) fun σ H Q ⟨env, ρ, d, ρ', r, hf, k⟩ => by
  unfold mCall0 at hf
  obtain ⟨⟨ds, ρ1⟩, ha, hf⟩ := Option.bind_eq_some_iff.mp hf
  obtain ⟨z, hz, hf⟩ := Option.map_eq_some_iff.mp hf
  cases hf
  cases ha
  show spM X.K false g ([] ++ []) H Q E0
  exact call0_ok (F := F) (H := H) (E := E0) Eff.refl r.row .nil hz fun v H' e2 w2 rv => k v H' e2 w2 ((rv.sub (sr_new r.row)).at)⟩
theorem mf_call {g : List D → List D → Option (D × List D)} {fa : E (List D)} (Fn : FnOk X.prog X.w X.K X.mg X.base CX0 k f fd ps (spM X.K false g)) (hr : Room k X.A) (hg : Gl X x) (hm : X.mg x = some (.ref f)) (hk : PySem.W.keepIn X.K (.ref f) = true) (hb : Binds X.K fd ps [])
    (ha : PMA X (e :: es) fa) (hdb : (x == ("__debug__" : Str)) = false := by decide) (he : starEach (e :: es) X.env = (false, eval e X.env) :: starEach es X.env := by rfl) (hpl : (backTo pos (starEach es X.env)).any (·.1) = false := by rfl) :
    PMF X (.Call (.Name x p) (e :: es) [] pos) (mAsL (mCall0 (g0 g) fa)) := ⟨fun F => PE.imp (pe_call Fn hr hg hm hk hb .nil pass0 (ha.pa F) hdb he hpl) fun σ H Q ⟨env, ρ, d, ρ', r, hf, k⟩ => by
  unfold mAsL mCall0 at hf
  obtain ⟨⟨d0, ρ0⟩, hf, hl⟩ := Option.bind_eq_some_iff.mp hf
  obtain ⟨⟨ds, ρ1⟩, ha, hf⟩ := Option.bind_eq_some_iff.mp hf
  obtain ⟨z, hz, hf⟩ := Option.map_eq_some_iff.mp hf
  cases hf
  simp only at hl
  split at hl
  · rename_i ds'
    cases hl
    refine ⟨env, ρ, ds, _, r, ha, fun vs H1 e1 w1 a1 => ?_⟩
    show spM X.K false g (vs ++ []) H1 Q _
    rw [List.append_nil]
    exact call0_ok e1 w1 a1 hz fun v H' e2 w2 rv => by
      obtain ⟨q, us, rfl, h1, h2, h3⟩ := rv
      exact k q us H' (e1.trans e2) w2 (eff_new e1 w1 h1) h2 (w1.new h1) (h3.sub (sr_new w1))
  · cases hl⟩
theorem md_call {g : List D → List D → Option (D × List D)} {fa : E (List D)} (Fn : FnOk X.prog X.w X.K X.mg X.base CX0 k f fd ps (spM X.K false g)) (hr : Room k X.A) (hg : Gl X x) (hm : X.mg x = some (.ref f)) (hk : PySem.W.keepIn X.K (.ref f) = true) (hb : Binds X.K fd ps [])
    (ha : PMA X (e :: es) fa) (hdb : (x == ("__debug__" : Str)) = false := by decide) (he : starEach (e :: es) X.env = (false, eval e X.env) :: starEach es X.env := by rfl) (hpl : (backTo pos (starEach es X.env)).any (·.1) = false := by rfl) :
    PMD X (.Call (.Name x p) (e :: es) [] pos) (mAsD (mCall0 (g0 g) fa)) := ⟨fun F => PE.imp (pe_call Fn hr hg hm hk hb .nil pass0 (ha.pa F) hdb he hpl) fun σ H Q ⟨env, ρ, d, ρ', r, hf, k⟩ => by
  unfold mAsD mCall0 at hf
  obtain ⟨⟨d0, ρ0⟩, hf, hl⟩ := Option.bind_eq_some_iff.mp hf
  obtain ⟨⟨ds, ρ1⟩, ha, hf⟩ := Option.bind_eq_some_iff.mp hf
  obtain ⟨z, hz, hf⟩ := Option.map_eq_some_iff.mp hf
  cases hf
  simp only at hl
  split at hl
  · rename_i ds'
    cases hl
    refine ⟨env, ρ, ds, _, r, ha, fun vs H1 e1 w1 a1 => ?_⟩
    show spM X.K false g (vs ++ []) H1 Q _
    rw [List.append_nil]
    exact call0_ok e1 w1 a1 hz fun v H' e2 w2 rv => by
      obtain ⟨q, us, rfl, h1, h2, h3⟩ := rv
      exact k q us H' (e1.trans e2) w2 (eff_new e1 w1 h1) h2 (w1.new h1) (h3.sub (sr_new w1))
  · cases hl⟩
/-- a def with the row ahead -/
theorem m_callR {g : List D → List D → Option (D × List D)} {fa : E (List D)} {i : Nat} {y : Str} {py : Pos} (Fn : FnOk X.prog X.w X.K X.mg X.base CX0 k f fd ps (spM X.K true g)) (hr : Room k X.A) (hg : Gl X x) (hm : X.mg x = some (.ref f)) (hk : PySem.W.keepIn X.K (.ref f) = true) (hb : Binds X.K fd ps [])
    (hN : X.N[i]? = some y) (hv : Vis X.env.scope y) (ha : PMA X es fa) (hd : (y == ("__debug__" : Str)) = false := by decide) (hcd : (y == ("__classdict__" : Str)) = false := by decide) (hdb : (x == ("__debug__" : Str)) = false := by decide) (he : starEach (.Name y py :: es) X.env = (false, eval (.Name y py) X.env) :: starEach es X.env := by rfl) (hpl : (backTo pos (starEach es X.env)).any (·.1) = false := by rfl) :
    PM X (.Call (.Name x p) (.Name y py :: es) [] pos) (mCallR i g fa) := ⟨fun F => PE.imp (pe_call Fn hr hg hm hk hb .nil pass0 (pa_cons (pe_var hN hv hd hcd) (ha.pa F) he) hdb he hpl) fun σ H Q ⟨env, ρ, d, ρ', r, hf, k⟩ => by
  unfold mCallR at hf
  obtain ⟨⟨ds, ρ1⟩, ha, hf⟩ := Option.bind_eq_some_iff.mp hf
  simp only at hf
  split at hf
  · rename_i hi
    obtain ⟨x, hx, ra, er, ex⟩ := r.get hi
    refine ⟨.ref ra, by rw [hx, ex], env, ρ, ds, ρ1, r, ha, fun vs H1 e1 w1 a1 => ?_⟩
    show spM X.K true g (.ref ra :: vs ++ []) H1 Q _
    rw [List.append_nil]
    have g0 : ∀ b, F.G b → (∃ o, H1 b = some o) ∧ F.R ≠ some b ∧ b ∉ F.Ex := fun b h => by
      obtain ⟨⟨o, h1⟩, h2⟩ := w1.2.2 b h
      exact ⟨⟨o, (r.eff e1 w1).base b o h1 h2.1⟩, h2⟩
    refine ⟨F.R, F.G, ρ1, vs, ds, d, ρ', by rw [er]; rfl, by rw [er]; rfl, ⟨w1.1, (by intro b h; cases h), fun b h => ⟨(g0 b h).1, (g0 b h).2.1, (by intro z; cases z)⟩⟩, a1.sub fun b h => ⟨h.1, (by intro z; cases z)⟩, hf, fun v H' hk w2 rv => ?_⟩
    have e2 : Eff F H1 H' := fun b o h n => hk b o h n
    have w3 : RowIs X.K F H' ρ' := ⟨w2.1, fun b h => by
      obtain ⟨n, o, q⟩ := w1.2.1 b h
      exact ⟨n, o, e2 b o q n⟩, w1.2.2⟩
    exact k v H' (e1.trans e2) w3 ((rv.sub (sr_new w1)).at)
  · cases hf⟩
theorem mf_callR {g : List D → List D → Option (D × List D)} {fa : E (List D)} {i : Nat} {y : Str} {py : Pos} (Fn : FnOk X.prog X.w X.K X.mg X.base CX0 k f fd ps (spM X.K true g)) (hr : Room k X.A) (hg : Gl X x) (hm : X.mg x = some (.ref f)) (hk : PySem.W.keepIn X.K (.ref f) = true) (hb : Binds X.K fd ps [])
    (hN : X.N[i]? = some y) (hv : Vis X.env.scope y) (ha : PMA X es fa) (hd : (y == ("__debug__" : Str)) = false := by decide) (hcd : (y == ("__classdict__" : Str)) = false := by decide) (hdb : (x == ("__debug__" : Str)) = false := by decide) (he : starEach (.Name y py :: es) X.env = (false, eval (.Name y py) X.env) :: starEach es X.env := by rfl) (hpl : (backTo pos (starEach es X.env)).any (·.1) = false := by rfl) :
    PMF X (.Call (.Name x p) (.Name y py :: es) [] pos) (mAsL (mCallR i g fa)) := ⟨fun F => PE.imp (pe_call Fn hr hg hm hk hb .nil pass0 (pa_cons (pe_var hN hv hd hcd) (ha.pa F) he) hdb he hpl) fun σ H Q ⟨env, ρ, d, ρ', r, hf, k⟩ => by
  unfold mAsL mCallR at hf
  obtain ⟨⟨d0, ρ0⟩, hf, hl⟩ := Option.bind_eq_some_iff.mp hf
  obtain ⟨⟨ds, ρ1⟩, ha, hf⟩ := Option.bind_eq_some_iff.mp hf
  simp only at hf
  split at hf
  · rename_i hi
    simp only at hl
    split at hl
    · rename_i ds'
      cases hl
      obtain ⟨x, hx, ra, er, ex⟩ := r.get hi
      refine ⟨.ref ra, by rw [hx, ex], env, ρ, ds, ρ1, r, ha, fun vs H1 e1 w1 a1 => ?_⟩
      show spM X.K true g (.ref ra :: vs ++ []) H1 Q _
      rw [List.append_nil]
      have g0 : ∀ b, F.G b → (∃ o, H1 b = some o) ∧ F.R ≠ some b ∧ b ∉ F.Ex := fun b h => by
        obtain ⟨⟨o, h1⟩, h2⟩ := w1.2.2 b h
        exact ⟨⟨o, (r.eff e1 w1).base b o h1 h2.1⟩, h2⟩
      refine ⟨F.R, F.G, ρ1, vs, ds, .lst d, ρ', by rw [er]; rfl, by rw [er]; rfl, ⟨w1.1, (by intro b h; cases h), fun b h => ⟨(g0 b h).1, (g0 b h).2.1, (by intro z; cases z)⟩⟩, a1.sub fun b h => ⟨h.1, (by intro z; cases z)⟩, hf, fun v H' hk w2 rv => ?_⟩
      have e2 : Eff F H1 H' := fun b o h n => hk b o h n
      have w3 : RowIs X.K F H' ρ' := ⟨w2.1, fun b h => by
        obtain ⟨n, o, q⟩ := w1.2.1 b h
        exact ⟨n, o, e2 b o q n⟩, w1.2.2⟩
      obtain ⟨q, us, rfl, h1, h2, h3⟩ := rv
      exact k q us H' (e1.trans e2) w3 (eff_new e1 w1 h1) h2 (w1.new h1) (h3.sub (sr_new w1))
    · cases hl
  · cases hf⟩
end
end VS
end

section
set_option Elab.async false
set_option linter.all false
set_option maxRecDepth 100000
set_option maxHeartbeats 1000000
namespace VS
open PySem PySem.Spec PyProof.Rows L2

/-! ## targets of statements -/
def tGS (K : PySem.W.Frag) (F : Frm) (g : D → List SV → Option (List SV)) : TG := fun v σ H Q => ∃ env ρ d env', Rel K F σ H env ρ ∧ At K F.S0 H v d ∧ g d env = some env' ∧ ∀ σ', Rel K F σ' H env' ρ → Q σ' H
structure PGS (X : Cx) (tg : Expr) (g : D → List SV → Option (List SV)) : Prop where
  pg : ∀ F : Frm, PG X tg (tGS X.K F g)
def gD (i : Nat) : D → List SV → Option (List SV) := fun d env => some (env.set i (.dat d))
def tGSs (K : PySem.W.Frag) (F : Frm) (g : List D → List SV → Option (List SV)) : TGs := fun vs σ H Q => ∃ env ρ ds env', Rel K F σ H env ρ ∧ Ats K F.S0 H vs ds ∧ g ds env = some env' ∧ ∀ σ', Rel K F σ' H env' ρ → Q σ' H
structure PGSs (X : Cx) (tgs : List Expr) (g : List D → List SV → Option (List SV)) : Prop where
  pg : ∀ F : Frm, PGs X tgs (tGSs X.K F g)
def gsNil : List D → List SV → Option (List SV) := fun ds env => match ds with
  | [] => some env
  | _ => none
def gsCons (g : D → List SV → Option (List SV)) (gs : List D → List SV → Option (List SV)) : List D → List SV → Option (List SV) := fun ds env => match ds with
  | d :: ds => (g d env).bind fun env' => gs ds env'
  | _ => none
def gT (n : Nat) (gs : List D → List SV → Option (List SV)) : D → List SV → Option (List SV) := fun d env => match d with
  | .tup ds => if ds.length = n then gs ds env else none
  | _ => none
theorem PGs.imp {X : Cx} {e : List Expr} {t t' : TGs} (h : PGs X e t) (i : ∀ v σ H Q, t' v σ H Q → t v σ H Q) : PGs X e t' := ⟨fun pins s σ H v u Q I r q => h.run pins s σ H v u Q I r (i _ _ _ _ q)⟩
section
variable {X : Cx}
theorem gs_name {i : Nat} {x : Str} {pos : Pos} (hN : X.N.Nodup) (hi : X.N[i]? = some x) (hx : Loc X.env.scope x) (hf : X.fn x = true ∨ X.env.scope.names.lookup x = some .local := by first | exact .inl rfl | exact .inr rfl | assumption) : PGS X (.Name x pos) (gD i) :=
  ⟨fun F => PG.imp (pg_name hN hi hx hf) fun v σ H Q ⟨env, ρ, d, env', r, a, hg, k⟩ => by
    cases hg
    exact k _ (r.set i ⟨v, rfl, a⟩ rfl)⟩
theorem gss_nil : PGSs X [] gsNil := ⟨fun F => PGs.imp pgs_nil fun vs σ H Q ⟨env, ρ, ds, env', r, a, hg, k⟩ => by
  unfold gsNil at hg
  split at hg
  · cases hg; cases a
    exact ⟨rfl, k σ r⟩
  · cases hg⟩
theorem gss_cons {e : Expr} {es : List Expr} {g : D → List SV → Option (List SV)} {gs : List D → List SV → Option (List SV)} (h1 : PGS X e g) (h2 : PGSs X es gs)
    (hs : (assignEach (e :: es) X.env).map (·.2) = assign e X.env :: (assignEach es X.env).map (·.2) := by rfl) : PGSs X (e :: es) (gsCons g gs) := ⟨fun F => PGs.imp (pgs_cons (h1.pg F) (h2.pg F) hs) fun vs σ H Q ⟨env, ρ, ds, env', r, a, hg, k⟩ => by
  unfold gsCons at hg
  split at hg
  · obtain ⟨env1, h1, hg⟩ := Option.bind_eq_some_iff.mp hg
    cases a with
    | cons a b => exact ⟨_, _, rfl, env, ρ, _, env1, r, a, h1, fun σ' r' => ⟨env1, ρ, _, env', r', b, hg, k⟩⟩
  · cases hg⟩
theorem gs_tup {es : List Expr} {kk : Nat} {pos : Pos} {gs : List D → List SV → Option (List SV)} {n : Nat} (hc : X.calm = true) (h : PGSs X es gs)
    (hn : (assignEach es X.env).length = n := by rfl) (hst : (assignEach es X.env).findIdx? (·.1) = none := by rfl) : PGS X (.Tuple es kk pos) (gT n gs) := ⟨fun F => PG.imp (pg_tup hc (h.pg F) hn hst) fun v σ H Q ⟨env, ρ, d, env', r, a, hg, k⟩ => by
  unfold gT at hg
  split at hg
  · split at hg
    · rename_i hl
      cases a with
      | tup h q => exact ⟨_, _, rfl, .of h, by rw [q.len]; exact hl, env, ρ, _, env', r, q, hg, k⟩
    · cases hg
  · cases hg⟩
/-- a, b = e -/
def cUnp (g : D → List SV → Option (List SV)) (f : E D) : C := fun env ρ => (f env ρ).bind fun x => if x.1.imm = true then (g x.1 env).map fun env' => (.nx, env', x.2) else none
theorem s_unp {tg e : Expr} {pos : Pos} {f : E D} {g : D → List SV → Option (List SV)} (he : PM X e f) (hg : PGS X tg g) (hs : swapsWithSole [tg] e pos.line X.env = pure false := by rfl) (hw : swappedStores [tg] e X.env = pure none := by rfl)
    (h1 : (assignEach [tg] X.env).map (·.2) = [assign tg X.env] := by rfl) : PMS X (.Assign [tg] e pos) (cUnp g f) := ⟨fun F => PS.imp (ps_asg (he.pe F) (hg.pg F) hs hw h1) fun D σ H ⟨env, ρ, o, env', ρ', r, hc, k⟩ => by
  unfold cUnp at hc
  obtain ⟨⟨d, ρ1⟩, ha, hc⟩ := Option.bind_eq_some_iff.mp hc
  split at hc
  · rename_i im
    obtain ⟨env1, hg1, hc⟩ := Option.map_eq_some_iff.mp hc
    cases hc
    exact ⟨env, ρ, d, _, r, ha, fun v H1 e1 w1 a1 => ⟨env, _, d, _, r.eff e1 w1, a1.imm im, hg1, fun σ' r' => k σ' H1 (r.row.tk e1) r'⟩⟩
  · cases hc⟩
/-- from a parameter (any data) -/
def cUnpV (i : Nat) (g : D → List SV → Option (List SV)) : C := fun env ρ => match env[i]? with
  | some (.dat d) => (g d env).map fun env' => (.nx, env', ρ)
  | _ => none
theorem s_unpV {i : Nat} {x : Str} {tg : Expr} {pos p1 : Pos} {g : D → List SV → Option (List SV)} (hN : X.N[i]? = some x) (hv : Vis X.env.scope x) (hg : PGS X tg g) (hd : (x == ("__debug__" : Str)) = false := by decide) (hcd : (x == ("__classdict__" : Str)) = false := by decide) (hs : swapsWithSole [tg] (.Name x p1) pos.line X.env = pure false := by rfl) (hw : swappedStores [tg] (.Name x p1) X.env = pure none := by rfl)
    (h1 : (assignEach [tg] X.env).map (·.2) = [assign tg X.env] := by rfl) : PMS X (.Assign [tg] (.Name x p1) pos) (cUnpV i g) := ⟨fun F => PS.imp (ps_asg (pe_var hN hv hd hcd) (hg.pg F) hs hw h1) fun D σ H ⟨env, ρ, o, env', ρ', r, hc, k⟩ => by
  unfold cUnpV at hc
  split at hc
  · rename_i d hi
    obtain ⟨env1, hg1, hc⟩ := Option.map_eq_some_iff.mp hc
    cases hc
    obtain ⟨x, hx, v, ev, av⟩ := r.get hi
    exact ⟨v, by rw [hx, ev], env, _, d, _, r, av, hg1, fun σ' r' => k σ' H Tk.refl r'⟩
  · cases hc⟩
end

theorem imms_mem : ∀ {ds : List D} {d : D}, D.imms ds = true → d ∈ ds → d.imm = true
  | d' :: ds, d, h, m => by
    simp only [D.imm.immAll, Bool.and_eq_true] at h
    rcases List.mem_cons.mp m with e | m
    · rw [e]; exact h.1
    · exact imms_mem h.2 m
/-! ## for -/
/-- J yields ds through the loop: in every state of the (loop's) frame F' behind H1 -/
def WalkS (K : PySem.W.Frag) (F : Frm) (J : It) (ds : List D) (H1 : Hp) : Prop := ∀ σ H env ρ, Rel K F σ H env ρ → Tk H1 H →
  (∀ i, i < ds.length → J.go i H) ∧ J.stop ds.length H ∧ ∀ i x H', i < ds.length → J.yld i H x H' → ∃ d, ds[i]? = some d ∧ Same H H' ∧ At K F.S0 H' x d
/-- F' is F with one thing more that is walked -/
structure Wdn (K : PySem.W.Frag) (F F' : Frm) : Prop where
  h0 : F'.H0 = F.H0
  r : F'.R = F.R
  ex : F'.Ex = F.Ex
  g : F'.G = F.G
  back : ∀ σ H env ρ, Rel K F' σ H env ρ → Rel K F σ H env ρ
abbrev EI := List SV → List D → Option (List D × List SV × List D)
def tIS (K : PySem.W.Frag) (F : Frm) (f : EI) : TI := fun σ H R => ∃ env ρ ds env1 ρ1, Rel K F σ H env ρ ∧ f env ρ = some (ds, env1, ρ1) ∧
  ∀ J H' F', Tk H H' → Wdn K F F' → Rel K F' σ H' env1 ρ1 → WalkS K F' J ds H' → R J H'
structure PIS (X : Cx) (tg iter : Expr) (f : EI) : Prop where
  pi : ∀ F : Frm, PI X tg iter (tIS X.K F f)
section
variable {K : PySem.W.Frag} {F : Frm}
theorem Wdn.refl : Wdn K F F := ⟨rfl, rfl, rfl, rfl, fun _ _ _ _ h => h⟩
/-- what was At a walk's beginning stands through the loop -/
theorem walkS_of {F' : Frm} {J : It} {ds : List D} {H1 : Hp} {S : Fp} (w : Walk K S J ds H1) (hs : ∀ a o, H1 a = some o → S a → F'.S0 a ∧ F'.H0 a = some o ∨ F'.Pr a = some o) (hS : ∀ H x d, d ∈ ds → At K S H x d → At K F'.S0 H x d) : WalkS K F' J ds H1 := fun σ H env ρ r tk => by
  obtain ⟨w1, w2, w3⟩ := w H ⟨fun a o h s => by
    rcases hs a o h s with ⟨q, h0⟩ | h0
    · exact r.base a o h0 q.2.1
    · exact (r.pr a o h0).1, tk⟩
  refine ⟨w1, w2, fun i x H' hi y => ?_⟩
  obtain ⟨d, h1, h2, h3⟩ := w3 i x H' hi y
  exact ⟨d, h1, h2, hS _ _ _ (List.mem_of_getElem? h1) h3⟩
end
/-- the iterables of statements -/
def iImm (f : E (List D)) : EI := fun env ρ => (f env ρ).bind fun x => if D.imms x.1 = true then some (x.1, env, x.2) else none
/-- a parameter's or a slot's list -/
def iVar (i : Nat) : EI := fun env ρ => match env[i]? with
  | some (.dat (.lst ds)) => some (ds, env, ρ)
  | some (.dat (.tup ds)) => some (ds, env, ρ)
  | some (.lst ds) => some (ds, env.set i (.fz ds), ρ)
  | some (.fz ds) => some (ds, env, ρ)
  | _ => none
def Frm.walked (F : Frm) (p : Addr) (o : HO) : Frm := { F with Pr := fun b => if b = p then some o else F.Pr b }
section
variable {K : PySem.W.Frag} {F : Frm} {σ : L2.St} {H : Hp} {env : List SV} {ρ : List D}
theorem Rel.walked (r : Rel K F σ H env ρ) {p : Addr} {o : HO} (hp : H p = some o) (n : F.R ≠ some p) (no : ∀ (i : Nat) (s : SV), env[i]? = some s → s.owned = true → σ[i]? = some (some (V.ref p)) → False) : Rel K (F.walked p o) σ H env ρ := by
  refine ⟨r.base, fun a u h => ?_, r.row, r.len, fun i x s h1 h2 => ?_, r.dis⟩
  · have h : (if a = p then some o else F.Pr a) = some u := h
    split at h
    · rename_i e
      cases h; subst e
      exact ⟨hp, n⟩
    · exact r.pr a u h
  · have sl := r.slot i x s h1 h2
    have ne : s.owned = true → ∀ q, x = some (.ref q) → F.Pr q = none → (F.walked p o).Pr q = none := fun ow q e h => by
      show (if q = p then some o else F.Pr q) = none
      rw [if_neg]
      · exact h
      · rintro rfl
        subst e
        exact no i s h2 ow h1
    cases s with
    | lst ds => obtain ⟨q, vs, e, g1, g2, g3, a, z⟩ := sl; exact ⟨q, vs, e, g1, g2, g3, a, ne rfl q e z⟩
    | dic ds => obtain ⟨q, vs, e, g1, g2, g3, a, z⟩ := sl; exact ⟨q, vs, e, g1, g2, g3, a, ne rfl q e z⟩
    | un => exact sl
    | dat d => exact sl
    | wk d => exact sl
    | fz d => exact sl
    | fzd d => exact sl
    | row => exact sl
theorem wdn_walked {p : Addr} {o : HO} (hp : ∀ u, F.Pr p = some u → u = o) : Wdn K F (F.walked p o) := ⟨rfl, rfl, rfl, rfl, fun σ H env ρ r => by
  refine ⟨r.base, fun a u h => r.pr a u ?_, r.row, r.len, fun i x s h1 h2 => ?_, r.dis⟩
  · show (if a = p then some o else F.Pr a) = some u
    split
    · rename_i e
      subst e
      rw [hp u h]
    · exact h
  · have sl := r.slot i x s h1 h2
    have ne : ∀ q, (F.walked p o).Pr q = none → F.Pr q = none := fun q h => by
      have h : (if q = p then some o else F.Pr q) = none := h
      split at h
      · cases h
      · exact h
    cases s with
    | lst ds => obtain ⟨q, vs, e, g1, g2, g3, a, z⟩ := sl; exact ⟨q, vs, e, g1, g2, g3, a, ne q z⟩
    | dic ds => obtain ⟨q, vs, e, g1, g2, g3, a, z⟩ := sl; exact ⟨q, vs, e, g1, g2, g3, a, ne q z⟩
    | un => exact sl
    | dat d => exact sl
    | wk d => exact sl
    | fz d => exact sl
    | fzd d => exact sl
    | row => exact sl⟩
end
section
variable {X : Cx} {tg : Expr}
theorem i_tup {e : Expr} {f : E D} (h : PM X e f) : PIS X tg e (iImm (fun env ρ => (f env ρ).bind fun x => match x.1 with
    | .tup ds => some (ds, x.2)
    | _ => none)) := ⟨fun F => ⟨fun pins s σ H R I ⟨env, ρ, ds, env1, ρ1, r, hf, k⟩ => by
  unfold iImm at hf
  obtain ⟨⟨ds', ρ2⟩, hb, hf⟩ := Option.bind_eq_some_iff.mp hf
  obtain ⟨⟨da, ρ3⟩, ha, hb⟩ := Option.bind_eq_some_iff.mp hb
  split at hf
  case isFalse => cases hf
  rename_i im
  simp only [Option.some.injEq, Prod.mk.injEq] at hf
  obtain ⟨rfl, rfl, rfl⟩ := hf
  cases da with
  | tup dx =>
    simp only [Option.some.injEq, Prod.mk.injEq] at hb
    obtain ⟨rfl, rfl⟩ := hb
    refine thn ((h.pe F).run pins s σ H (fun v H1 => Eff F H H1 ∧ RowIs X.K F H1 ρ3 ∧ At X.K F.SR H1 v (.tup dx)) I ⟨env, ρ, _, _, r, ha, fun v H1 e1 w1 a1 => ⟨e1, w1, a1⟩⟩) fun v s1 ⟨x, H1, I1, r1, e1, w1, a1⟩ => ?_
    cases a1 with
    | tup ht q =>
      cases r1
      have q' : Ats X.K (fun _ => False) H1 _ dx := q.imm im
      exact it_tup I1 (.of ht) (k _ H1 F (r.row.tk e1) .refl (r.eff e1 w1) (walkS_of (walk_tup ht q') (fun a o _ z => z.elim) fun H x d _ a => a.sub fun _ z => z.elim))
  | _ => cases hb⟩⟩
/-- a new list -/
theorem i_new {e : Expr} {f : E (List D)} (h : PMF X e f) : PIS X tg e (iImm f) := ⟨fun F => ⟨fun pins s σ H R I ⟨env, ρ, ds, env1, ρ1, r, hf, k⟩ => by
  unfold iImm at hf
  obtain ⟨⟨dx, ρ2⟩, ha, hf⟩ := Option.bind_eq_some_iff.mp hf
  split at hf
  case isFalse => cases hf
  rename_i im
  simp only [Option.some.injEq, Prod.mk.injEq] at hf
  obtain ⟨rfl, rfl, rfl⟩ := hf
  refine thn ((h.pe F).run pins s σ H (fun v H1 => ∃ p vs, v = .ref p ∧ Eff F H H1 ∧ RowIs X.K F H1 ρ2 ∧ H p = none ∧ H1 p = some (.lst vs) ∧ F.SR p ∧ Ats X.K F.SR H1 vs dx) I ⟨env, ρ, _, _, r, ha, fun p vs H1 e1 w1 h0 h1 hr a1 => ⟨p, vs, rfl, e1, w1, h0, h1, hr, a1⟩⟩) fun v s1 ⟨x, H1, I1, r1, p, vs, ev, e1, w1, h0, h1, hr, a1⟩ => ?_
  subst ev
  cases r1
  have rl := r.eff e1 w1
  have q' : Ats X.K (fun a => a = p) H1 vs dx := a1.imm im
  have np : ∀ u, F.Pr p = some u → False := fun u z => by
    have := (r.pr p u z).1
    rw [h0] at this; cases this
  have wk : Walk X.K (fun a => a = p) (Itl X.K p) dx H1 := walk_list (.inl ⟨.inl h1, rfl⟩) q'
  have rw' : Rel X.K (F.walked p (.lst vs)) σ H1 env ρ2 := rl.walked h1 hr.1 fun i s h2 o h3 => r.own_new h0 i s h2 (owned_own o) h3
  refine it_list I1 (.of h1) (k _ H1 (F.walked p (.lst vs)) (r.row.tk e1) (wdn_walked fun u z => (np u z).elim) rw' (walkS_of wk (fun a o h z => .inr ?_) fun H x d hd a => a.imm (imms_mem im hd)))
  subst z
  rw [h1] at h; cases h
  exact if_pos rfl⟩⟩
/-- a range -/
theorem i_rng1 {a : Expr} {fa : E (List D)} {p pos : Pos} (hg : Gl X "range") (hm : X.mg "range" = none) (ha : PMA X [a] fa) (hs : starEach [a] X.env = [(false, eval a X.env)] := by rfl) : PIS X tg (.Call (.Name "range" p) [a] [] pos) (iImm (mRng1 fa)) :=
  ⟨fun F => ⟨fun pins s σ H R I ⟨env, ρ, ds, env1, ρ1, r, hf, k⟩ => by
    unfold iImm mRng1 at hf
    obtain ⟨⟨dx, ρ2⟩, hb, hf⟩ := Option.bind_eq_some_iff.mp hf
    obtain ⟨⟨da, ρ3⟩, hfa, hb⟩ := Option.bind_eq_some_iff.mp hb
    split at hf
    case isFalse => cases hf
    simp only [Option.some.injEq, Prod.mk.injEq] at hf
    obtain ⟨rfl, rfl, rfl⟩ := hf
    simp only at hb
    split at hb
    · rename_i j
      split at hb
      · rename_i hj
        simp only [Option.some.injEq, Prod.mk.injEq] at hb
        obtain ⟨rfl, rfl⟩ := hb
        refine Call_ (ld_blt I hg hm boot_range (PyProof.Rows.callWith_type1 (thn ((ha.pa F).run pos pins s σ H (fun vs H1 => vs = [.int j] ∧ Eff F H H1 ∧ RowIs X.K F H1 ρ3) I ⟨env, ρ, _, _, r, hfa, fun vs H1 e1 w1 a1 => ?_⟩) fun us s1 ⟨vs, H1, I1, r1, ev, e1, w1⟩ => ?_) hs rfl))
        · cases a1 with
          | cons a b => cases b; cases a; exact ⟨rfl, e1, w1⟩
        · subst ev
          cases r1 with
          | cons r' rr =>
            cases rr
            obtain ⟨t, rfl⟩ := r'
            exact call_range_1 (range_it I1 (by omega) (by omega) (by omega) (by omega) (by
              have e : (j - 0).toNat = j.toNat := by omega
              rw [e]
              exact k _ H1 F (r.row.tk e1) .refl (r.eff e1 w1) (walkS_of (S := fun _ => False) walk_rng (fun _ _ _ z => z.elim) fun _ _ _ _ a => a.sub fun _ z => z.elim)))
      · cases hb
    · cases hb⟩⟩
theorem i_rng2 {a b : Expr} {fa : E (List D)} {p pos : Pos} (hg : Gl X "range") (hm : X.mg "range" = none) (ha : PMA X [a, b] fa) (hs : starEach [a, b] X.env = [(false, eval a X.env), (false, eval b X.env)] := by rfl) (hs2 : starEach [b] X.env = [(false, eval b X.env)] := by rfl) :
    PIS X tg (.Call (.Name "range" p) [a, b] [] pos) (iImm (mRng2 fa)) :=
  ⟨fun F => ⟨fun pins s σ H R I ⟨env, ρ, ds, env1, ρ1, r, hf, k⟩ => by
    unfold iImm mRng2 at hf
    obtain ⟨⟨dx, ρ2⟩, hb, hf⟩ := Option.bind_eq_some_iff.mp hf
    obtain ⟨⟨da, ρ3⟩, hfa, hb⟩ := Option.bind_eq_some_iff.mp hb
    split at hf
    case isFalse => cases hf
    simp only [Option.some.injEq, Prod.mk.injEq] at hf
    obtain ⟨rfl, rfl, rfl⟩ := hf
    simp only at hb
    split at hb
    · rename_i i j
      split at hb
      · rename_i hj
        simp only [Option.some.injEq, Prod.mk.injEq] at hb
        obtain ⟨rfl, rfl⟩ := hb
        refine Call_ (ld_blt I hg hm boot_range (PyProof.Rows.callWith_type1 (thn ((ha.pa F).run pos pins s σ H (fun vs H1 => vs = [.int i, .int j] ∧ Eff F H H1 ∧ RowIs X.K F H1 ρ3) I ⟨env, ρ, _, _, r, hfa, fun vs H1 e1 w1 a1 => ?_⟩) fun us s1 ⟨vs, H1, I1, r1, ev, e1, w1⟩ => ?_) (by rw [hs, hs2]) (by rw [hs2]; rfl)))
        · cases a1 with
          | cons a b =>
            cases a
            cases b with
            | cons c d => cases c; cases d; exact ⟨rfl, e1, w1⟩
        · subst ev
          cases r1 with
          | cons r' rr =>
            cases rr with
            | cons r2 rr =>
              cases rr
              obtain ⟨t, rfl⟩ := r'
              obtain ⟨t', rfl⟩ := r2
              exact call_range_2 (range_it I1 (by omega) (by omega) (by omega) (by omega) (k _ H1 F (r.row.tk e1) .refl (r.eff e1 w1) (walkS_of (S := fun _ => False) walk_rng (fun _ _ _ z => z.elim) fun _ _ _ _ a => a.sub fun _ z => z.elim)))
      · cases hb
    · cases hb⟩⟩
/-- a slot: a parameter's list or tuple, a list of the frame's own -/
theorem i_var {i : Nat} {x : Str} {p1 : Pos} (hN : X.N[i]? = some x) (hv : Vis X.env.scope x) (hd : (x == ("__debug__" : Str)) = false := by decide) (hcd : (x == ("__classdict__" : Str)) = false := by decide) : PIS X tg (.Name x p1) (iVar i) := ⟨fun F => ⟨fun pins s σ H R I ⟨env, ρ, ds, env1, ρ1, r, hf, k⟩ => by
  unfold iVar at hf
  cases he : env[i]? with
  | none => rw [he] at hf; cases hf
  | some sv =>
    rw [he] at hf
    obtain ⟨x, hx, sl⟩ := r.get he
    have go : ∀ v, x = some v → ∀ Q, Q v H → tVar i σ H Q := fun v e Q q => ⟨v, by rw [hx, e], q⟩
    cases sv with
    | dat d =>
      obtain ⟨v, ev, av⟩ := sl
      have back : ∀ a o, H a = some o → F.S0 a → F.S0 a ∧ F.H0 a = some o ∨ F.Pr a = some o := fun a o h s => .inl ⟨s, by
        obtain ⟨o', h'⟩ := s.1
        have := r.base a o' h' s.2.1
        rw [h] at this; cases this
        exact h'⟩
      cases av with
      | lst hl q =>
        cases hf
        refine thn ((pe_var hN hv hd hcd).run pins s σ H (fun v H1 => v = .ref _ ∧ H1 = H) I (go _ ev _ ⟨rfl, rfl⟩)) fun v s1 ⟨x, H1, I1, r1, e1, e2⟩ => ?_
        subst e1; subst e2; cases r1
        exact it_list I1 hl.sq (k _ H1 F Tk.refl .refl r (walkS_of (walk_list hl q) back fun H x d _ a => a))
      | tup ht q =>
        cases hf
        refine thn ((pe_var hN hv hd hcd).run pins s σ H (fun v H1 => v = .ref _ ∧ H1 = H) I (go _ ev _ ⟨rfl, rfl⟩)) fun v s1 ⟨x, H1, I1, r1, e1, e2⟩ => ?_
        subst e1; subst e2; cases r1
        exact it_tup I1 (.of ht) (k _ H1 F Tk.refl .refl r (walkS_of (walk_tup ht q) back fun H x d _ a => a))
      | _ => cases hf
    | lst ds' =>
      cases hf
      obtain ⟨p, vs, ev, h1, h2, h3, a, h4⟩ := sl
      subst ev
      have rf : Rel X.K F σ H (env.set i (.fz ds)) ρ := by
        have e : σ.set i (some (.ref p)) = σ := by
          refine List.ext_getElem? fun n => ?_
          by_cases e : i = n
          · subst e
            rw [List.getElem?_set_self (List.getElem?_eq_some_iff.mp hx).1, hx]
          · rw [List.getElem?_set_ne e]
        have := r.setNew i (p := p) (s := .fz ds) ⟨p, vs, rfl, h1, h2, h3, a⟩ fun j t n g1 g2 _ g4 => r.dis i j _ t p n he rfl g1 g2 hx g4
        rwa [e] at this
      refine thn ((pe_var hN hv hd hcd).run pins s σ H (fun v H1 => v = .ref p ∧ H1 = H) I (go _ rfl _ ⟨rfl, rfl⟩)) fun v s1 ⟨x, H1, I1, r1, e1, e2⟩ => ?_
      subst e1; subst e2; cases r1
      have q' : Ats X.K (fun b => F.S0 b ∨ b = p) H1 vs ds := a.sub fun _ z => .inl z
      refine it_list I1 (.of h1) (k _ H1 (F.walked p (.lst vs)) Tk.refl (wdn_walked fun u z => by rw [h4] at z; cases z) (rf.walked h1 h3.1 fun j t g1 g2 g3 => ?_) (fun σ2 H2 env2 ρ2 r2 tk => ?_))
      · by_cases e : i = j
        · subst e
          rw [List.getElem?_set_self (List.getElem?_eq_some_iff.mp he).1] at g1
          cases g1; cases g2
        · rw [List.getElem?_set_ne e] at g1
          exact r.dis i j _ t p e he rfl g1 (owned_own g2) hx g3
      · have kp : Kp F.S0 H1 H2 := ⟨fun b o h z => by
          obtain ⟨o', h'⟩ := z.1
          have e1 := r.base b o' h' z.2.1
          rw [h] at e1; cases e1
          exact r2.base b o h' z.2.1, tk⟩
        have h1' : H2 p = some (.lst vs) := (r2.pr p (.lst vs) (if_pos rfl)).1
        have w := walk_list (K := X.K) (S := fun b => F.S0 b ∨ b = p) (H1 := H2) (.inl ⟨.inl h1', .inr rfl⟩) ((a.kp kp).sub fun _ z => .inl z) H2 Kp.refl
        refine ⟨w.1, w.2.1, fun m x H' hm y => ?_⟩
        obtain ⟨e, y⟩ := y
        subst e
        obtain ⟨d, hd, ad⟩ := (a.kp kp).get' (y vs (.of h1'))
        exact ⟨d, hd, Same.refl _, ad⟩
    | fz ds' =>
      cases hf
      obtain ⟨p, vs, ev, h1, h2, h3, a⟩ := sl
      subst ev
      refine thn ((pe_var hN hv hd hcd).run pins s σ H (fun v H1 => v = .ref p ∧ H1 = H) I (go _ rfl _ ⟨rfl, rfl⟩)) fun v s1 ⟨x, H1, I1, r1, e1, e2⟩ => ?_
      subst e1; subst e2; cases r1
      refine it_list I1 (.of h1) (k _ H1 (F.walked p (.lst vs)) Tk.refl (wdn_walked fun u z => ?_) (r.walked h1 h3.1 fun j t g1 g2 g3 => ?_) (fun σ2 H2 env2 ρ2 r2 tk => ?_))
      · have := (r.pr p u z).1
        rw [h1] at this; cases this; rfl
      · by_cases e : i = j
        · subst e
          rw [he] at g1; cases g1; cases g2
        · exact r.dis j i t _ p (Ne.symm e) g1 g2 he rfl g3 hx
      · have kp : Kp F.S0 H1 H2 := ⟨fun b o h z => by
          obtain ⟨o', h'⟩ := z.1
          have e1 := r.base b o' h' z.2.1
          rw [h] at e1; cases e1
          exact r2.base b o h' z.2.1, tk⟩
        have h1' : H2 p = some (.lst vs) := (r2.pr p (.lst vs) (if_pos rfl)).1
        have w := walk_list (K := X.K) (S := fun b => F.S0 b ∨ b = p) (H1 := H2) (.inl ⟨.inl h1', .inr rfl⟩) ((a.kp kp).sub fun _ z => .inl z) H2 Kp.refl
        refine ⟨w.1, w.2.1, fun m x H' hm y => ?_⟩
        obtain ⟨e, y⟩ := y
        subst e
        obtain ⟨d, hd, ad⟩ := (a.kp kp).get' (y vs (.of h1'))
        exact ⟨d, hd, Same.refl _, ad⟩
    | _ => cases hf⟩⟩
end
def forGo (g : D → List SV → Option (List SV)) (body : C) : List D → C
  | [], env, ρ => some (.nx, env, ρ)
  | d :: ds, env, ρ => (g d env).bind fun env' => (body env' ρ).bind fun x => match x with
    | (.nx, env2, ρ2) => forGo g body ds env2 ρ2
    | (.ct, env2, ρ2) => forGo g body ds env2 ρ2
    | (.bk, env2, ρ2) => some (.nx, env2, ρ2)
    | (.rt d, env2, ρ2) => some (.rt d, env2, ρ2)
def cFor (it : EI) (g : D → List SV → Option (List SV)) (body : C) : C := fun env ρ => (it env ρ).bind fun x => forGo g body x.1 x.2.1 x.2.2
def whGo (c : E Bool) (body : C) : Nat → C
  | 0, _, _ => none
  | n + 1, env, ρ => (c env ρ).bind fun t => if t.1 = true then (body env t.2).bind fun x => match x with
      | (.nx, env2, ρ2) => whGo c body n env2 ρ2
      | (.ct, env2, ρ2) => whGo c body n env2 ρ2
      | (.bk, env2, ρ2) => some (.nx, env2, ρ2)
      | (.rt d, env2, ρ2) => some (.rt d, env2, ρ2)
    else some (.nx, env, t.2)
section
variable {X : Cx}
theorem Ret.wdn {K : PySem.W.Frag} {F F' : Frm} (w : Wdn K F F') {H : Hp} {ρ : List D} {v : V} {d : D} (r : Ret K F' H ρ v d) : Ret K F H ρ v d := by
  refine ⟨fun a o h n => r.base a o (by rw [w.h0]; exact h) (by rw [w.r]; exact n), ⟨fun a h => ?_, fun a h => ?_, fun a h => ?_⟩, r.val.sub fun a h => ?_⟩
  · have := r.row.1 a (by rw [w.r]; exact h)
    rwa [w.g] at this
  · have := r.row.2.1 a (by rw [w.ex]; exact h)
    rwa [w.r] at this
  · have := r.row.2.2 a (by rw [w.g]; exact h)
    unfold Frm.S0 Frm.SR at this ⊢
    rwa [w.h0, w.r, w.ex] at this
  · unfold Frm.SR at h ⊢
    rwa [w.h0, w.r, w.ex] at h
theorem s_for {tg iter : Expr} {body : List Stmt} {pos : Pos} {it : EI} {g : D → List SV → Option (List SV)} {cb : C} (hc : X.calm = true) (hi : PIS X tg iter it) (hg : PGS X tg g) (hb : PMSs X body cb) (hp : PassesOwn (model X.prog X.w) X.A X.env X.xe)
    (hs : ∀ x, foldedSetIterable iter X.env x = pure x := by intro _; rfl) : PMS X (.For tg iter body [] pos) (cFor it g cb) := by
  have hg' : PG X tg (fun v σ H Q => ∃ F', tGS X.K F' g v σ H Q) := ⟨fun pins s σ H v u Q I r ⟨F, q⟩ => (hg.pg F).run pins s σ H v u Q I r q⟩
  have hb' : PSs X body (fun D σ H => ∃ F', tS X.K F' cb D σ H) := ⟨fun pins s σ H D I ⟨F, q⟩ => (hb.ps F).run pins s σ H D I q⟩
  refine ⟨fun F => PS.imp (ps_for hp hc (hi.pi F) hg' hb' hs) fun D σ H ⟨env, ρ, o, env', ρ', r, hcc, k⟩ => ?_⟩
  unfold cFor at hcc
  obtain ⟨⟨ds, env1, ρ1⟩, hit, hcc⟩ := Option.bind_eq_some_iff.mp hcc
  refine ⟨env, ρ, ds, env1, ρ1, r, hit, fun J H1 F' tk1 wd r1 ws => ?_⟩
  refine ⟨fun i m σ2 H2 => m = ds.length - i ∧ i ≤ ds.length ∧ ∃ env2 ρ2, Rel X.K F' σ2 H2 env2 ρ2 ∧ Tk H1 H2 ∧ forGo g cb (ds.drop i) env2 ρ2 = some (o, env', ρ'), ⟨ds.length, by simp, Nat.zero_le _, env1, ρ1, r1, Tk.refl, by simpa using hcc⟩, ?_⟩
  rintro i m σ2 H2 ⟨rfl, hi, env2, ρ2, r2, tk2, hgo⟩
  obtain ⟨wgo, wst, wy⟩ := ws σ2 H2 env2 ρ2 r2 tk2
  by_cases hlt : i < ds.length
  case neg =>
    have ei : i = ds.length := by omega
    subst ei
    rw [List.drop_length] at hgo
    cases hgo
    exact .inl ⟨wst, k σ2 H2 (tk1.trans tk2) (wd.back _ _ _ _ r2)⟩
  case pos =>
    refine .inr ⟨wgo i hlt, fun σ3 H3 => ∃ m, m < ds.length - i ∧ (m = ds.length - (i + 1) ∧ i + 1 ≤ ds.length ∧ ∃ env2 ρ2, Rel X.K F' σ3 H3 env2 ρ2 ∧ Tk H1 H3 ∧ forGo g cb (ds.drop (i + 1)) env2 ρ2 = some (o, env', ρ')), fun σ' H' h => h, fun x H3 y => ?_⟩
    obtain ⟨d, hd, sm, ax⟩ := wy i x H3 hlt y
    have ed : ds.drop i = d :: ds.drop (i + 1) := by
      obtain ⟨h1, h2⟩ := List.getElem?_eq_some_iff.mp hd
      rw [List.drop_eq_getElem_cons h1, h2]
    rw [ed] at hgo
    unfold forGo at hgo
    obtain ⟨env3, hg3, hgo⟩ := Option.bind_eq_some_iff.mp hgo
    obtain ⟨⟨o4, env4, ρ4⟩, hb4, hgo⟩ := Option.bind_eq_some_iff.mp hgo
    have r3 : Rel X.K F' σ2 H3 env2 ρ2 := r2.eff (Eff.of_same sm) (r2.row.same sm)
    refine ⟨F', env2, ρ2, d, env3, r3, ax, hg3, fun σ4 r4 => ⟨F', env3, ρ2, o4, env4, ρ4, r4, hb4, ?_⟩⟩
    have tk3 : Tk H1 H3 := tk2.trans (Tk.same sm)
    cases o4 with
    | nx => exact fun σ' H' tk r' => ⟨_, by omega, rfl, by omega, env4, ρ4, r', tk3.trans tk, hgo⟩
    | ct => exact fun σ' H' tk r' => ⟨_, by omega, rfl, by omega, env4, ρ4, r', tk3.trans tk, hgo⟩
    | bk =>
      cases hgo
      exact fun σ' H' tk r' => k σ' H' ((tk1.trans tk3).trans tk) (wd.back _ _ _ _ r')
    | rt d =>
      cases hgo
      exact fun v H' tk r' => k v H' ((tk1.trans tk3).trans tk) (r'.wdn wd)
theorem s_while {c : Expr} {body : List Stmt} {pos : Pos} {fc : E Bool} {cb : C} (n : Nat) (hc : PMT X c fc) (hb : PMSs X body cb) (hp : PassesOwn (model X.prog X.w) X.A X.env X.xe) : PMS X (.While c body [] pos) (whGo fc cb n) := by
  refine ⟨fun F => PS.imp (ps_while hp (hc.pt F) (hb.ps F)) fun D σ H ⟨env, ρ, o, env', ρ', r, hcc, k⟩ => ?_⟩
  refine ⟨fun m σ2 H2 => ∃ env2 ρ2, Rel X.K F σ2 H2 env2 ρ2 ∧ Tk H H2 ∧ whGo fc cb m env2 ρ2 = some (o, env', ρ'), ⟨n, env, ρ, r, Tk.refl, hcc⟩, ?_⟩
  rintro m σ2 H2 ⟨env2, ρ2, r2, tk2, hgo⟩
  cases m with
  | zero => cases hgo
  | succ m =>
    unfold whGo at hgo
    obtain ⟨⟨t, ρ3⟩, ht, hgo⟩ := Option.bind_eq_some_iff.mp hgo
    refine ⟨env2, ρ2, t, ρ3, r2, ht, fun H3 e3 w3 => ?_⟩
    have tk3 := tk2.trans (r2.row.tk e3)
    cases t with
    | false =>
      rw [if_neg (by simp)] at hgo
      show (if false = true then _ else _)
      rw [if_neg (by simp)]
      cases hgo
      exact k σ2 H3 tk3 (r2.eff e3 w3)
    | true =>
      rw [if_pos rfl] at hgo
      show (if true = true then _ else _)
      rw [if_pos rfl]
      obtain ⟨⟨o4, env4, ρ4⟩, hb4, hgo⟩ := Option.bind_eq_some_iff.mp hgo
      refine ⟨fun σ' H' => ∃ m', m' < m + 1 ∧ ∃ env2 ρ2, Rel X.K F σ' H' env2 ρ2 ∧ Tk H H' ∧ whGo fc cb m' env2 ρ2 = some (o, env', ρ'), fun σ' H' h => h, env2, ρ3, o4, env4, ρ4, r2.eff e3 w3, hb4, ?_⟩
      cases o4 with
      | nx => exact fun σ' H' tk r' => ⟨m, by omega, env4, ρ4, r', tk3.trans tk, hgo⟩
      | ct => exact fun σ' H' tk r' => ⟨m, by omega, env4, ρ4, r', tk3.trans tk, hgo⟩
      | bk =>
        cases hgo
        exact fun σ' H' tk r' => k σ' H' (tk3.trans tk) r'
      | rt d =>
        cases hgo
        exact fun v H' tk r' => k v H' (tk3.trans tk) r'
end
end VS
end

section
set_option Elab.async false
set_option linter.all false
set_option maxRecDepth 100000
set_option maxHeartbeats 1000000
/-! sorted, with a void tuple ahead -/
namespace VS0
open PySem PySem.Spec PyProof.Rows PySem.W PySem.Calls PySem.SeqAt
/-- as the library's, or: all are tuples, the first one void -/
def Sortable2 (ds : List PyData) : Prop := Sortable ds ∨ ((∀ d, d ∈ ds → ∃ xs, d = .tuple xs) ∧ ds.head? = some (.tuple []))
section
variable {prog : Program} {w : World} {A : Around} {E : Value → Shared → Prop} {s : Shared}
theorem call_tuple_lt {Q : Value → Shared → Prop} {l b : Addr} {items items2 : Array Value} {e r : Nat → Bool} (hl : s.heap.IsTuple l items) (hb : s.heap.IsTuple b items2)
    (he : ∀ j (h1 : j < items.size) (h2 : j < items2.size), EqAt A.in1 s items[j] items2[j] (e j)) (hr : ∀ j (h1 : j < items.size) (h2 : j < items2.size), e j = false → RcLt A.in1 s items[j] items2[j] (r j))
    (h : Q (.bool (firstLt e r (decide (items.size < items2.size)) (List.range (min items.size items2.size)))) s) : wpAny (model prog w) A (call (.builtin "tuple.__lt__") [.ref l, .ref b]) Q E s := by
  obtain ⟨⟨c1, d1, t1, l1⟩, ho, q1, n, q2⟩ := id hl
  obtain ⟨⟨c2, d2, t2, l2⟩, ho2, q3, n2, q4⟩ := id hb
  simp only at q1 q2 q3 q4; subst q1 q2 q3 q4
  exact call_meets F.slot_tuple_lt ⟨_, ho, rfl⟩ F.entry_tuple_lt (F.args_tuple_lt_2 _ _) (tuple_ltAt l b items items2 n n2 d1 d2 l1 l2 e r) ⟨ho, ho2, he, hr, h⟩
theorem oneLt_tuple {xs ys : List PyData} {a b : Value} {as bs : List Addr} {Q : Bool → Shared → Prop} (ra : Reads s.heap a (.tuple xs) as) (rb : Reads s.heap b (.tuple ys) bs) (h : alike (.tuple xs) (.tuple ys) = true)
    (hu : A.units + min (PyData.tuple xs).depth (PyData.tuple ys).depth < cLine) (hq : Q (dataLt (.tuple xs) (.tuple ys)) s) : wpAny (model prog w) A (oneLt' true a b) Q E s := by
  have hal : alikeAll xs ys = true := by simpa [alike] using h
  cases ra with
  | @tuple l o vs n _ _ h1 h2 h3 h4 =>
    cases rb with
    | @tuple l' o' vs' n' _ _ k1 k2 k3 k4 =>
      have n1 : vs.size = xs.length := by simpa using ReadsAll.length _ _ _ h4
      have n2 : vs'.size = ys.length := by simpa using ReadsAll.length _ _ _ k4
      rw [dataLt_tuple, ← firstLt_toks xs ys hal, ← n1, ← n2] at hq; rw [oneLt'_eq]
      simp only [if_true]; refine wpAny_bind (wpAny_cRoomFor (room_here hu) ?_)
      refine wpAny_bind (wpAny_callSpecialIfBound?_slot (T := "tuple") ⟨_, h1, h2⟩ F.slot_tuple_lt (call_tuple_lt (e := pairEq xs ys) (r := fun j => dataLt (xs.getD j .none) (ys.getD j .none)) ⟨_, h1, h2, _, h3⟩ ⟨_, k1, k2, _, k3⟩ (fun j j1 j2 => ?_) (fun j j1 j2 hj => ?_) ?_))
      · have q := eqAt_alikeAll xs ys A.in1 s vs.toList vs'.toList _ _ h4 k4 hal (room_in hu) j (by simpa using j1) (by simpa using j2); simpa using q
      · have q := rcLt_alikeAll xs ys A.in1 s vs.toList vs'.toList _ _ h4 k4 hal (room_in hu) j (by simpa using j1) (by simpa using j2) hj; simpa using q
      · exact wpAny_truthy_bool hq
/-- what the first of a tuple is, for each -/
theorem firsts_of : ∀ (vs : List Value) (ds : List PyData) {Q : List (Option Value) → Shared → Prop}, EachIs (fun v d => ∃ as, Reads s.heap v d as) vs ds → (∀ d, d ∈ ds → ∃ xs, d = .tuple xs) →
    (∀ fs : List (Option Value), fs.length = vs.length → (ds.head? = some (.tuple []) → fs.head? = some none) → Q fs s) → wpAny (model prog w) A (vs.mapM firstOfTuple') Q E s
  | _, _, Q, .nil, _, h => by
    rw [List.mapM_nil]
    exact wpAny_pure (h [] rfl fun e => (by cases e))
  | _, _, Q, .cons (a := v) (as := vs) (b := d) (bs := ds) ⟨as, r⟩ t, ht, h => by
    obtain ⟨xs, rfl⟩ := ht d (List.mem_cons_self ..)
    cases r with
    | @tuple a o its n _ _ ho hc hd hr =>
      rw [List.mapM_cons]; refine wpAny_bind ?_
      rw [kas_first_eq]; refine wpAny_bind (Looks.here (show Looks (model prog w) s.heap (typeOf (.ref a)) o.cls from (Looks.ld ho).andThen .now) ?_)
      rw [hc, if_neg (by simp)]
      refine wpAny_bind (listItems_at ho hd (wpAny_pure ?_))
      refine wpAny_bind (firsts_of vs ds (Q := fun bs s' => wpAny (model prog w) A (pure (its[0]? :: bs)) Q E s') t (fun d hd => ht d (List.mem_cons_of_mem _ hd)) fun fs hl _ => wpAny_pure (h _ (by simp [hl]) fun e => ?_))
      have e : xs = [] := by simpa using e
      subst e
      have z : its.toList = [] := by
        cases q : its.toList with
        | nil => rfl
        | cons f fr => rw [q] at hr; cases hr
      have z2 : its[0]? = none := by rw [← Array.getElem?_toList, z] <;> rfl
      rw [z2] <;> rfl
theorem kind_void {vs : List Value} {ds : List PyData} {Q : SortKind → Shared → Prop} (h2 : 2 ≤ vs.length) (e : EachIs (fun v d => ∃ as, Reads s.heap v d as) vs ds) (ht : ∀ d, d ∈ ds → ∃ xs, d = .tuple xs) (h0 : ds.head? = some (.tuple [])) (h : Q oneType' s) :
    wpAny (model prog w) A (keyKind' vs.toArray) Q E s := by
  rw [keyKind'_eq, List.mapM_toArray, map_eq_pure_bind]
  refine wpAny_bind (wpAny_bind (firsts_of vs ds e ht fun fs hl hz => wpAny_pure ?_))
  have hz := hz h0
  have f0 : ∃ r, fs = none :: r := by
    cases fs with
    | nil => cases hz
    | cons f r =>
      have : f = none := by simpa using hz
      exact ⟨r, by rw [this]⟩
  obtain ⟨r, rfl⟩ := f0
  rw [if_neg (by simp), if_neg (by simp)]
  have hT : ∀ v ∈ vs, Looks (model prog w) s.heap (typeOf v) (Value.type "tuple") := fun v hv => by
    obtain ⟨d, hd, as, q⟩ := e.left v hv
    obtain ⟨xs, rfl⟩ := ht d hd
    exact looks_reads q
  obtain ⟨v1, vr, rfl⟩ : ∃ v1 vr, vs = v1 :: vr := by
    cases vs with
    | nil => simp at h2
    | cons v1 vr => exact ⟨v1, vr, rfl⟩
  rw [oneTypeOnly'_eq, List.mapM_toArray, map_eq_pure_bind]
  refine wpAny_bind (wpAny_bind (wpAny_bind (kas_mapM (r := Value.type "tuple") _ (fun v hv Q' hq => (hT v hv).here hq) (wpAny_pure ?_))))
  have hall : ((List.map (fun _ => Value.type "tuple") (v1 :: vr)).toArray.all fun x => x == Value.type "tuple") = true := by
    simp only [List.all_toArray, List.all_map, List.all_eq_true]; intro _ _
    show (Value.type "tuple" == Value.type "tuple") = true
    decide
  have g0 : (List.map (fun _ => Value.type "tuple") (v1 :: vr)).toArray[0]? = some (Value.type "tuple") := by simp
  rw [g0]
  simp only []
  rw [if_pos hall]
  refine wpAny_pure ?_
  rw [if_pos (by rfl)]
  exact wpAny_pure h
theorem sortsAt2 {vs : List Value} {ds : List PyData} (e : EachIs (fun v d => ∃ as, Reads s.heap v d as) vs ds) (hal : AllAlike ds) (hk : Sortable2 ds) (hu : ∀ d, d ∈ ds → A.units + d.depth < cLine) : SortsAt prog w A s (dataKind s.heap ds) vs := by
  rcases hk with hk | ⟨ht, h0⟩
  · exact SortsAt.data e hal hk hu
  · refine ⟨fun v hv => ?_, oneType', ?_, fun h2 E Q hq => kind_void h2 e ht h0 hq⟩
    · obtain ⟨d, hd, as, r⟩ := e.left v hv
      exact ⟨_, dataKind_some hal hd r⟩
    · intro E x y a b Q ha hb hq
      obtain ⟨d, as, hd, ra, rfl⟩ := dataKind_inv ha
      obtain ⟨d', as', hd', rb, rfl⟩ := dataKind_inv hb
      rw [keyLt'_oneType]
      obtain ⟨xs, rfl⟩ := ht d hd
      obtain ⟨ys, rfl⟩ := ht d' hd'
      exact oneLt_tuple ra rb (hal _ hd _ hd') (Nat.lt_of_le_of_lt (Nat.add_le_add_left (Nat.min_le_left _ _) _) (hu _ hd)) hq
variable {β : Type} {vs : List Value} {bs : List β} {enc : β → PyData} {R : Value → β → Prop}
/-- xs.sort() -/
theorem list_sort2 {a : Addr} {n : Nat} {Q : Value → Shared → Prop} (ho : s.heap.get? a = some (seqObj "list" vs.toArray n)) (e : EachIs R vs bs) (er : EachIs (fun v b => ∃ as, Reads s.heap v (enc b) as ∧ a ∉ as) vs bs) (hal : AllAlike (bs.map enc)) (hk : Sortable2 (bs.map enc))
    (hL : bs.length ≤ sizeLine) (hu : ∀ b, b ∈ bs → A.units + 1 + (enc b).depth < cLine) (h : ∀ out, out.length = bs.length → EachIs R out (bs.mergeSort (dataLe false enc)) → Q .none { s with heap := sortedHeap s.heap a vs (List.toArray out) }) :
    wpAny (model prog w) A (call (.builtin "list.sort") [.ref a]) Q E s := by
  have q : EachIs (fun v b => ∃ as, Reads (sortingHeap s.heap a vs) v (enc b) as) vs bs := each_keepBut (h' := sortingHeap s.heap a vs) (fun _ _ hb q => sortingHeap_old hb q) (fun o q => by rw [ho] at q; rw [← Option.some.inj q] <;> rfl) hal er
  refine wpAny_call_entry slot_list_sort ⟨_, ho, rfl⟩ entry_list_sort (list_sort_vals (κ := dataKind (sortingHeap s.heap a vs) (bs.map enc)) ho (sortsAt2 (s := { s with heap := sortingHeap s.heap a vs }) (each_map (R := fun v d => ∃ as, Reads (sortingHeap s.heap a vs) v d as) enc q) hal hk (bound_map hu)) (by rw [e.length]; exact hL) ⟨.none, rfl, ?_⟩) (args_list_sort _)
  exact h _ (by rw [sortVals_length false rfl]; exact e.length) (sortVals_data false e q hal)
end
end VS0
end

section
set_option Elab.async false
set_option linter.all false
set_option maxRecDepth 100000
set_option maxHeartbeats 1000000
namespace VS
open PySem PySem.Spec PyProof.Rows L2

/-! ## the order of data: ints, tuples -/
mutual
def D.lt : D → D → Bool
  | .int i, .int j => decide (i < j)
  | .tup xs, .tup ys => D.lts xs ys
  | _, _ => false
def D.lts : List D → List D → Bool
  | _, [] => false
  | [], _ :: _ => true
  | x :: xs, y :: ys => if D.eqv x y = true then D.lts xs ys else D.lt x y
end
mutual
/-- may be compared -/
def D.ord : D → D → Bool
  | .int _, .int _ => true
  | .tup xs, .tup ys => D.ords xs ys
  | _, _ => false
def D.ords : List D → List D → Bool
  | _, [] => true
  | [], _ :: _ => true
  | x :: xs, y :: ys => D.ord x y && D.ords xs ys
end
mutual
theorem ord_py : ∀ {d e : D} {p q : PyData}, d.ord e = true → d.py = some p → e.py = some q → PySem.W.alike p q = true ∧ PySem.W.dataLt p q = d.lt e ∧ p ≠ .none
  | .int i, .int j, p, q, _, h1, h2 => by
    simp only [D.py, Option.some.injEq] at h1 h2
    subst h1; subst h2
    exact ⟨by simp [PySem.W.alike], by rw [PySem.W.dataLt_int]; simp [D.lt], by simp⟩
  | .tup xs, .tup ys, p, q, h, h1, h2 => by
    simp only [D.py, Option.map_eq_some_iff] at h1 h2
    obtain ⟨ps, h1, rfl⟩ := h1
    obtain ⟨qs, h2, rfl⟩ := h2
    obtain ⟨g1, g2⟩ := ords_py (by simpa [D.ord] using h) h1 h2
    exact ⟨by simpa [PySem.W.alike] using g1, by rw [PySem.W.dataLt_tuple, g2]; simp [D.lt], by simp⟩
  | .non, _, _, _, h, _, _ => by simp [D.ord] at h
  | .bl _, _, _, _, h, _, _ => by simp [D.ord] at h
  | .str _, _, _, _, h, _, _ => by simp [D.ord] at h
  | .lst _, _, _, _, h, _, _ => by simp [D.ord] at h
  | .dic _, _, _, _, h, _, _ => by simp [D.ord] at h
  | .st _, _, _, _, h, _, _ => by simp [D.ord] at h
  | .int _, .non, _, _, h, _, _ => by simp [D.ord] at h
  | .int _, .bl _, _, _, h, _, _ => by simp [D.ord] at h
  | .int _, .str _, _, _, h, _, _ => by simp [D.ord] at h
  | .int _, .tup _, _, _, h, _, _ => by simp [D.ord] at h
  | .int _, .lst _, _, _, h, _, _ => by simp [D.ord] at h
  | .int _, .dic _, _, _, h, _, _ => by simp [D.ord] at h
  | .int _, .st _, _, _, h, _, _ => by simp [D.ord] at h
  | .tup _, .non, _, _, h, _, _ => by simp [D.ord] at h
  | .tup _, .bl _, _, _, h, _, _ => by simp [D.ord] at h
  | .tup _, .str _, _, _, h, _, _ => by simp [D.ord] at h
  | .tup _, .int _, _, _, h, _, _ => by simp [D.ord] at h
  | .tup _, .lst _, _, _, h, _, _ => by simp [D.ord] at h
  | .tup _, .dic _, _, _, h, _, _ => by simp [D.ord] at h
  | .tup _, .st _, _, _, h, _, _ => by simp [D.ord] at h
theorem ords_py : ∀ {ds es : List D} {ps qs : List PyData}, D.ords ds es = true → D.pys ds = some ps → D.pys es = some qs → PySem.W.alikeAll ps qs = true ∧ PyProof.Rows.lexLt PyProof.Rows.itemOrd (PySem.W.keyToksAll ps) (PySem.W.keyToksAll qs) = D.lts ds es
  | ds, [], ps, qs, h, h1, h2 => by
    simp only [D.pys, Option.some.injEq] at h2
    subst h2
    refine ⟨by cases ps <;> simp [PySem.W.alikeAll], ?_⟩
    cases ps with
    | nil =>
      have : PyProof.Rows.lexLt PyProof.Rows.itemOrd (PySem.W.keyToksAll []) (PySem.W.keyToksAll []) = false := lex_irrefl _
      rw [this]
      cases ds <;> simp [D.lts]
    | cons p ps =>
      rw [PySem.W.toks_all_cons]
      simp only [PySem.W.keyToksAll]
      rw [PyProof.Rows.lex_diff (O := PyProof.Rows.itemOrd) (by simp)]
      cases ds <;> simp only [D.lts] <;> rfl
  | [], e :: es, ps, qs, h, h1, h2 => by
    simp only [D.pys, Option.some.injEq, Option.bind_eq_some_iff, Option.map_eq_some_iff] at h1 h2
    obtain ⟨q, _, qs', _, rfl⟩ := h2
    subst h1
    refine ⟨by simp [PySem.W.alikeAll], ?_⟩
    rw [PySem.W.toks_all_cons]
    simp only [PySem.W.keyToksAll]
    rw [PyProof.Rows.lex_diff (O := PyProof.Rows.itemOrd) (by simp)]
    simp only [D.lts]
    rfl
  | d :: ds, e :: es, ps, qs, h, h1, h2 => by
    simp only [D.pys, Option.bind_eq_some_iff, Option.map_eq_some_iff] at h1 h2
    obtain ⟨p, hp, ps', hps, rfl⟩ := h1
    obtain ⟨q, hq, qs', hqs, rfl⟩ := h2
    simp only [D.ords, Bool.and_eq_true] at h
    obtain ⟨g1, g2, _⟩ := ord_py h.1 hp hq
    obtain ⟨g3, g4⟩ := ords_py h.2 hps hqs
    refine ⟨by simp [PySem.W.alikeAll, g1, g3], ?_⟩
    rw [PySem.W.dataLt_cons g1, eqv_py hp hq, g4, g2]
    simp only [D.lts]
end
/-- upwards -/
def D.le (d e : D) : Bool := !(e.lt d)
/-- all may be compared, are no dicts, not too deep; no void tuple, or no tuple at all, or tuples with a void one ahead -/
def sortOk (ds : List D) : Bool := decide (ds.length ≤ 1000000) && ds.all (fun d => d.okN 50 && ds.all fun e => d.ord e) &&
  (ds.all (fun d => match d with | .tup (_ :: _) => true | _ => false) || (ds.all (fun d => match d with | .int _ => true | _ => false) ||
    (ds.all (fun d => match d with | .tup _ => true | _ => false) && match ds with | .tup [] :: _ => true | _ => false)))
def insD (d : D) : List D → List D
  | [] => [d]
  | e :: es => if D.le d e = true then d :: e :: es else e :: insD d es
def isort : List D → List D
  | [] => []
  | d :: ds => insD d (isort ds)
def sortL (ds : List D) : Option (List D) := if sortOk ds = true then some (isort ds) else none

/-! ### the sort itself -/
def pyT (d : D) : PyData := d.py.getD .none
theorem sortOk_spec {ds : List D} (h : sortOk ds = true) : ds.length ≤ 1000000 ∧ (∀ d ∈ ds, ∃ p, d.py = some p ∧ p.depth ≤ 50) ∧ (∀ d ∈ ds, ∀ e ∈ ds, d.ord e = true) ∧ VS0.Sortable2 (ds.map pyT) := by
  unfold sortOk at h
  simp only [Bool.and_eq_true, Bool.or_eq_true, decide_eq_true_eq, List.all_eq_true] at h
  obtain ⟨⟨h1, h2⟩, h3⟩ := h
  refine ⟨h1, fun d hd => ?_, fun d hd e he => (h2 d hd).2 e he, ?_⟩
  · obtain ⟨p, a, _, b⟩ := ok_py (h2 d hd).1
    exact ⟨p, a, b⟩
  · rcases h3 with h3 | h3 | h3
    · refine .inl (.inl fun p hp => ?_)
      obtain ⟨d, hd, rfl⟩ := List.mem_map.mp hp
      have := h3 d hd
      obtain ⟨p, a, _⟩ := ok_py (h2 d hd).1
      cases d with
      | tup xs =>
        cases xs with
        | nil => simp at this
        | cons x xs =>
          unfold pyT
          rw [a]
          simp only [D.py, D.pys, Option.map_eq_some_iff, Option.bind_eq_some_iff] at a
          obtain ⟨ps, ⟨q, _, qs, _, rfl⟩, rfl⟩ := a
          exact ⟨_, _, rfl⟩
      | _ => simp at this
    · refine .inl (.inr fun p hp => ?_)
      obtain ⟨d, hd, rfl⟩ := List.mem_map.mp hp
      have := h3 d hd
      cases d with
      | int i => exact ⟨by simp [pyT, D.py], by simp [pyT, D.py]⟩
      | _ => simp at this
    · refine .inr ⟨fun p hp => ?_, ?_⟩
      · obtain ⟨d, hd, rfl⟩ := List.mem_map.mp hp
        have := h3.1 d hd
        obtain ⟨p, a, _⟩ := ok_py (h2 d hd).1
        cases d with
        | tup xs =>
          unfold pyT
          rw [a]
          simp only [D.py, Option.map_eq_some_iff] at a
          obtain ⟨ps, _, rfl⟩ := a
          exact ⟨_, rfl⟩
        | _ => simp at this
      · have := h3.2
        cases ds with
        | nil => simp at this
        | cons d ds =>
          cases d with
          | tup xs =>
            cases xs with
            | nil => rfl
            | cons _ _ => simp at this
          | _ => simp at this
theorem py_T {d : D} {p : PyData} (h : d.py = some p) : pyT d = p := by unfold pyT; rw [h]; rfl
theorem sort_alike {ds : List D} (h : sortOk ds = true) : PySem.W.AllAlike (ds.map pyT) := by
  obtain ⟨_, h2, h3, _⟩ := sortOk_spec h
  intro p hp q hq
  obtain ⟨d, hd, rfl⟩ := List.mem_map.mp hp
  obtain ⟨e, he, rfl⟩ := List.mem_map.mp hq
  obtain ⟨p, a, _⟩ := h2 d hd
  obtain ⟨q, b, _⟩ := h2 e he
  rw [py_T a, py_T b]
  exact (ord_py (h3 d hd e he) a b).1
mutual
theorem ord_eqv : ∀ {d e : D}, d.ord e = true → d.eqv e = true → d = e
  | .int i, .int j, _, h => by simp only [D.eqv, beq_iff_eq] at h; rw [h]
  | .tup xs, .tup ys, o, h => by
    rw [ords_eqv (ds := xs) (es := ys) (by simpa [D.ord] using o) (by simpa [D.eqv] using h)]
  | .non, _, o, _ => by simp [D.ord] at o
  | .bl _, _, o, _ => by simp [D.ord] at o
  | .str _, _, o, _ => by simp [D.ord] at o
  | .lst _, _, o, _ => by simp [D.ord] at o
  | .dic _, _, o, _ => by simp [D.ord] at o
  | .st _, _, o, _ => by simp [D.ord] at o
  | .int _, .non, o, _ => by simp [D.ord] at o
  | .int _, .bl _, o, _ => by simp [D.ord] at o
  | .int _, .str _, o, _ => by simp [D.ord] at o
  | .int _, .tup _, o, _ => by simp [D.ord] at o
  | .int _, .lst _, o, _ => by simp [D.ord] at o
  | .int _, .dic _, o, _ => by simp [D.ord] at o
  | .int _, .st _, o, _ => by simp [D.ord] at o
  | .tup _, .non, o, _ => by simp [D.ord] at o
  | .tup _, .bl _, o, _ => by simp [D.ord] at o
  | .tup _, .str _, o, _ => by simp [D.ord] at o
  | .tup _, .int _, o, _ => by simp [D.ord] at o
  | .tup _, .lst _, o, _ => by simp [D.ord] at o
  | .tup _, .dic _, o, _ => by simp [D.ord] at o
  | .tup _, .st _, o, _ => by simp [D.ord] at o
theorem ords_eqv : ∀ {ds es : List D}, D.ords ds es = true → D.eqvs ds es = true → ds = es
  | [], [], _, _ => rfl
  | [], _ :: _, _, h => by simp [D.eqvs] at h
  | _ :: _, [], _, h => by simp [D.eqvs] at h
  | x :: xs, y :: ys, o, h => by
    simp only [D.ords, D.eqvs, Bool.and_eq_true] at o h
    rw [ord_eqv o.1 h.1, ords_eqv o.2 h.2]
end
theorem eqv_symm_py {d e : D} {p q : PyData} (h1 : d.py = some p) (h2 : e.py = some q) (o : d.ord e = true) (o' : e.ord d = true) : d.eqv e = e.eqv d := by
  cases h : d.eqv e with
  | true => have e' := ord_eqv o h; subst e'; exact h.symm
  | false =>
    cases g : e.eqv d with
    | false => rfl
    | true => have e' := ord_eqv o' g; subst e'; rw [g] at h; cases h
mutual
theorem ord_sym : ∀ {d e : D}, d.ord e = true → e.ord d = true
  | .int i, .int j, _ => by simp [D.ord]
  | .tup xs, .tup ys, o => by
    have := ords_sym (ds := xs) (es := ys) (by simpa [D.ord] using o)
    simpa [D.ord] using this
  | .non, _, o => by simp [D.ord] at o
  | .bl _, _, o => by simp [D.ord] at o
  | .str _, _, o => by simp [D.ord] at o
  | .lst _, _, o => by simp [D.ord] at o
  | .dic _, _, o => by simp [D.ord] at o
  | .st _, _, o => by simp [D.ord] at o
  | .int _, .non, o => by simp [D.ord] at o
  | .int _, .bl _, o => by simp [D.ord] at o
  | .int _, .str _, o => by simp [D.ord] at o
  | .int _, .tup _, o => by simp [D.ord] at o
  | .int _, .lst _, o => by simp [D.ord] at o
  | .int _, .dic _, o => by simp [D.ord] at o
  | .int _, .st _, o => by simp [D.ord] at o
  | .tup _, .non, o => by simp [D.ord] at o
  | .tup _, .bl _, o => by simp [D.ord] at o
  | .tup _, .str _, o => by simp [D.ord] at o
  | .tup _, .int _, o => by simp [D.ord] at o
  | .tup _, .lst _, o => by simp [D.ord] at o
  | .tup _, .dic _, o => by simp [D.ord] at o
  | .tup _, .st _, o => by simp [D.ord] at o
theorem ords_sym : ∀ {ds es : List D}, D.ords ds es = true → D.ords es ds = true
  | [], [], _ => rfl
  | [], _ :: _, _ => by simp [D.ords]
  | _ :: _, [], _ => by simp [D.ords]
  | x :: xs, y :: ys, o => by
    simp only [D.ords, Bool.and_eq_true] at o ⊢
    exact ⟨ord_sym o.1, ords_sym o.2⟩
end
mutual
theorem lt_asym : ∀ {d e : D}, d.ord e = true → d.lt e = true → e.lt d = false
  | .int i, .int j, _, h => by
    simp only [D.lt, decide_eq_true_eq, decide_eq_false_iff_not] at h ⊢
    omega
  | .tup xs, .tup ys, o, h => by
    have := lts_asym (ds := xs) (es := ys) (by simpa [D.ord] using o) (by simpa [D.lt] using h)
    simpa [D.lt] using this
  | .non, _, _, h => by simp [D.lt] at h
  | .bl _, _, _, h => by simp [D.lt] at h
  | .str _, _, _, h => by simp [D.lt] at h
  | .lst _, _, _, h => by simp [D.lt] at h
  | .dic _, _, _, h => by simp [D.lt] at h
  | .st _, _, _, h => by simp [D.lt] at h
  | .int _, .non, _, h => by simp [D.lt] at h
  | .int _, .bl _, _, h => by simp [D.lt] at h
  | .int _, .str _, _, h => by simp [D.lt] at h
  | .int _, .tup _, _, h => by simp [D.lt] at h
  | .int _, .lst _, _, h => by simp [D.lt] at h
  | .int _, .dic _, _, h => by simp [D.lt] at h
  | .int _, .st _, _, h => by simp [D.lt] at h
  | .tup _, .non, _, h => by simp [D.lt] at h
  | .tup _, .bl _, _, h => by simp [D.lt] at h
  | .tup _, .str _, _, h => by simp [D.lt] at h
  | .tup _, .int _, _, h => by simp [D.lt] at h
  | .tup _, .lst _, _, h => by simp [D.lt] at h
  | .tup _, .dic _, _, h => by simp [D.lt] at h
  | .tup _, .st _, _, h => by simp [D.lt] at h
theorem lts_asym : ∀ {ds es : List D}, D.ords ds es = true → D.lts ds es = true → D.lts es ds = false
  | _, [], _, h => by simp [D.lts] at h
  | [], _ :: _, _, _ => by simp [D.lts]
  | x :: xs, y :: ys, o, h => by
    simp only [D.ords, Bool.and_eq_true] at o
    simp only [D.lts] at h ⊢
    by_cases e : D.eqv x y = true
    · have e' := ord_eqv o.1 e
      subst e'
      rw [if_pos e] at h ⊢
      exact lts_asym o.2 h
    · rw [if_neg e] at h
      have e2 : ¬ D.eqv y x = true := fun g => by
        have e' := ord_eqv (ord_sym o.1) g
        subst e'
        exact e g
      rw [if_neg e2]
      exact lt_asym o.1 h
end
mutual
theorem lt_tri : ∀ {d e : D}, d.ord e = true → d.lt e = false → e.lt d = false → d = e
  | .int i, .int j, _, h, g => by
    simp only [D.lt, decide_eq_false_iff_not] at h g
    rw [show i = j by omega]
  | .tup xs, .tup ys, o, h, g => by
    rw [lts_tri (ds := xs) (es := ys) (by simpa [D.ord] using o) (by simpa [D.lt] using h) (by simpa [D.lt] using g)]
  | .non, _, o, _, _ => by simp [D.ord] at o
  | .bl _, _, o, _, _ => by simp [D.ord] at o
  | .str _, _, o, _, _ => by simp [D.ord] at o
  | .lst _, _, o, _, _ => by simp [D.ord] at o
  | .dic _, _, o, _, _ => by simp [D.ord] at o
  | .st _, _, o, _, _ => by simp [D.ord] at o
  | .int _, .non, o, _, _ => by simp [D.ord] at o
  | .int _, .bl _, o, _, _ => by simp [D.ord] at o
  | .int _, .str _, o, _, _ => by simp [D.ord] at o
  | .int _, .tup _, o, _, _ => by simp [D.ord] at o
  | .int _, .lst _, o, _, _ => by simp [D.ord] at o
  | .int _, .dic _, o, _, _ => by simp [D.ord] at o
  | .int _, .st _, o, _, _ => by simp [D.ord] at o
  | .tup _, .non, o, _, _ => by simp [D.ord] at o
  | .tup _, .bl _, o, _, _ => by simp [D.ord] at o
  | .tup _, .str _, o, _, _ => by simp [D.ord] at o
  | .tup _, .int _, o, _, _ => by simp [D.ord] at o
  | .tup _, .lst _, o, _, _ => by simp [D.ord] at o
  | .tup _, .dic _, o, _, _ => by simp [D.ord] at o
  | .tup _, .st _, o, _, _ => by simp [D.ord] at o
theorem lts_tri : ∀ {ds es : List D}, D.ords ds es = true → D.lts ds es = false → D.lts es ds = false → ds = es
  | [], [], _, _, _ => rfl
  | [], _ :: _, _, h, _ => by simp [D.lts] at h
  | _ :: _, [], _, _, h => by simp [D.lts] at h
  | x :: xs, y :: ys, o, h, g => by
    simp only [D.ords, Bool.and_eq_true] at o
    simp only [D.lts] at h g
    by_cases e : D.eqv x y = true
    · have e' := ord_eqv o.1 e
      subst e'
      rw [if_pos e] at h g
      rw [lts_tri o.2 h g]
    · exfalso
      have e2 : ¬ D.eqv y x = true := fun g => by
        have e' := ord_eqv (ord_sym o.1) g
        subst e'
        exact e g
      rw [if_neg e] at h
      rw [if_neg e2] at g
      have e' := lt_tri o.1 h g
      subst e'
      -- x = y, yet not eqv: cannot be for ordered data
      exact e (eqv_refl_ord o.1)
theorem eqv_refl_ord : ∀ {d : D}, d.ord d = true → d.eqv d = true
  | .int i, _ => by simp [D.eqv]
  | .tup xs, o => by
    have := eqvs_refl_ord (ds := xs) (by simpa [D.ord] using o)
    simpa [D.eqv] using this
  | .non, o => by simp [D.ord] at o
  | .bl _, o => by simp [D.ord] at o
  | .str _, o => by simp [D.ord] at o
  | .lst _, o => by simp [D.ord] at o
  | .dic _, o => by simp [D.ord] at o
  | .st _, o => by simp [D.ord] at o
theorem eqvs_refl_ord : ∀ {ds : List D}, D.ords ds ds = true → D.eqvs ds ds = true
  | [], _ => rfl
  | x :: xs, o => by
    simp only [D.ords, Bool.and_eq_true] at o
    simp only [D.eqvs, Bool.and_eq_true]
    exact ⟨eqv_refl_ord o.1, eqvs_refl_ord o.2⟩
end
mutual
theorem lt_trans : ∀ {a b c : D}, a.ord b = true → b.ord c = true → a.ord c = true → a.lt b = true → b.lt c = true → a.lt c = true
  | .int i, .int j, .int k, _, _, _, h, g => by
    simp only [D.lt, decide_eq_true_eq] at h g ⊢
    omega
  | .tup xs, .tup ys, .tup zs, o1, o2, o3, h, g => by
    have := lts_trans (as := xs) (bs := ys) (cs := zs) (by simpa [D.ord] using o1) (by simpa [D.ord] using o2) (by simpa [D.ord] using o3) (by simpa [D.lt] using h) (by simpa [D.lt] using g)
    simpa [D.lt] using this
  | a, b, c, o1, o2, o3, h, g => by
    cases a <;> cases b <;> simp only [D.lt, Bool.false_eq_true] at h <;> cases c <;> simp only [D.lt, Bool.false_eq_true] at g
    · simp only [D.lt, decide_eq_true_eq] at h g ⊢
      omega
    · rename_i xs ys zs
      have := lts_trans (as := xs) (bs := ys) (cs := zs) (by simpa [D.ord] using o1) (by simpa [D.ord] using o2) (by simpa [D.ord] using o3) (by simpa [D.lt] using h) (by simpa [D.lt] using g)
      simpa [D.lt] using this
theorem lts_trans : ∀ {as bs cs : List D}, D.ords as bs = true → D.ords bs cs = true → D.ords as cs = true → D.lts as bs = true → D.lts bs cs = true → D.lts as cs = true
  | _, [], _, _, _, _, h, _ => by simp [D.lts] at h
  | _, _ :: _, [], _, _, _, _, g => by simp [D.lts] at g
  | [], _ :: _, _ :: _, _, _, _, _, _ => by simp [D.lts]
  | x :: xs, y :: ys, z :: zs, o1, o2, o3, h, g => by
    simp only [D.ords, Bool.and_eq_true] at o1 o2 o3
    simp only [D.lts] at h g ⊢
    by_cases e1 : D.eqv x y = true
    · have e' := ord_eqv o1.1 e1
      subst e'
      rw [if_pos e1] at h
      by_cases e2 : D.eqv x z = true
      · rw [if_pos e2] at g ⊢
        exact lts_trans o1.2 o2.2 o3.2 h g
      · rw [if_neg e2] at g ⊢
        exact g
    · rw [if_neg e1] at h
      by_cases e2 : D.eqv y z = true
      · have e' := ord_eqv o2.1 e2
        subst e'
        rw [if_neg e1]
        exact h
      · rw [if_neg e2] at g
        have t := lt_trans o1.1 o2.1 o3.1 h g
        have e3 : ¬ D.eqv x z = true := fun e => by
          have e' := ord_eqv o3.1 e
          subst e'
          have := lt_asym o1.1 h
          rw [this] at g; cases g
        rw [if_neg e3]
        exact t
end
theorem le_total {d e : D} (o : d.ord e = true) : D.le d e = true ∨ D.le e d = true := by
  unfold D.le
  cases h : e.lt d with
  | false => exact .inl rfl
  | true => exact .inr (by rw [lt_asym (ord_sym o) h]; rfl)
theorem le_anti {d e : D} (o : d.ord e = true) (h : D.le d e = true) (g : D.le e d = true) : d = e := by
  unfold D.le at h g
  exact lt_tri o (by simpa using g) (by simpa using h)
theorem le_trans {a b c : D} (o1 : a.ord b = true) (o2 : b.ord c = true) (o3 : a.ord c = true) (h : D.le a b = true) (g : D.le b c = true) : D.le a c = true := by
  unfold D.le at h g ⊢
  have h : b.lt a = false := by simpa using h
  have g : c.lt b = false := by simpa using g
  cases e : c.lt a with
  | false => rfl
  | true =>
    exfalso
    -- c < a; a ≤ b
    cases f : a.lt b with
    | true =>
      have := lt_trans (ord_sym o3) o1 (ord_sym o2) e f
      rw [this] at g; cases g
    | false =>
      have := lt_tri o1 f h
      subst this
      rw [e] at g; cases g
abbrev OrdAll (ds : List D) : Prop := ∀ d ∈ ds, ∀ e ∈ ds, d.ord e = true
theorem insD_perm (d : D) : ∀ ds : List D, (insD d ds).Perm (d :: ds)
  | [] => List.Perm.refl _
  | e :: es => by
    unfold insD
    split
    · exact List.Perm.refl _
    · exact ((insD_perm d es).cons e).trans (List.Perm.swap d e es)
theorem isort_perm : ∀ ds : List D, (isort ds).Perm ds
  | [] => List.Perm.refl _
  | d :: ds => (insD_perm d (isort ds)).trans ((isort_perm ds).cons d)
theorem insD_srt {d : D} : ∀ {ds : List D}, OrdAll (d :: ds) → ds.Pairwise (fun a b => D.le a b = true) → (insD d ds).Pairwise (fun a b => D.le a b = true)
  | [], _, _ => List.pairwise_singleton _ _
  | e :: es, o, h => by
    obtain ⟨h1, h2⟩ := List.pairwise_cons.mp h
    have ode : d.ord e = true := o d (by simp) e (by simp)
    unfold insD
    split
    · rename_i c
      refine List.pairwise_cons.mpr ⟨fun x hx => ?_, h⟩
      rcases List.mem_cons.mp hx with rfl | hx
      · exact c
      · exact le_trans ode (o e (by simp) x (by simp [hx])) (o d (by simp) x (by simp [hx])) c (h1 x hx)
    · rename_i c
      have c' : D.le e d = true := (le_total ode).resolve_left c
      refine List.pairwise_cons.mpr ⟨fun x hx => ?_, insD_srt (fun a ha b hb => o a ?_ b ?_) h2⟩
      · rcases List.mem_cons.mp ((insD_perm d es).mem_iff.mp hx) with rfl | hx
        · exact c'
        · exact h1 x hx
      · rcases List.mem_cons.mp ha with rfl | ha
        · simp
        · simp [ha]
      · rcases List.mem_cons.mp hb with rfl | hb
        · simp
        · simp [hb]
theorem isort_srt : ∀ {ds : List D}, OrdAll ds → (isort ds).Pairwise (fun a b => D.le a b = true)
  | [], _ => List.Pairwise.nil
  | d :: ds, o => by
    refine insD_srt (fun a ha b hb => o a ?_ b ?_) (isort_srt fun a ha b hb => o a (by simp [ha]) b (by simp [hb]))
    · rcases List.mem_cons.mp ha with rfl | ha
      · simp
      · simp [(isort_perm ds).mem_iff.mp ha]
    · rcases List.mem_cons.mp hb with rfl | hb
      · simp
      · simp [(isort_perm ds).mem_iff.mp hb]
theorem srt_uniq : ∀ {xs ys : List D}, OrdAll xs → xs.Perm ys → xs.Pairwise (fun a b => D.le a b = true) → ys.Pairwise (fun a b => D.le a b = true) → xs = ys
  | [], ys, _, p, _, _ => (List.nil_perm.mp p).symm
  | x :: xs, [], _, p, _, _ => (List.perm_nil.mp p)
  | x :: xs, y :: ys, o, p, h, g => by
    obtain ⟨h1, h2⟩ := List.pairwise_cons.mp h
    obtain ⟨g1, g2⟩ := List.pairwise_cons.mp g
    have hy : y ∈ x :: xs := p.mem_iff.mpr (by simp)
    have hx : x ∈ y :: ys := p.mem_iff.mp (by simp)
    have e : x = y := by
      rcases List.mem_cons.mp hy with e | hy'
      · exact e.symm
      · rcases List.mem_cons.mp hx with e | hx'
        · exact e
        · exact le_anti (o x (by simp) y hy) (h1 y hy') (g1 x hx')
    subst e
    rw [srt_uniq (fun a ha b hb => o a (by simp [ha]) b (by simp [hb])) (List.Perm.cons_inv p) h2 g2]
theorem isort_eq {ds zs : List D} (o : OrdAll ds) (p : zs.Perm ds) (h : zs.Pairwise (fun a b => D.le a b = true)) : isort ds = zs :=
  srt_uniq (fun a ha b hb => o a ((isort_perm ds).mem_iff.mp ha) b ((isort_perm ds).mem_iff.mp hb)) ((isort_perm ds).trans p.symm) (isort_srt o) h
/-- what sorting gives, said at last -/
theorem sortL_eq {ds zs : List D} (o : sortOk ds = true) (p : zs.Perm ds) (h : zs.Pairwise (fun a b => D.le a b = true)) : sortL ds = some zs := by
  unfold sortL
  rw [if_pos o, isort_eq (sortOk_spec o).2.2.1 p h]
theorem sortL_merge {ds zs : List D} (h : sortL ds = some zs) : zs = ds.mergeSort D.le ∧ sortOk ds = true := by
  unfold sortL at h
  split at h
  · rename_i o
    cases h
    refine ⟨isort_eq (sortOk_spec o).2.2.1 (List.mergeSort_perm ..) ?_, o⟩
    have oa := (sortOk_spec o).2.2.1
    -- merge sort over the members
    have m := List.map_mergeSort (r := fun (a b : {x // x ∈ ds}) => D.le a.1 b.1) (s := D.le) (f := Subtype.val) (l := ds.attach) (fun a _ b _ => rfl)
    have e : ds.attach.map Subtype.val = ds := by simp
    rw [e] at m
    rw [← m]
    refine List.pairwise_map.mpr ?_
    refine List.pairwise_mergeSort (le := fun (a b : {x // x ∈ ds}) => D.le a.1 b.1) (fun a b c h g => ?_) (fun a b => ?_) _
    · exact le_trans (oa _ a.2 _ b.2) (oa _ b.2 _ c.2) (oa _ a.2 _ c.2) h g
    · rcases le_total (oa _ a.2 _ b.2) with h | h <;> simp [h]
  · cases h
end VS
end

section
set_option Elab.async false
set_option linter.all false
set_option maxRecDepth 100000
set_option maxHeartbeats 1000000
namespace VS
open PySem PySem.Spec PyProof.Rows L2

/-! ## sorted -/
/-- u reads as the value and data b -/
def RdV (u : Value) (b : V × D) : Prop := RelV b.1 u
theorem each_rdv : ∀ {vs : List V} {us : List Value} {ds : List D}, Vals vs us → vs.length = ds.length → PySem.W.EachIs RdV us (vs.zip ds)
  | _, _, [], .nil, _ => .nil
  | _, _, d :: ds, .cons r t, h => .cons r (each_rdv t (by simpa using h))
  | _, _, [], .cons r t, h => by simp at h
  | _, _, d :: ds, .nil, h => by simp at h
theorem rdv_vals : ∀ {us : List Value} {bs : List (V × D)}, PySem.W.EachIs RdV us bs → Vals (bs.map Prod.fst) us
  | _, _, .nil => .nil
  | _, _, .cons r t => .cons r (rdv_vals t)
section
variable {X : Cx} {pins : List (Addr × Obj)} {σ : L2.St} {H : Hp} {s : Shared} {S : Fp}
theorem each_reads (I : Inv X pins σ H s) : ∀ {vs : List V} {us : List Value} {ds : List D}, Ats X.K S H vs ds → Vals vs us → (∀ d ∈ ds, ∃ p, d.py = some p) → PySem.W.EachIs (fun v (b : V × D) => ∃ as, Reads s.heap v (pyT b.2) as) us (vs.zip ds)
  | _, _, _, .nil, .nil, _ => .nil
  | _, _, _, .cons (d := d) a q, .cons r t, h => by
    refine .cons ?_ (each_reads I q t fun e he => h e (by simp [he]))
    obtain ⟨p, hp⟩ := h d (by simp)
    obtain ⟨as, hr⟩ := Dp.reads I p _ _ (a.dp hp) r
    exact ⟨as, by rw [py_T hp]; exact hr⟩
theorem ats_zip : ∀ {vs : List V} {ds : List D}, Ats X.K S H vs ds → ∀ b ∈ vs.zip ds, At X.K S H b.1 b.2
  | _, _, .nil, b, h => by simp at h
  | _, _, .cons a q, b, h => by
    rw [List.zip_cons_cons] at h
    rcases List.mem_cons.mp h with e | h
    · subst e; exact a
    · exact ats_zip q b h
theorem zip_ats : ∀ {bs : List (V × D)}, (∀ b ∈ bs, At X.K S H b.1 b.2) → Ats X.K S H (bs.map Prod.fst) (bs.map Prod.snd)
  | [], _ => .nil
  | b :: bs, h => .cons (h b (by simp)) (zip_ats fun c hc => h c (by simp [hc]))
mutual
theorem reads_lt {h : Heap} : ∀ {d : PyData} {v : Value} {as : List Addr}, PySem.W.alike d d = true → Reads h v d as → ∀ a ∈ as, a < h.objs.size
  | _, _, _, _, .none, a, m => by simp at m
  | _, _, _, _, .bool _, a, m => by simp at m
  | _, _, _, _, .int _ _, a, m => by simp at m
  | _, _, _, _, .str _ _, a, m => by simp at m
  | _, _, _, k, .list ho _ _ r, a, m => by
    rcases List.mem_cons.mp m with e | m
    · subst e; exact Heap.lt_size ho
    · exact readsAll_lt (by simpa [PySem.W.alike] using k) r a m
  | _, _, _, k, .tuple ho _ _ r, a, m => readsAll_lt (by simpa [PySem.W.alike] using k) r a m
  | _, _, _, k, .dict .., a, m => by simp [PySem.W.alike] at k
theorem readsAll_lt {h : Heap} : ∀ {ds : List PyData} {vs : List Value} {as : List Addr}, PySem.W.alikeAll ds ds = true → ReadsAll h vs ds as → ∀ a ∈ as, a < h.objs.size
  | _, _, _, _, .nil, a, m => by simp at m
  | _, _, _, k, .cons r t, a, m => by
    simp only [PySem.W.alikeAll, Bool.and_eq_true] at k
    rcases List.mem_append.mp m with m | m
    · exact reads_lt k.1 r a m
    · exact readsAll_lt k.2 t a m
end
theorem each_map2 {α β : Type} {R R' : α → β → Prop} : ∀ {as : List α} {bs : List β}, PySem.W.EachIs R as bs → (∀ a b, b ∈ bs → R a b → R' a b) → PySem.W.EachIs R' as bs
  | _, _, .nil, _ => .nil
  | _, _, .cons r t, h => .cons (h _ _ (by simp) r) (each_map2 t fun a b hb => h a b (by simp [hb]))
end
section
variable {prog : Program} {w : World} {A : Around} {E : Value → Shared → Prop} {s : Shared}
/-- sorted(x), by what collecting x gives -/
theorem sorted_by {x : Value} {Q : Value → Shared → Prop}
    (hcol : ∀ K : List Value → Shared → Prop, (∀ (us : List Value) (s1 : Shared) (bs : List (V × D)), us.length ≤ sizeLine → PySem.W.EachIs RdV us bs → PySem.W.EachIs (fun v (b : V × D) => ∃ as, Reads s1.heap v (pyT b.2) as) us bs → sortOk (bs.map Prod.snd) = true →
        (∀ (out : List Value) (cs : List (V × D)), PySem.W.EachIs RdV out cs → cs.Perm bs → cs.map Prod.snd = isort (bs.map Prod.snd) → out.length ≤ sizeLine → ∀ (c : Nat) (h' : Heap), h'.get? s1.heap.objs.size = some (seqObj "list" out.toArray c) →
          (∀ b o, s1.heap.get? b = some o → h'.get? b = some o) → Q (.ref s1.heap.objs.size) { s1 with heap := h' }) → K us s1) → wpAny (model prog w) A.in1 (collect x) K E s)
    (hu : A.units + 60 < cLine) : wpAny (model prog w) A (call (.builtin "sorted") [x]) Q E s := by
  refine Calls.call_function_entry kind_sorted plain_sorted entry_sorted (args_sorted1 _) ?_
  unfold Builtin.«sorted»
  refine wpAny_bind (m := checkCount "sorted" 1 1 _) (wpAny_pure ?_)
  refine wpAny_bind (hcol _ fun us s1 bs hz e er hok hq => ?_)
  obtain ⟨hl, hpy, hord, hsrt⟩ := sortOk_spec hok
  have hal := sort_alike hok
  have eqm : ∀ f : V × D → PyData, (∀ b, f b = pyT b.2) → bs.map f = (bs.map Prod.snd).map pyT := fun f hf => by
    rw [List.map_map]
    exact List.map_congr_left fun b _ => hf b
  refine wpAny_bind (wpAny_newList ?_ (by exact hz))
  have hoL : (s1.heap.push (seqObj "list" us.toArray 0)).get? s1.heap.objs.size = some (seqObj "list" us.toArray 0) := Heap.get?_push_size _ rfl
  refine wpAny_bind (wpAny_holding (VS0.list_sort2 (s := { s1 with heap := s1.heap.push (seqObj "list" us.toArray 0) }) (R := RdV) (enc := fun b => pyT b.2) (bs := bs) hoL e ?_ ?_ ?_ ?_ ?_ fun out ho eo => ?_))
  · refine each_map2 er fun v b hb ⟨as, r⟩ => ⟨as, PyProof.Rows.Reads.keeps (fun _ _ q => Heap.get?_push_of_some _ q) r, fun hm => ?_⟩
    obtain ⟨p, hp, _⟩ := hpy b.2 (List.mem_map.mpr ⟨b, hb, rfl⟩)
    have r' := r
    rw [py_T hp] at r'
    have al := (ord_py (hord b.2 (List.mem_map.mpr ⟨b, hb, rfl⟩) b.2 (List.mem_map.mpr ⟨b, hb, rfl⟩)) hp hp).1
    exact absurd (reads_lt al r' _ hm) (Nat.lt_irrefl _)
  · rw [eqm _ fun _ => rfl]; exact hal
  · rw [eqm _ fun _ => rfl]; exact hsrt
  · rw [← e.length]; exact hz
  · intro b hb
    obtain ⟨p, hp, hd⟩ := hpy b.2 (List.mem_map.mpr ⟨b, hb, rfl⟩)
    show A.in1.units + 1 + (pyT b.2).depth < cLine
    rw [py_T hp, Around.in1_units]
    omega
  · obtain ⟨c, hc⟩ := sortedHeap_at (vs := us) (out := out.toArray) hoL
    have hm : (bs.mergeSort (PySem.W.dataLe false fun b => pyT b.2)).map Prod.snd = isort (bs.map Prod.snd) := by
      have m := List.map_mergeSort (r := PySem.W.dataLe false fun b : V × D => pyT b.2) (s := D.le) (f := Prod.snd) (l := bs) (fun a ha b hb => by
        rw [PySem.W.dataLe_eq]
        obtain ⟨p, hp, _⟩ := hpy a.2 (List.mem_map.mpr ⟨a, ha, rfl⟩)
        obtain ⟨q, hq, _⟩ := hpy b.2 (List.mem_map.mpr ⟨b, hb, rfl⟩)
        show (!PySem.W.dataLt (pyT b.2) (pyT a.2)) = !(D.lt b.2 a.2)
        rw [py_T hp, py_T hq, (ord_py (hord b.2 (List.mem_map.mpr ⟨b, hb, rfl⟩) a.2 (List.mem_map.mpr ⟨a, ha, rfl⟩)) hq hp).2.1])
      rw [m]
      have g : sortL (bs.map Prod.snd) = some (isort (bs.map Prod.snd)) := by unfold sortL; rw [if_pos hok]
      exact (sortL_merge g).1.symm
    refine wpAny_pure ⟨_, rfl, hq out _ eo (List.mergeSort_perm ..) hm (by rw [ho, ← e.length]; exact hz) c _ hc (fun b o q => ?_)⟩
    have hlt := Heap.lt_size q
    rw [sortedHeap_old (Nat.ne_of_lt hlt) (by rw [size_push']; exact Nat.lt_succ_of_lt hlt)]
    exact Heap.get?_push_of_some _ q
theorem collect_tuple {l : Addr} {vs : List Value} {Q : List Value → Shared → Prop} (hl : s.heap.IsTuple l vs.toArray)
    (h : Q vs { s with heap := (s.heap.push (seqObj "list" #[] 0)).update s.heap.objs.size (Obj.mapSeq (· ++ vs.toArray)) }) (hsz : vs.length ≤ sizeLine) :
    wpAny (model prog w) A (collect (.ref l)) Q E s := by
  obtain ⟨o, hget, hcls, n, hdat⟩ := id hl
  unfold collect
  refine wpAny_bind (wpAny_runValue (codeAny_builtin entry_proto_collect' ?_))
  show wpAny _ _ (do again (.builtin "list.__iadd__" ⟨[← newList [], .ref l], []⟩)) _ _ s
  refine wpAny_bind (wpAny_newList (wpAny_pure ⟨Code.quiet_builtin _ (by decide +kernel), codeAny_builtin entry_list_iadd' ?_⟩))
  show wpAny _ _ (Builtin.List.listExtendWith (.ref s.heap.objs.size) (.ref l) (.ref s.heap.objs.size)) _ _ { s with heap := s.heap.push (seqObj "list" #[] 0) }
  unfold Builtin.List.listExtendWith
  have hget' : (s.heap.push (seqObj "list" #[] 0)).get? l = some o := Heap.get?_push_of_some _ hget
  refine wpAny_bind (wpAny_typeOf (T := "tuple") ⟨o, hget', hcls⟩ ?_)
  have ht : (Value.type "tuple" == Value.type "tuple") = true := by rfl
  rw [if_pos (by rw [ht]; simp)]
  refine wpAny_bind (listItems_at hget' hdat ?_)
  refine wpAny_bind (listItems_at (xs := #[]) (n := 0) (Heap.get?_push_size _ rfl) rfl ?_)
  rw [if_neg (by simp)]
  refine wpAny_bind (listUpdate_at (xs := #[]) (n := 0) (Heap.get?_push_size _ rfl) rfl ?_ (Nat.zero_le _) (by show (#[] ++ vs.toArray).size ≤ sizeLine + 1; simp only [Array.size_append, List.size_toArray, List.length_nil]; omega))
  refine wpAny_pure ?_
  show wpAny (model prog w) A (do
      let u ← load s.heap.objs.size
      match u.data with
      | .seq ys _ => pure ys.toList
      | _ => unsupported "internal:collect") Q E { s with heap := (s.heap.push (seqObj "list" #[] 0)).update s.heap.objs.size (Obj.mapSeq (· ++ vs.toArray)) }
  refine wpAny_bind (wpAny_load (get?_update_seq (Heap.get?_push_size _ rfl) _) ?_)
  show wpAny _ _ (pure ((#[] : Array Value) ++ vs.toArray).toList) Q E _
  rw [show ((#[] : Array Value) ++ vs.toArray).toList = vs by simp]
  exact wpAny_pure h
end
def sortedF : List D → Option (List D)
  | [.lst ds] => sortL ds
  | [.tup ds] => sortL ds
  | _ => none
section
variable {X : Cx}
theorem ext_push {h : Heap} {us : List Value} {b : Addr} {o : Obj} (q : h.get? b = some o) : ((h.push (seqObj "list" #[] 0)).update h.objs.size (Obj.mapSeq (· ++ us.toArray))).get? b = some o := by
  rw [Heap.get?_update_ne _ _ _ _ (Nat.ne_of_lt (Heap.lt_size q))]
  exact Heap.get?_push_of_some _ q
theorem c_sorted (hu : X.A.units + 64 < cLine) : CallR X (.builtin "sorted") (rDF X.K sortedF) := fun pins s σ H xs us Q I r ⟨S, ds, zs, new, a, hg, k⟩ => by
  have main : ∀ (v : V) (vs : List V) (its : List Value) (es : List D) (l : Addr), Ats X.K S H vs es → Vals vs its → vs.length ≤ sizeLine → sortL es = some zs →
      (∀ K : List Value → Shared → Prop, K its { s with heap := (s.heap.push (seqObj "list" #[] 0)).update s.heap.objs.size (Obj.mapSeq (· ++ its.toArray)) } → wpAny (model X.prog X.w) X.A.in1 (collect (.ref l)) K X.xe s) →
      wpAny (model X.prog X.w) X.A (call (.builtin "sorted") [.ref l]) (EP X pins σ Q) X.xe s := fun v vs its es l q rv hz hs hc => by
    have hok := (sortL_merge hs).2
    obtain ⟨_, hpy, _, _⟩ := sortOk_spec hok
    have hl := q.len
    have e2 : (vs.zip es).map Prod.snd = es := List.map_snd_zip (by omega)
    refine sorted_by (fun K hK => hc K ?_) (by omega)
    refine hK its _ (vs.zip es) (by rw [← rv.length]; exact hz) (each_rdv rv hl) ?_ (by rw [e2]; exact hok) fun out cs eo pm em hlo c h' hh' kp => ?_
    · refine (each_reads I q rv fun d hd => (hpy d hd).imp fun p h => h.1).mono fun v b ⟨as, r⟩ => ⟨as, PyProof.Rows.Reads.keeps (fun _ _ => ext_push) r⟩
    · have hsz : ((s.heap.push (seqObj "list" #[] 0)).update s.heap.objs.size (Obj.mapSeq (· ++ its.toArray))).objs.size = s.heap.objs.size + 1 := by
        rw [Heap.size_update, size_push']
      have hn : H (s.heap.objs.size + 1) = none := I.hok.fresh (Nat.le_succ _)
      show EP X pins σ Q (.ref ((s.heap.push (seqObj "list" #[] 0)).update s.heap.objs.size (Obj.mapSeq (· ++ its.toArray))).objs.size) _
      rw [hsz] at hh' ⊢
      have ac : Ats X.K S H (cs.map Prod.fst) zs := by
        have h1 : cs.map Prod.snd = zs := by
          rw [em, e2]
          unfold sortL at hs
          rw [if_pos hok] at hs
          exact Option.some.inj hs
        rw [← h1]
        exact zip_ats fun b hb => ats_zip q b (pm.mem_iff.mp hb)
      have sm := same_new (o := .lst (cs.map Prod.fst)) hn
      exact ⟨.ref _, upd H (s.heap.objs.size + 1) (.lst (cs.map Prod.fst)), I.laid (t' := s.toks) (fun b o q => kp b o (ext_push q)) (Nat.le_succ _) ⟨by rw [List.length_map, ← eo.length]; exact hlo, out, c, rdv_vals eo, hh'⟩, rfl, k _ _ _ sm hn upd_same (ac.kp (Kp.of_same sm))⟩
  unfold sortedF at hg
  split at hg
  · rename_i es
    cases a with
    | cons a b =>
      cases b
      cases a with
      | @lst l vs _ hl q =>
        obtain ⟨its, rv, pl, hz⟩ := I.list hl.sq
        rw [Vals.ref1 r]
        exact main (.ref l) vs its es l q rv hz hg fun K hK => collect_list pl.isList hK (by rw [← rv.length]; exact hz)
  · rename_i es
    cases a with
    | cons a b =>
      cases b
      cases a with
      | @tup l vs _ hl q =>
        obtain ⟨its, rv, pl, hz⟩ := I.tuple (.of hl)
        rw [Vals.ref1 r]
        exact main (.ref l) vs its es l q rv hz hg fun K hK => collect_tuple pl hK (by rw [← rv.length]; exact hz)
  · cases hg
end
end VS
end

section
set_option Elab.async false
set_option linter.all false
set_option maxRecDepth 100000
set_option maxHeartbeats 1000000
namespace VS
open PySem PySem.Spec PyProof.Rows L2

/-! ## isinstance -/
def tyD : D → Option String
  | .non => some "NoneType"
  | .bl _ => some "bool"
  | .int _ => some "int"
  | .str _ => some "str"
  | .tup _ => some "tuple"
  | .lst _ => some "list"
  | .dic _ => some "dict"
  | .st _ => none
theorem at_tyx {K : PySem.W.Frag} {S : Fp} {H : Hp} {v : V} {d : D} (a : At K S H v d) (hd : tyD d ≠ none) : ∃ t, tyD d = some t ∧ TyX K H v (.type t) := by
  cases a with
  | st h s p q z => exact absurd rfl hd
  | non => exact ⟨_, rfl, .base .non⟩
  | bl b => exact ⟨_, rfl, .base (.bl b)⟩
  | int i => exact ⟨_, rfl, .base (.int i)⟩
  | str x => exact ⟨_, rfl, .base (.str x)⟩
  | tup h q => exact ⟨_, rfl, .base (.tup h)⟩
  | lst h q =>
    refine ⟨_, rfl, ?_⟩
    rcases h with ⟨h | ⟨o, h⟩, _⟩ | ⟨o, its, n, h, c, _⟩
    · exact .base (.lst h)
    · exact .base (.frz h)
    · exact .kList h c
  | dic h s q => exact ⟨_, rfl, .base (.dT h)⟩
/-- bool, int, str, tuple, list: what isinstance says -/
def isiD (T : String) (d : D) : Option D := (tyD d).bind fun t => (kitB t T).map .bl
def isiDs : List String → String → Option Bool
  | [], _ => some false
  | T :: Ts, t => (kitB t T).bind fun b => if b = true then some true else isiDs Ts t
def isiTD (Ts : List String) (d : D) : Option D := (tyD d).bind fun t => (isiDs Ts t).map .bl
section
variable {X : Cx}
theorem m_isi {e : Expr} {T : Str} {t : String} {f : E D} {p p2 pos : Pos} (he : PM X e f) (hg : Gl X "isinstance") (hm : X.mg "isinstance" = none) (hgT : Gl X T) (hmT : X.mg T = none) (hv : bootBuiltins T = some (.type t)) (hn : T ≠ "__name__" := by decide) (hd : (T == ("__debug__" : Str)) = false := by decide)
    (hs1 : starEach [e, .Name T p2] X.env = (false, eval e X.env) :: starEach [.Name T p2] X.env := by rfl) (hs2 : starEach [.Name T p2] X.env = (false, eval (.Name T p2) X.env) :: starEach [] X.env := by rfl)
    (hpl : (backTo pos (starEach [.Name T p2] X.env)).any (·.1) = false := by rfl) : PM X (.Call (.Name "isinstance" p) [e, .Name T p2] [] pos) (mUn (isiD t) f) :=
  ⟨fun F => PE.imp (pe_callB call_isi hg hm boot_isinstance (pa_cons (he.pe F) (pa_cons (pe_bltn (v := .ty t) hgT hmT hv rfl hn hd) pa_nil hs2) hs1) (by decide) (by decide) hs1 hpl) fun σ H Q ⟨env, ρ, d, ρ', r, hf, k⟩ => by
    unfold mUn at hf
    obtain ⟨⟨da, ρ1⟩, ha, hf⟩ := Option.bind_eq_some_iff.mp hf
    obtain ⟨z, hz, hf⟩ := Option.map_eq_some_iff.mp hf
    cases hf
    refine ⟨env, ρ, da, ρ1, r, ha, fun v H1 e1 w1 a1 => ?_⟩
    obtain ⟨u, hu, tx⟩ := at_tyx a1 (fun n => by
      unfold isiD at hz
      rw [n] at hz
      cases hz)
    unfold isiD at hz
    rw [hu] at hz
    obtain ⟨b, hb, hz⟩ := Option.map_eq_some_iff.mp (show (kitB u t).map D.bl = some d from hz)
    subst hz
    exact ⟨v, .ty t, _, _, b, rfl, .ty t, tx, kit_ty hb, k _ H1 e1 w1 (.bl b)⟩⟩
theorem kitAny_isi {K : PySem.W.Frag} {t : String} : ∀ {Ts : List String} {b : Bool}, isiDs Ts t = some b → PySem.W.kitAny K (.type t) (Ts.map Value.type) = some b
  | [], b, h => by cases h; rfl
  | T :: Ts, b, h => by
    unfold isiDs at h
    obtain ⟨c, hc, h⟩ := Option.bind_eq_some_iff.mp h
    refine kitAny_cons (b := c) (kit_ty hc) (fun e => ?_) (fun e => ?_)
    · subst e
      rw [if_neg (by simp)] at h
      exact kitAny_isi h
    · subst e
      rw [if_pos rfl] at h
      cases h; rfl
/-- isinstance(e, (T, U)) -/
theorem m_isiT {e : Expr} {T U : Str} {t u : String} {f : E D} {kk : Nat} {p p2 p3 tp pos : Pos} (he : PM X e f) (hg : Gl X "isinstance") (hm : X.mg "isinstance" = none) (hgT : Gl X T) (hmT : X.mg T = none) (hv : bootBuiltins T = some (.type t)) (hgU : Gl X U) (hmU : X.mg U = none) (hvU : bootBuiltins U = some (.type u))
    (hn : T ≠ "__name__" := by decide) (hd : (T == ("__debug__" : Str)) = false := by decide) (hnU : U ≠ "__name__" := by decide) (hdU : (U == ("__debug__" : Str)) = false := by decide)
    (hs1 : starEach [e, .Tuple [.Name T p2, .Name U p3] kk tp] X.env = (false, eval e X.env) :: starEach [.Tuple [.Name T p2, .Name U p3] kk tp] X.env := by rfl) (hs2 : starEach [.Tuple [.Name T p2, .Name U p3] kk tp] X.env = (false, eval (.Tuple [.Name T p2, .Name U p3] kk tp) X.env) :: starEach [] X.env := by rfl)
    (hs3 : starEach [.Name T p2, .Name U p3] X.env = (false, eval (.Name T p2) X.env) :: starEach [.Name U p3] X.env := by rfl) (hs4 : starEach [.Name U p3] X.env = (false, eval (.Name U p3) X.env) :: starEach [] X.env := by rfl)
    (hpl : (backTo pos (starEach [.Tuple [.Name T p2, .Name U p3] kk tp] X.env)).any (·.1) = false := by rfl) : PM X (.Call (.Name "isinstance" p) [e, .Tuple [.Name T p2, .Name U p3] kk tp] [] pos) (mUn (isiTD [t, u]) f) :=
  ⟨fun F => PE.imp (pe_callB call_isiT hg hm boot_isinstance (pa_cons (he.pe F) (pa_cons (pe_tup (pa_cons (pe_bltn (v := .ty t) hgT hmT hv rfl hn hd) (pa_cons (pe_bltn (v := .ty u) hgU hmU hvU rfl hnU hdU) pa_nil hs4) hs3)) pa_nil hs2) hs1) (by decide) (by decide) hs1 hpl) fun σ H Q ⟨env, ρ, d, ρ', r, hf, k⟩ => by
    unfold mUn at hf
    obtain ⟨⟨da, ρ1⟩, ha, hf⟩ := Option.bind_eq_some_iff.mp hf
    obtain ⟨z, hz, hf⟩ := Option.map_eq_some_iff.mp hf
    cases hf
    refine ⟨env, ρ, da, ρ1, r, ha, fun v H1 e1 w1 a1 => ⟨(show 2 ≤ sizeLine by decide), fun q hq => ?_⟩⟩
    have sm := same_new (o := .tup [.ty t, .ty u]) hq
    have a2 := a1.kp (Kp.of_same sm)
    obtain ⟨y, hy, tx⟩ := at_tyx a2 (fun n => by
      unfold isiTD at hz
      rw [n] at hz
      cases hz)
    unfold isiTD at hz
    rw [hy] at hz
    obtain ⟨b, hb, hz⟩ := Option.map_eq_some_iff.mp (show (isiDs [t, u] y).map D.bl = some d from hz)
    subst hz
    exact ⟨v, q, [.ty t, .ty u], _, _, b, rfl, upd_same, .cons (.ty t) (.cons (.ty u) .nil), tx, kitAny_isi hb, k _ _ (e1.trans (Eff.of_same sm)) (w1.same sm) (.bl b)⟩⟩
/-! ## all([..]) -/
def blsD : List D → Option (List Bool)
  | [] => some []
  | .bl b :: ds => (blsD ds).map fun r => b :: r
  | _ => none
def allD : List D → Option D
  | [.lst ds] => (blsD ds).map fun bs => .bl (bs.all id)
  | _ => none
theorem bls_at {K : PySem.W.Frag} {S : Fp} {H : Hp} : ∀ {vs : List V} {ds : List D} {bs : List Bool}, Ats K S H vs ds → blsD ds = some bs → vs = bs.map V.bl
  | _, _, bs, .nil, e => by simp only [blsD, Option.some.injEq] at e; subst e; rfl
  | _, _, bs, .cons a q, e => by
    cases a <;> simp only [blsD, Option.map_eq_some_iff, reduceCtorEq] at e
    obtain ⟨r, e, rfl⟩ := e
    rw [bls_at q e]; rfl
theorem c_all (hc : X.calm = true) : CallR X (.builtin "all") (rDC X.K allD) := CallR.imp (cr_all hc) fun xs H Q ⟨S, ds, z, new, a, hg, k⟩ => by
  unfold allD at hg
  split at hg
  · obtain ⟨bs, hb, hg⟩ := Option.map_eq_some_iff.mp hg
    subst hg
    cases a with
    | cons a b =>
      cases b
      cases a with
      | @lst a vs _ h q =>
        have e := bls_at q hb
        subst e
        exact ⟨a, bs, rfl, h.sq, k _ H (Same.refl H) (.bl _)⟩
  · cases hg
/-! ## min, max -/
def minL : List D → Option D
  | [] => none
  | d :: ds => some (ds.foldl (fun b x => if x.lt b = true then x else b) d)
def maxL : List Int → Option Int
  | [] => none
  | d :: ds => some (ds.foldl (fun b x => if x > b then x else b) d)
def minOk (ds : List D) : Bool := decide (ds.length ≤ 1000000) && ds.all fun d => d.okN 50 && ds.all fun e => d.ord e
def minD : List D → Option D
  | [.lst ds] => if minOk ds = true then minL ds else none
  | [.int i, .int j] => some (.int (if j < i then j else i))
  | _ => none
def intsD : List D → Option (List Int)
  | [] => some []
  | .int b :: ds => (intsD ds).map fun r => b :: r
  | _ => none
def maxD : List D → Option D
  | [.lst ds] => (intsD ds).bind fun ns => (maxL ns).map .int
  | [.int i, .int j] => some (.int (if j > i then j else i))
  | _ => none
theorem ints_at {K : PySem.W.Frag} {S : Fp} {H : Hp} : ∀ {vs : List V} {ds : List D} {bs : List Int}, Ats K S H vs ds → intsD ds = some bs → vs = bs.map V.int
  | _, _, bs, .nil, e => by simp only [intsD, Option.some.injEq] at e; subst e; rfl
  | _, _, bs, .cons a q, e => by
    cases a <;> simp only [intsD, Option.map_eq_some_iff, reduceCtorEq] at e
    obtain ⟨r, e, rfl⟩ := e
    rw [ints_at q e]; rfl
theorem fold_max : ∀ (ds : List Int) (d : Int), (ds.foldl (fun b x => if x > b then x else b) d) ∈ d :: ds ∧ ∀ y ∈ d :: ds, y ≤ ds.foldl (fun b x => if x > b then x else b) d
  | [], d => by simp
  | e :: ds, d => by
    rw [List.foldl_cons]
    obtain ⟨h1, h2⟩ := fold_max ds (if e > d then e else d)
    have h3 := h2 (if e > d then e else d) (by simp)
    refine ⟨?_, fun y hy => ?_⟩
    · rcases List.mem_cons.mp h1 with h | h
      · rw [h]
        split <;> simp
      · simp [h]
    · rcases List.mem_cons.mp hy with rfl | hy
      · by_cases c : e > y
        · rw [if_pos c] at h3 ⊢; omega
        · rw [if_neg c] at h3 ⊢; omega
      · rcases List.mem_cons.mp hy with rfl | hy
        · by_cases c : y > d
          · rw [if_pos c] at h3 ⊢; omega
          · rw [if_neg c] at h3 ⊢; omega
        · exact h2 y (by simp [hy])
theorem c_max (hc : X.calm = true) : CallR X (.builtin "max") (rDC X.K maxD) := fun pins s σ H xs us Q I r ⟨S, ds, z, new, a, hg, k⟩ => by
  unfold maxD at hg
  split at hg
  · obtain ⟨ns, hn, hg⟩ := Option.bind_eq_some_iff.mp hg
    obtain ⟨m, hm, hg⟩ := Option.map_eq_some_iff.mp hg
    subst hg
    cases a with
    | cons a b =>
      cases b
      cases a with
      | @lst a vs _ h q =>
        have e := ints_at q hn
        subst e
        cases ns with
        | nil => cases hm
        | cons n ns =>
          cases hm
          obtain ⟨g1, g2⟩ := fold_max ns n
          refine cr_max hc pins s σ H _ us Q I r ⟨a, n :: ns, rfl, h.sq, by simp, fun m h1 h2 => ?_⟩
          have e : m = ns.foldl (fun b x => if x > b then x else b) n := by
            have := g2 m h1
            have := h2 _ g1
            omega
          rw [e]
          exact k _ H (Same.refl H) (.int _)
  · cases a with
    | cons a b =>
      cases b with
      | cons c d =>
        cases d; cases a; cases c
        cases hg
        exact call_max2 hc pins s σ H _ us Q I r ⟨_, _, rfl, k _ H (Same.refl H) (.int _)⟩
  · cases hg
end
end VS
end

section
set_option Elab.async false
set_option linter.all false
set_option maxRecDepth 100000
set_option maxHeartbeats 1000000
namespace VS
open PySem PySem.Spec PyProof.Rows L2

mutual
theorem py_inj : ∀ {d e : D} {p : PyData}, d.py = some p → e.py = some p → d = e
  | d, e, p, h1, h2 => by
    cases d <;> cases e <;> simp only [D.py, Option.map_eq_some_iff, Option.some.injEq, reduceCtorEq] at h1 h2
    all_goals first
      | rfl
      | (obtain ⟨ps, h1, e1⟩ := h1; obtain ⟨qs, h2, e2⟩ := h2; rw [← e2] at e1; first | (injection e1 with e1; subst e1; rw [pys_inj h1 h2]) | cases e1)
      | (obtain ⟨ps, h1, e1⟩ := h1; rw [← h2] at e1; cases e1)
      | (obtain ⟨ps, h2, e2⟩ := h2; rw [← h1] at e2; cases e2)
      | (rw [← h2] at h1; first | (injection h1 with h1; rw [h1]) | cases h1)
theorem pys_inj : ∀ {ds es : List D} {ps : List PyData}, D.pys ds = some ps → D.pys es = some ps → ds = es
  | [], [], _, _, _ => rfl
  | [], e :: es, ps, h1, h2 => by
    simp only [D.pys, Option.some.injEq, Option.bind_eq_some_iff, Option.map_eq_some_iff] at h1 h2
    obtain ⟨q, _, qs, _, e⟩ := h2
    rw [← h1] at e; cases e
  | d :: ds, [], ps, h1, h2 => by
    simp only [D.pys, Option.some.injEq, Option.bind_eq_some_iff, Option.map_eq_some_iff] at h1 h2
    obtain ⟨q, _, qs, _, e⟩ := h1
    rw [← h2] at e; cases e
  | d :: ds, e :: es, ps, h1, h2 => by
    simp only [D.pys, Option.bind_eq_some_iff, Option.map_eq_some_iff] at h1 h2
    obtain ⟨p, hp, ps', hps, rfl⟩ := h1
    obtain ⟨q, hq, qs', hqs, e⟩ := h2
    injection e with e1 e2
    subst e1; subst e2
    rw [py_inj hp hq, pys_inj hps hqs]
end
theorem readsAll_of {X : Cx} {pins : List (Addr × Obj)} {σ : L2.St} {H : Hp} {s : Shared} {S : Fp} (I : Inv X pins σ H s) : ∀ {vs : List V} {us : List Value} {ds : List D}, Ats X.K S H vs ds → Vals vs us → (∀ d ∈ ds, ∃ p, d.py = some p) → ∃ as, ReadsAll s.heap us (ds.map pyT) as
  | _, _, _, .nil, .nil, _ => ⟨_, .nil⟩
  | _, _, _, .cons (d := d) a q, .cons r t, h => by
    obtain ⟨p, hp⟩ := h d (by simp)
    obtain ⟨as, hr⟩ := Dp.reads I p _ _ (a.dp hp) r
    obtain ⟨bs, hrs⟩ := readsAll_of I q t fun e he => h e (by simp [he])
    refine ⟨as ++ bs, ?_⟩
    rw [List.map_cons, py_T hp]
    exact .cons hr hrs
theorem minOk_spec {ds : List D} (h : minOk ds = true) : ds.length ≤ 1000000 ∧ (∀ d ∈ ds, ∃ p, d.py = some p ∧ p.depth ≤ 50) ∧ ∀ d ∈ ds, ∀ e ∈ ds, d.ord e = true := by
  unfold minOk at h
  simp only [Bool.and_eq_true, decide_eq_true_eq, List.all_eq_true] at h
  obtain ⟨h1, h2⟩ := h
  refine ⟨h1, fun d hd => ?_, fun d hd e he => (h2 d hd).2 e he⟩
  obtain ⟨p, a, _, b⟩ := ok_py (h2 d hd).1
  exact ⟨p, a, b⟩
theorem depthAll_le : ∀ {ds : List D}, (∀ d ∈ ds, ∃ p, d.py = some p ∧ p.depth ≤ 50) → PyData.depthAll (ds.map pyT) ≤ 50
  | [], _ => by simp [PyData.depthAll]
  | d :: ds, h => by
    obtain ⟨p, hp, hd⟩ := h d (by simp)
    have := depthAll_le (ds := ds) fun e he => h e (by simp [he])
    simp only [List.map_cons, PyData.depthAll, py_T hp]
    omega
theorem fold_mem : ∀ (ds : List D) (d : D), (ds.foldl (fun b x => if x.lt b = true then x else b) d) ∈ d :: ds
  | [], d => by simp
  | e :: ds, d => by
    rw [List.foldl_cons]
    have := fold_mem ds (if e.lt d = true then e else d)
    rcases List.mem_cons.mp this with h | h
    · rw [h]; split <;> simp
    · simp [h]
theorem fold_min {ds : List D} {d : D} (ok : ∀ x ∈ d :: ds, ∃ p, x.py = some p) (o : ∀ x ∈ d :: ds, ∀ y ∈ d :: ds, x.ord y = true) :
    PySem.W.minD (pyT d) (ds.map pyT) = pyT (ds.foldl (fun b x => if x.lt b = true then x else b) d) := by
  unfold PySem.W.minD
  induction ds generalizing d with
  | nil => rfl
  | cons e ds ih =>
    rw [List.map_cons, List.foldl_cons, List.foldl_cons]
    obtain ⟨p, hp⟩ := ok d (by simp)
    obtain ⟨q, hq⟩ := ok e (by simp)
    have c : PySem.W.dataLt (pyT e) (pyT d) = e.lt d := by
      rw [py_T hp, py_T hq]
      exact (ord_py (o e (by simp) d (by simp)) hq hp).2.1
    have : (if PySem.W.dataLt (pyT e) (pyT d) = true then pyT e else pyT d) = pyT (if e.lt d = true then e else d) := by
      rw [c]
      split <;> rfl
    rw [this]
    have sub : ∀ x ∈ (if e.lt d = true then e else d) :: ds, x ∈ d :: e :: ds := fun x hx => by
      rcases List.mem_cons.mp hx with h | h
      · rw [h]; split <;> simp
      · simp [h]
    exact ih (fun x hx => ok x (sub x hx)) fun x hx y hy => o x (sub x hx) y (sub y hy)
section
variable {X : Cx}
theorem c_min (hc : X.calm = true) (hu : X.A.units + 64 < cLine) : CallR X (.builtin "min") (rDC X.K minD) := fun pins s σ H xs us Q I r ⟨S, ds, z, new, a, hg, k⟩ => by
  unfold minD at hg
  split at hg
  · rename_i es
    split at hg
    case isFalse => cases hg
    rename_i hok
    obtain ⟨hl, hpy, hord⟩ := minOk_spec hok
    cases a with
    | cons a b =>
      cases b
      cases a with
      | @lst l vs _ h q =>
        cases es with
        | nil => cases hg
        | cons d es =>
          cases hg
          obtain ⟨its, rv, pl, hz⟩ := I.list h.sq
          rw [Vals.ref1 r]
          obtain ⟨as, hr⟩ := readsAll_of I q rv fun d hd => (hpy d hd).imp fun p h => h.1
          have hal : PySem.W.AlikeAll (pyT d :: es.map pyT) := by
            refine ⟨fun p hp q hq => ?_, fun p hp => ?_⟩
            · obtain ⟨x, hx, rfl⟩ := List.mem_map.mp (show p ∈ (d :: es).map pyT from hp)
              obtain ⟨y, hy, rfl⟩ := List.mem_map.mp (show q ∈ (d :: es).map pyT from hq)
              obtain ⟨p, a, _⟩ := hpy x hx
              obtain ⟨q, b, _⟩ := hpy y hy
              rw [py_T a, py_T b]
              exact (ord_py (hord x hx y hy) a b).1
            · obtain ⟨x, hx, rfl⟩ := List.mem_map.mp (show p ∈ (d :: es).map pyT from hp)
              obtain ⟨p, a, _⟩ := hpy x hx
              rw [py_T a]
              exact (ord_py (hord x hx x hx) a a).2.2
          have hdp := depthAll_le (ds := d :: es) hpy
          refine PySem.W.min_list_data (I.ok.hd hc) pl.isList (x := pyT d) (xs := es.map pyT) (as := as) (by simpa using hr) hal (by rw [List.map_cons] at hdp; omega) fun i v h' tk bs hv hrd hk => ?_
          rw [fold_min (fun x hx => (hpy x hx).imp fun p h => h.1) hord] at hrd
          have hm := fold_mem es d
          obtain ⟨p, hp, _⟩ := hpy _ hm
          have hv' : its[i]? = some v := by simpa using hv
          obtain ⟨x, hx, rx⟩ : ∃ x, vs[i]? = some x ∧ RelV x v := by
            have hi : i < vs.length := by rw [rv.length]; exact (List.getElem?_eq_some_iff.mp hv').1
            obtain ⟨u, hu', ru⟩ := rv.get (List.getElem?_eq_getElem hi)
            rw [hv'] at hu'
            cases hu'
            exact ⟨_, List.getElem?_eq_getElem hi, ru⟩
          obtain ⟨e, he, ae⟩ := q.get' hx
          have hme : e ∈ d :: es := List.mem_of_getElem? he
          obtain ⟨q2, hq2, _⟩ := hpy e hme
          obtain ⟨as2, hr2⟩ := Dp.reads I q2 _ _ (ae.dp hq2) rx
          have hr3 := PySem.W.reads_keeps hk hr2
          have eqd : e = es.foldl (fun b x => if x.lt b = true then x else b) d := by
            rw [py_T hp] at hrd
            have := PySem.W.alike_unique q2 p v as2 bs (ord_py (hord e hme _ hm) hq2 hp).1 hr3 hrd
            subst this
            exact py_inj hq2 hp
          exact ⟨x, H, I.kept hk, rx, k x H (Same.refl H) (eqd ▸ ae)⟩
  · cases a with
    | cons a b =>
      cases b with
      | cons c d =>
        cases d; cases a; cases c
        cases hg
        exact call_min2 hc pins s σ H _ us Q I r ⟨_, _, rfl, k _ H (Same.refl H) (.int _)⟩
  · cases hg
/-! ## < of any data -/
def ltA (d e : D) : Option D := if d.ord e = true ∧ d.ok = true ∧ e.ok = true then some (.bl (d.lt e)) else none
theorem o_ltA (hu : X.A.units + 64 < cLine) : OpR X (compareOp .Lt) (rD X.K ltA) := fun pins s σ H x y v u Q I rx ry ⟨S, d, e, z, new, ad, ae, hg, k⟩ => by
  unfold ltA at hg
  split at hg
  · rename_i h
    cases hg
    obtain ⟨p, hp, _, dp⟩ := ok_py h.2.1
    obtain ⟨q, hq, _, dq⟩ := ok_py h.2.2
    obtain ⟨al, lt, nn⟩ := ord_py h.1 hp hq
    obtain ⟨as, ra⟩ := Dp.reads I p _ _ (ad.dp hp) rx
    obtain ⟨bs, rb⟩ := Dp.reads I q _ _ (ae.dp hq) ry
    refine PySem.W.lt_data ra rb al nn (by omega) ⟨.bl _, H, I, rfl, ?_⟩
    rw [lt]
    exact k _ H (Same.refl H) (.bl _)
  · cases hg
end
end VS
end

section
set_option Elab.async false
set_option linter.all false
set_option maxRecDepth 100000
set_option maxHeartbeats 1000000
namespace VS
open PySem PySem.Spec PyProof.Rows L2
open PySem.AutoSeq1 (wpAny_loadPart')

/-! ## enumerate(tuple) -/
theorem meets_enum_tup (l : Addr) (items : Array Value) (n : Nat) (dct : Option Addr) (sl : Array (Option Value)) :
    Meets (Builtin.«enumerate.__new__» ⟨[.type "enumerate", .ref l], []⟩) (fun _ R s => s.heap.get? l = some { cls := .type "tuple", dict := dct, data := .seq items n, slots := sl } ∧
      R (.ok (.ret (.ref (s.heap.push { cls := .type "tuple_iterator", data := .fields #[.ref l, .int 0 0] }).objs.size)))
        { s with heap := (s.heap.push { cls := .type "tuple_iterator", data := .fields #[.ref l, .int 0 0] }).push { cls := .type "enumerate", data := .fields #[.none, .bool false, .ref s.heap.objs.size, rawInt 0, .none, .none] } }) :=
  .of_wp fun prog w A R s h => by
    obtain ⟨hp, g, d, tk, os⟩ := s
    obtain ⟨hl, h⟩ := h
    have hsb := sub_enumerate
    have hT : Heap.IsTuple (Shared.heap ⟨hp, g, d, tk, os⟩) l items := ⟨_, hl, rfl, n, rfl⟩
    wp_walk using wpAny_loadPart' hl
    refine wpAny_stack_any fun st => wpAny_pure ?_
    split
    · rename_i c _ _ _ _ _
      cases (c == Value.type "enumerate")
      · wp_walk using wpAny_loadPart' hl, wpAny_pyIter_tuple hT
        exact ⟨_, rfl, h⟩
      · wp_walk using wpAny_loadPart' hl, wpAny_pyIter_tuple hT
        exact ⟨_, rfl, h⟩
    · wp_walk using wpAny_loadPart' hl, wpAny_pyIter_tuple hT
      exact ⟨_, rfl, h⟩
section
variable {prog : Program} {w : World} {A : Around} {E : Value → Shared → Prop} {s : Shared}
theorem call_enum_tup {l : Addr} {items : Array Value} {Q : Value → Shared → Prop} (hL : s.heap.IsTuple l items)
    (h : ∀ h', IsEnum h' (s.heap.objs.size + 1) s.heap.objs.size 0 .none → h'.IsTupleIter s.heap.objs.size l 0 → h'.objs.size = s.heap.objs.size + 2 →
      (∀ b o, s.heap.get? b = some o → h'.get? b = some o) → Q (.ref (s.heap.objs.size + 1)) { s with heap := h' }) :
    wpAny (model prog w) A (call (.type "enumerate") [.ref l]) Q E s := by
  obtain ⟨⟨c, dct, dt, sl⟩, hl, hc, n, hd⟩ := hL
  cases (show c = .type "tuple" from hc)
  cases (show dt = .seq items n from hd)
  refine callType_new F.called_enumerate (by decide) (F.typeCall_enumerate_1 _) (F.newCall_enumerate_1 _) (fun obj => F.args_object_init_2 obj _) F.entry_enumerate_new
    (meets_enum_tup l items n dct sl) ⟨hl, ?_⟩
  have hz : (s.heap.push { cls := .type "tuple_iterator", data := .fields #[.ref l, .int 0 0] }).objs.size = s.heap.objs.size + 1 := Heap.size_push ..
  show _ ∧ _
  rw [hz]
  have he : IsEnum ((s.heap.push { cls := .type "tuple_iterator", data := .fields #[.ref l, .int 0 0] }).push
      { cls := .type "enumerate", data := .fields #[.none, .bool false, .ref s.heap.objs.size, rawInt 0, .none, .none] }) (s.heap.objs.size + 1) s.heap.objs.size 0 .none := by
    have q := Heap.get?_push_size (s.heap.push { cls := .type "tuple_iterator", data := .fields #[.ref l, .int 0 0] })
      (o := { cls := .type "enumerate", data := .fields #[.none, .bool false, .ref s.heap.objs.size, rawInt 0, .none, .none] }) rfl
    rw [hz] at q
    exact q
  exact ⟨⟨_, he, rfl⟩, h _ he ⟨_, Heap.get?_push_of_some _ (Heap.get?_push_size _ rfl), rfl, rfl⟩ (by rw [Heap.size_push, hz]) fun b o x => Heap.get?_push_of_some _ (Heap.get?_push_of_some _ x)⟩
end
/-- the tuple at a, each item in a new pair with its place -/
def IteT (K : PySem.W.Frag) (a : Addr) : It :=
  ⟨fun i H => ∃ (xs : List V) (x : V), SqT K H a xs ∧ xs[i]? = some x, fun i H v H' => ∃ T x, v = .ref T ∧ H T = none ∧ H' = upd H T (.tup [.int (i : Nat), x]) ∧ ∀ xs, SqT K H a xs → xs[i]? = some x, fun i H => ∃ xs : List V, SqT K H a xs ∧ xs.length ≤ i⟩
theorem turn_enumT {P : Program} {w : World} {K : PySem.W.Frag} {elts : List Expr} {kk : Nat} {tpos : Pos} (a e it : Addr) :
    Turn P w K (.Tuple elts kk tpos) (IteT K a) [e, it] e (fun i h => (∃ old, IsEnum h e it ((i : Nat) : Int) old) ∧ h.IsTupleIter it a i ∧ e ≠ it) where
  mem := by simp
  obj := fun i h st b hb => by
    obtain ⟨⟨old, he⟩, ⟨o, ho, hc, hd⟩, _⟩ := st
    rcases (show b = e ∨ b = it by simpa using hb) with z | z
    · rw [z]; exact ⟨_, he, fun v q => nomatch q⟩
    · rw [z]; exact ⟨o, ho, fun v q => by rw [hd] at q; cases q⟩
  keep := fun i h h' st k => by
    obtain ⟨⟨old, he⟩, hi, hne⟩ := st
    exact ⟨⟨old, k e (by simp) _ he⟩, hi.at fun o q => k it (by simp) o q, hne⟩
  item := by
    intro X hP hw hK hc i pins s σ H E I hf st hg
    subst hP hw hK
    obtain ⟨⟨old, he⟩, hit, hne⟩ := st
    obtain ⟨xs, x, hq, hx⟩ := hg
    obtain ⟨its, rv, p, hz⟩ := I.tuple hq
    obtain ⟨u, hu, ru⟩ := rv.get hx
    have hel : e < s.heap.objs.size := Heap.lt_size he
    have hil : it < s.heap.objs.size := by obtain ⟨_, q, _⟩ := hit; exact Heap.lt_size q
    have pT : s.heap.IsTuple a its.toArray := p
    have hai : a ≠ it := by
      rintro rfl
      obtain ⟨o1, q1, c1, _⟩ := hit
      obtain ⟨o2, q2, c2, _⟩ := pT
      rw [q1] at q2; cases q2
      rw [c1] at c2
      exact absurd c2 (by decide)
    have hea : e ≠ a := by
      rintro rfl
      obtain ⟨o2, q2, c2, _⟩ := pT
      have q1 : s.heap.get? e = _ := he
      rw [q1] at q2; cases q2
      have c3 : Value.type "enumerate" = Value.type "tuple" := c2
      injection c3 with c3
      exact absurd c3 (by decide)
    refine wpAny_pyNext_enum_itemD (Draws.tuple (A := X.A.in1) (I.ok.hd hc) it a hai its.toArray) he ⟨hit, pT⟩ (i := i) (by
      have := (List.getElem?_eq_some_iff.mp hu).1
      simpa using this) hne (by simp [hne, hea]) fun y h' tk hy ho hs' hT hsz hk => ?_
    have ey : y = u := by
      have h1 : its.toArray[i]? = some y := hy
      have h2 : its.toArray[i]? = some u := by simpa using hu
      rw [h1] at h2
      exact Option.some.inj h2
    subst ey
    refine ⟨_, rfl, wpAny_letOwnedTupleGo_enum (s := { s with heap := h', toks := tk + 1 }) ho fun h'' he' sb => ?_⟩
    have hT2 : h''.get? s.heap.objs.size = some { cls := .type "tuple", data := .seq #[.int i tk, y] } := (sb.2 _ (Nat.ne_of_gt hel)).trans hT
    have new : ObjOk X.prog X.w (upd H s.heap.objs.size (.tup [.int (i : Nat), x])) h'' s.heap.objs.size (.tup [.int (i : Nat), x]) :=
      ⟨by show 2 ≤ sizeLine; decide, [.int i tk, y], .cons ⟨_, rfl⟩ (.cons ru .nil), ⟨_, hT2, rfl, _, rfl⟩⟩
    have I1 : Inv X pins σ (upd H s.heap.objs.size (.tup [.int (i : Nat), x])) { s with heap := h'', toks := tk + 1 } :=
      I.turnedNew (ch := [e, it]) (fun b ob hb q => (sb.2 b (fun z => hb (by simp [z]))).trans (hk b ob (fun z => hb (by simp [z])) (fun z => hb (by simp [z])) q)) hf (Nat.le_refl _) new
    refine ⟨.ref s.heap.objs.size, _, I1, rfl, ⟨_, x, rfl, I.hok.fresh (Nat.le_refl _), rfl, fun ys hy => by rw [I.tuple_inj hy hq]; exact hx⟩, ⟨⟨y, ?_⟩, hs'.1.at fun o q => (sb.2 it (Ne.symm hne)).trans q, hne⟩, fun b hb => ?_⟩
    · rw [show ((i + 1 : Nat) : Int) = (i : Int) + 1 by omega]
      exact he'
    · have hb' : b < s.heap.objs.size := by
        rcases (show b = e ∨ b = it by simpa using hb) with z | z
        · rw [z]; exact hel
        · rw [z]; exact hil
      rw [upd_ne (Nat.ne_of_lt hb')]
      exact (hf b hb).1
  done := by
    intro X hP hw hK hc i pins s σ H E I hf st hg
    subst hP hw hK
    obtain ⟨⟨old, he⟩, hit, hne⟩ := st
    obtain ⟨xs, hq, hx⟩ := hg
    obtain ⟨its, rv, p, hz⟩ := I.tuple hq
    have pT : s.heap.IsTuple a its.toArray := p
    have hl := rv.length
    obtain ⟨f0, f1, f2, f3, f4, f5⟩ := hf it (by simp)
    have hai : a ≠ it := by
      rintro rfl
      obtain ⟨o1, q1, c1, _⟩ := hit
      obtain ⟨o2, q2, c2, _⟩ := pT
      rw [q1] at q2; cases q2
      rw [c1] at c2
      exact absurd c2 (by decide)
    have dn : ∀ (E' : Value → Shared → Prop) (Q : Option Value → Shared → Prop), (∀ h', Heap.ExtBut it s.heap h' → Q none { s with heap := h' }) → wpAny (model X.prog X.w) X.A (pyNext (.ref e)) Q E' s := fun E' Q hQ => by
      have hT : s.TypeIs (.ref e) "enumerate" := ⟨_, he, rfl⟩
      unfold pyNext
      refine wpAny_bind (wpAny_attempt (wpAny_callSpecial?_slot (name := Str.ofString "__next__") hT F.slot_enumerate_next
        (wpAny_call_entry F.slot_enumerate_next hT F.entry_enumerate_next ?_ (F.args_enumerate_next_1 _))))
      show wpAny _ _ (field (.ref e) 2 >>= _) _ _ _
      refine wpAny_bind (wpAny_field he rfl (x := .ref it) rfl ?_)
      refine wpAny_bind (wpAny_nextOf_tuple_end (A := X.A.in1) (I.ok.hd hc) hit pT (by simp; omega) fun h' x he' hx' => ?_)
      obtain ⟨o, ho, hc'⟩ := hx'
      refine wpAny_bind (wpAny_isInstance (T := "StopIteration") (b := true) ⟨o, ho, hc'⟩ isSubtype_stop ?_)
      exact wpAny_pure (hQ _ he')
    exact dn _ _ fun h' eb => ⟨rfl, I.turned (t' := s.toks) (fun b o hb q => eb b o hb q) f0 f1 f3 f4 f5⟩
  self := fun A i s Q E st h => by
    obtain ⟨⟨_, he⟩, _⟩ := st
    exact wpAny_pyIter_enum he h
def iEnumA (K : PySem.W.Frag) (ta : TA) : TI := fun σ H R => ta σ H fun vs H1 => ∃ a xs, vs = [.ref a] ∧ ((SqL K H1 a xs ∧ R (Ite K a) H1) ∨ (SqT K H1 a xs ∧ R (IteT K a) H1))
theorem pi_enumA {X : Cx} {e : Expr} {ta : TA} {p pos tpos : Pos} {elts : List Expr} {kk : Nat} (hg : Gl X "enumerate") (hm : X.mg "enumerate" = none) (ha : PA X [e] ta) (hs : starEach [e] X.env = [(false, eval e X.env)] := by rfl) :
    PI X (.Tuple elts kk tpos) (.Call (.Name "enumerate" p) [e] [] pos) (iEnumA X.K ta) := by
  refine ⟨fun pins s σ H R I h => ?_⟩
  refine Call_ (ld_blt I hg hm boot_enumerate (PyProof.Rows.callWith_type1 (thn (ha.run pos pins s σ H _ I h) fun us s1 ⟨vs, H1, I1, r1, q1⟩ => ?_) hs rfl))
  obtain ⟨a, xs, ex, q1⟩ := q1
  subst ex
  rw [Vals.ref1 r1]
  have two : ∀ b, b ∈ [s1.heap.objs.size + 1, s1.heap.objs.size] → FpOk X pins H1 b := fun b hb => by
    have hle : s1.heap.objs.size ≤ b := by
      rcases (show b = s1.heap.objs.size + 1 ∨ b = s1.heap.objs.size by simpa using hb) with z | z
      · rw [z]; exact Nat.le_add_right _ _
      · rw [z]; exact Nat.le_refl _
    exact I1.fpOk hle (I1.hok.fresh hle)
  rcases q1 with ⟨hq, q⟩ | ⟨hq, q⟩
  · obtain ⟨its, rv, p', hz⟩ := I1.list hq
    refine call_enumerate_list p'.isList fun h' he hit hsz hk => wpAny_pyIter_enum he ?_
    exact ⟨s1.heap.objs.size + 1, [s1.heap.objs.size + 1, s1.heap.objs.size], _, _, H1, rfl, I1.kept (t' := s1.toks) hk, turn_enum a (s1.heap.objs.size + 1) s1.heap.objs.size, ⟨⟨.none, he⟩, hit, Nat.succ_ne_self _⟩, two, q⟩
  · obtain ⟨its, rv, p', hz⟩ := I1.tuple hq
    refine call_enum_tup p' fun h' he hit hsz hk => wpAny_pyIter_enum he ?_
    exact ⟨s1.heap.objs.size + 1, [s1.heap.objs.size + 1, s1.heap.objs.size], _, _, H1, rfl, I1.kept (t' := s1.toks) hk, turn_enumT a (s1.heap.objs.size + 1) s1.heap.objs.size, ⟨⟨.none, he⟩, hit, Nat.succ_ne_self _⟩, two, q⟩

/-! ## items() of a dict with tuple keys -/
theorem frzTv {X : Cx} {pins : List (Addr × Obj)} {σ : L2.St} {H : Hp} {s : Shared} {d : Addr} {o : Obj} {kvs : List (List Key × V)} (I : Inv X pins σ H s) (h : H d = some (.frz o (.dT kvs))) :
    (d == sysModules) = false ∧ s.heap.get? d = some o ∧ o.ExactDict ∧ ∃ (es : Array DictEntry) (ep : Nat), o.data = .dict es ep ∧ es.size = kvs.length ∧
      ∀ (i : Nat) (k : List Key) (v : V), kvs[i]? = some (k, v) → ∃ (en : DictEntry) (q : Addr), es[i]? = some en ∧ en.key = .ref q ∧ H q = some (.tup (k.map kV)) ∧ RelV v en.val := by
  obtain ⟨hd, z, hs, xs, pr, o', es, ep, ho, hx, hdt, he, _⟩ := I.hok d _ h
  rw [hd] at ho
  cases ho
  refine ⟨hs, hd, hx, es, ep, hdt, ?_, fun i k v e => ?_⟩
  · have l1 : es.size = xs.length := size_of_entries he
    have l2 : kvs.length = xs.length := Paired.length pr
    omega
  · obtain ⟨b, hb, e1, e2, e3⟩ := paired_get pr e
    have q := entry_at he i
    rw [hb] at q
    exact ⟨_, b.2.1, q, rfl, e2, e3⟩

/-- the pairs, each a new tuple of the key's own tuple and the value -/
def ItiT (d : Addr) (o : Obj) (kvs : List (List Key × V)) : It :=
  ⟨fun i H => H d = some (.frz o (.dT kvs)) ∧ i < kvs.length, fun i H x H' => ∃ T k v q, kvs[i]? = some (k, v) ∧ x = .ref T ∧ H T = none ∧ H q = some (.tup (k.map kV)) ∧ H' = upd H T (.tup [.ref q, v]), fun i H => H d = some (.frz o (.dT kvs)) ∧ kvs.length ≤ i⟩
theorem turn_itemsT {P : Program} {w : World} {K : PySem.W.Frag} {d : Addr} {o : Obj} {es : Array DictEntry} {ep : Nat} {kvs : List (List Key × V)} {elts : List Expr} {kk : Nat} {tpos : Pos} (it : Addr) (hod : o.data = .dict es ep) (hx : o.ExactDict) :
    Turn P w K (.Tuple elts kk tpos) (ItiT d o kvs) [it] it (fun i h => ∃ ok ov, IsItemIter h it d i kvs.length ep ok ov) where
  mem := by simp
  obj := fun i h st b hb => by
    obtain ⟨ok, ov, e⟩ := st
    rw [show b = it by simpa using hb]
    exact ⟨_, e, fun v z => nomatch z⟩
  keep := fun i h h' st k => by
    obtain ⟨ok, ov, e⟩ := st
    exact ⟨ok, ov, k it (by simp) _ e⟩
  item := by
    intro X hP hw hK hc i pins s σ H E I hf st hg
    subst hP hw hK
    obtain ⟨hd, hi⟩ := hg
    obtain ⟨hs, hgd, hx, es', ep', hdt, hsz, ent⟩ := frzTv I hd
    obtain ⟨rfl, rfl⟩ := dict_ep hod hdt
    obtain ⟨⟨k, v⟩, hkv⟩ : ∃ p, kvs[i]? = some p := ⟨kvs[i], List.getElem?_eq_getElem hi⟩
    obtain ⟨en, q, hen, hkey, hq, rv⟩ := ent i k v hkv
    obtain ⟨ok, ov, he⟩ := st
    have hlt : it < s.heap.objs.size := Heap.lt_size he
    rw [← hsz] at he
    have hi2 : i < es'.size := by omega
    have een : es'[i] = en := by
      rw [Array.getElem?_eq_getElem hi2] at hen
      exact Option.some.inj hen
    refine DT.nextI he ⟨o, hgd, hx, hdt⟩ hi2 fun h' ho hT hz hk => ?_
    rw [een] at ho hT
    refine ⟨_, rfl, wpAny_letOwnedTupleGo_items (s := { s with heap := h' }) ho fun h'' he' sb => ?_⟩
    have hT2 : h''.get? s.heap.objs.size = some { cls := .type "tuple", data := .seq #[en.key, en.val] } := (sb.2 _ (Nat.ne_of_gt hlt)).trans hT
    have new : ObjOk X.prog X.w (upd H s.heap.objs.size (.tup [.ref q, v])) h'' s.heap.objs.size (.tup [.ref q, v]) :=
      ⟨by show 2 ≤ sizeLine; decide, [en.key, en.val], .cons (show RelV (.ref q) en.key from hkey) (.cons rv .nil), ⟨_, hT2, rfl, _, rfl⟩⟩
    have I1 : Inv X pins σ (upd H s.heap.objs.size (.tup [.ref q, v])) { s with heap := h'' } :=
      I.turnedNew (t' := s.toks) (ch := [it]) (fun b ob hb e => (sb.2 b (by simpa using hb)).trans (hk b ob (by simpa using hb) e)) hf (Nat.le_refl _) new
    refine ⟨.ref s.heap.objs.size, _, I1, rfl, ⟨_, k, v, q, hkv, rfl, I.hok.fresh (Nat.le_refl _), hq, rfl⟩, ⟨en.key, en.val, ?_⟩, fun b hb => ?_⟩
    · rw [← hsz]; exact he'
    · rw [show b = it by simpa using hb, upd_ne (Nat.ne_of_lt hlt)]
      exact (hf it (by simp)).1
  done := by
    intro X hP hw hK hc i pins s σ H E I hf st hg
    subst hP hw hK
    obtain ⟨hd, hi⟩ := hg
    obtain ⟨f0, f1, f2, f3, f4, f5⟩ := hf it (by simp)
    obtain ⟨hs, hgd, hx, es', ep', hdt, hsz, ent⟩ := frzTv I hd
    obtain ⟨rfl, rfl⟩ := dict_ep hod hdt
    obtain ⟨ok, ov, he⟩ := st
    rw [← hsz] at he
    exact DT.endI (I.ok.hd hc) he ⟨o, hgd, hx, hdt⟩ (by omega) fun h' eb => ⟨rfl, I.turned (t' := s.toks) (fun b ob hb e => eb b ob hb e) f0 f1 f3 f4 f5⟩
  self := fun A i s Q E st h => by
    obtain ⟨_, _, e⟩ := st
    exact PySem.W.kcp_self e h
def iItemsT (td : TE) : TI := fun σ H R => td σ H fun x H1 => ∃ d o kvs, x = .ref d ∧ H1 d = some (.frz o (.dT kvs)) ∧ R (ItiT d o kvs) H1
theorem pi_itemsT {X : Cx} {e : Expr} {td : TE} {apos cpos tpos : Pos} {elts : List Expr} {kk : Nat} (he : PE X e td) (hbase : attributeBase e "items" X.env (eval e X.env) = eval e X.env := by rfl) (hline : (apos.endLine == cpos.line) = true := by rfl) :
    PI X (.Tuple elts kk tpos) (.Call (.Attribute e "items" apos) [] [] cpos) (iItemsT td) := by
  refine ⟨fun pins s σ H R I h => ?_⟩
  refine wpAny_Call_method (T := "dict") (id := "dict.items") hbase rfl hline F.plainAttrs_dict F.slot_dict_items F.type_dict_items (thn (he.run pins s σ H _ I h) fun u s1 ⟨x, H1, I1, rx, d, o, kvs, ex, hd, q⟩ => ?_)
  subst ex
  obtain rfl : u = Value.ref d := rx
  obtain ⟨hs, hgd, hx, es, ep, hdt, hsz, ent⟩ := frzTv I1 hd
  have raw : DT.Raw s1.heap d es ep := ⟨o, hgd, hx, hdt⟩
  refine ⟨raw.typeIs, fun b eb => ?_, ?_⟩
  · injection eb with eb
    subst eb
    exact ⟨o, hgd, hx.2.1⟩
  · have I2 : Inv X pins σ H1 { s1 with heap := s1.heap.push { cls := .type "dict_items", data := .fields #[.ref d] } } := I1.kept (t' := s1.toks) fun b ob q => Heap.get?_push_of_some _ q
    show wpAny _ _ (callWith cpos (.builtin "dict.items") [.ref d] [] []) _ X.xe s1
    refine method_meetsIn F.slot_dict_items F.entry_dict_items rfl (PySem.evalArgs_none ⟨rfl, raw.typeIs, F.args_dict_items_1 _, _, DT.meetsItems (es := es) (ep := ep) hs, raw, ?_⟩)
    refine DT.iterI (s := { s1 with heap := s1.heap.push { cls := .type "dict_items", data := .fields #[.ref d] } }) ⟨_, Heap.get?_push_size _ rfl, rfl, rfl⟩ (raw.push _) (pi_one (tk := s1.toks) I2 _ (turn_itemsT _ hdt hx) ⟨.none, .none, ?_⟩ q)
    rw [← hsz]
    exact Heap.get?_push_size _ rfl
end VS
end

section
set_option Elab.async false
set_option linter.all false
set_option maxRecDepth 100000
set_option maxHeartbeats 1000000
namespace VS
open PySem PySem.Spec PyProof.Rows L2

section
variable {X : Cx} {pos : Pos}
/-! ## names of the module's top: ints -/
theorem m_glob {x : Str} {i : Int} {t : Tok} (hg : Gl X x) (hm : X.mg x = some (.int i t)) (hd : (x == ("__debug__" : Str)) = false := by decide) : PM X (.Name x pos) (mC (.int i)) :=
  ⟨fun F => PE.imp (pe_glob hg hm (v := .int i) ⟨_, rfl⟩ hd) (tM_C fun _ => .int i)⟩
/-! ## a <= b <= c -/
def mChain (g g' : D → D → Option D) (a b c : E D) : E D := fun env ρ => (a env ρ).bind fun x => (b env x.2).bind fun y => (g x.1 y.1).bind fun z => match z with
  | .bl true => (c env y.2).bind fun u => (g' y.1 u.1).map fun r => (r, u.2)
  | .bl false => some (.bl false, y.2)
  | _ => none
theorem m_chain {a b c : Expr} {op op' : CmpOp} {g g' : D → D → Option D} {fa fb fc : E D} (ho : OpR X (compareOp op) (rD X.K g)) (ho' : OpR X (compareOp op') (rD X.K g')) (ha : PM X a fa) (hb : PM X b fb) (hc : PM X c fc)
    (hm : lastMarks [op, op'] [b, c] = false := by with_unfolding_all rfl) : PM X (.Compare a [op, op'] [b, c] pos) (mChain g g' fa fb fc) :=
  ⟨fun F => PE.imp (pe_chain ho ho' (ha.pe F) (hb.pe F) (hc.pe F) hm) fun σ H Q ⟨env, ρ, d, ρ', r, hf, k⟩ => by
    unfold mChain at hf
    obtain ⟨⟨da, ρ1⟩, ha, hf⟩ := Option.bind_eq_some_iff.mp hf
    obtain ⟨⟨db, ρ2⟩, hb, hf⟩ := Option.bind_eq_some_iff.mp hf
    obtain ⟨z, hz, hf⟩ := Option.bind_eq_some_iff.mp hf
    refine ⟨env, ρ, da, ρ1, r, ha, fun v1 H1 e1 w1 a1 => ?_⟩
    refine ⟨env, ρ1, db, ρ2, r.eff e1 w1, hb, fun v2 H2 e2 w2 a2 => ?_⟩
    refine ⟨F.SR, da, db, z, fun p hp => w2.new hp, a1.kp (w1.kp e2), a2, hz, fun v3 H3 s3 a3 => ?_⟩
    have w3 := w2.same s3
    have r3 := ((r.eff e1 w1).eff e2 w2).eff (Eff.of_same s3) w3
    split at hf
    · cases a3
      refine ⟨true, rfl, ?_⟩
      rw [if_pos rfl]
      obtain ⟨⟨du, ρ4⟩, hu, hf⟩ := Option.bind_eq_some_iff.mp hf
      obtain ⟨q, hq, hf⟩ := Option.map_eq_some_iff.mp hf
      cases hf
      refine ⟨env, ρ2, du, _, r3, hu, fun v4 H4 e4 w4 a4 => ?_⟩
      exact ⟨F.SR, db, du, _, fun p hp => w4.new hp, (a2.kp (Kp.of_same s3)).kp (w3.kp e4), a4, hq, fun v H' s a => k v H' (((e1.trans e2).trans (Eff.of_same s3)).trans (e4.trans (Eff.of_same s))) (w4.same s) a⟩
    · cases a3
      refine ⟨false, rfl, ?_⟩
      rw [if_neg (by decide)]
      cases hf
      exact k _ H3 ((e1.trans e2).trans (Eff.of_same s3)) w3 (.bl false)
    · cases hf⟩
theorem mt_of {e : Expr} {f : E D} (h : PM X e f) (he : ∀ whole, isTrue e X.env whole = (do let v ← whole; standAt e.pos; holding [v] (truthy v)) := by intro _; rfl) : PMT X e (mTest f) := mt_val h he
theorem mt_chain {a b c : Expr} {op op' : CmpOp} {g g' : D → D → Option D} {fa fb fc : E D} (ho : OpR X (compareOp op) (rD X.K g)) (ho' : OpR X (compareOp op') (rD X.K g')) (ha : PM X a fa) (hb : PM X b fb) (hc : PM X c fc)
    (hm : lastMarks [op, op'] [b, c] = false := by with_unfolding_all rfl) : PMT X (.Compare a [op, op'] [b, c] pos) (mTest (mChain g g' fa fb fc)) :=
  ⟨fun F => PT.imp (pt_chain ho ho' (ha.pe F) (hb.pe F) (hc.pe F) hm) fun σ H Q ⟨env, ρ, t, ρ', r, hf, k⟩ => by
    unfold mTest at hf
    obtain ⟨⟨d0, ρ0⟩, hf, ht⟩ := Option.bind_eq_some_iff.mp hf
    unfold mChain at hf
    obtain ⟨⟨da, ρ1⟩, ha, hf⟩ := Option.bind_eq_some_iff.mp hf
    obtain ⟨⟨db, ρ2⟩, hb, hf⟩ := Option.bind_eq_some_iff.mp hf
    obtain ⟨z, hz, hf⟩ := Option.bind_eq_some_iff.mp hf
    refine ⟨env, ρ, da, ρ1, r, ha, fun v1 H1 e1 w1 a1 => ?_⟩
    refine ⟨env, ρ1, db, ρ2, r.eff e1 w1, hb, fun v2 H2 e2 w2 a2 => ?_⟩
    refine ⟨F.SR, da, db, z, fun p hp => w2.new hp, a1.kp (w1.kp e2), a2, hz, fun v3 H3 s3 a3 => ?_⟩
    have w3 := w2.same s3
    have r3 := ((r.eff e1 w1).eff e2 w2).eff (Eff.of_same s3) w3
    split at hf
    · cases a3
      refine ⟨true, rfl, ?_⟩
      rw [if_pos rfl]
      obtain ⟨⟨du, ρ4⟩, hu, hf⟩ := Option.bind_eq_some_iff.mp hf
      obtain ⟨q, hq, hf⟩ := Option.map_eq_some_iff.mp hf
      cases hf
      refine ⟨env, ρ2, du, _, r3, hu, fun v4 H4 e4 w4 a4 => ?_⟩
      refine ⟨F.SR, db, du, _, fun p hp => w4.new hp, (a2.kp (Kp.of_same s3)).kp (w3.kp e4), a4, hq, fun v H' s a => ?_⟩
      cases a <;> cases ht
      exact ⟨_, rfl, k H' (((e1.trans e2).trans (Eff.of_same s3)).trans (e4.trans (Eff.of_same s))) (w4.same s)⟩
    · cases a3
      refine ⟨false, rfl, ?_⟩
      rw [if_neg (by decide)]
      cases hf
      cases ht
      exact ⟨_, rfl, k H3 ((e1.trans e2).trans (Eff.of_same s3)) w3⟩
    · cases hf⟩
/-! ## tuple(range(n)), list(range(n)), range(a, b) -/
theorem rngV_at {K : PySem.W.Frag} {S : Fp} {H : Hp} (lo hi : Int) : Ats K S H (rgV lo hi) (rngD lo (hi - lo).toNat) := by
  unfold rgV rngD
  generalize (hi - lo).toNat = n
  have : ∀ l : List Nat, Ats K S H (l.map fun i => V.int (lo + (i : Nat))) (l.map fun (i : Nat) => D.int (lo + (i : Int))) := by
    intro l
    induction l with
    | nil => exact .nil
    | cons a l ih => exact .cons (.int _) ih
  exact this _
def mTupT (f : E (List D)) : E D := fun env ρ => (f env ρ).map fun x => (.tup x.1, x.2)
theorem rgOk1 {j : Int} (h : -1000000 ≤ j ∧ j ≤ 1000000) : RgOk 0 j := ⟨by omega, by omega, by omega, by omega, by omega⟩
theorem m_tupRg {a : Expr} {fa : E D} {p p1 : Pos} (hc : X.calm = true) (hg : Gl X "tuple") (hm : X.mg "tuple" = none) (hg2 : Gl X "range") (hm2 : X.mg "range" = none) (ha : PM X a fa)
    (na : starEach [.Call (.Name "range" p1) [a] [] p] X.env = (false, eval (.Call (.Name "range" p1) [a] [] p) X.env) :: starEach [] X.env := by rfl) (nb : starEach [a] X.env = (false, eval a X.env) :: starEach [] X.env := by rfl) {p2 : Pos} :
    PM X (.Call (.Name "tuple" p2) [.Call (.Name "range" p1) [a] [] p] [] pos) (mTupT (mRng1 (mCons fa mNil))) :=
  ⟨fun F => PE.imp (pe_tupRg hc hg hm (prg_1 hg2 hm2 (ha.pe F) nb) na) fun σ H Q ⟨env, ρ, d, ρ', r, hf, k⟩ => by
    unfold mTupT mRng1 mCons mNil at hf
    obtain ⟨⟨x, ρ0⟩, hf1, hl⟩ := Option.map_eq_some_iff.mp hf
    obtain ⟨⟨y, ρ1⟩, hf2, hf3⟩ := Option.bind_eq_some_iff.mp hf1
    obtain ⟨⟨da, ρ2⟩, hf4, hy⟩ := Option.bind_eq_some_iff.mp hf2
    clear hf hf1 hf2
    cases hy
    cases hl
    simp only at hf3
    split at hf3
    · rename_i j e
      cases e
      split at hf3
      · rename_i hj
        cases hf3
        refine ⟨env, ρ, _, _, r, hf4, fun v H1 e1 w1 a1 => ?_⟩
        cases a1
        refine ⟨_, rfl, rgOk1 hj, fun q hq => ?_⟩
        have sm := same_new (o := .tup (rgV 0 j)) hq
        refine k _ _ (e1.trans (Eff.of_same sm)) (w1.same sm) (.tup upd_same ?_)
        have := rngV_at (K := X.K) (S := F.SR) (H := upd H1 q (.tup (rgV 0 j))) 0 j
        rwa [Int.sub_zero] at this
      · cases hf3
    · cases hf3⟩
theorem mf_listRg {a : Expr} {fa : E D} {p p1 : Pos} (hc : X.calm = true) (hg : Gl X "list") (hm : X.mg "list" = none) (hg2 : Gl X "range") (hm2 : X.mg "range" = none) (ha : PM X a fa)
    (na : starEach [.Call (.Name "range" p1) [a] [] p] X.env = (false, eval (.Call (.Name "range" p1) [a] [] p) X.env) :: starEach [] X.env := by rfl) (nb : starEach [a] X.env = (false, eval a X.env) :: starEach [] X.env := by rfl) {p2 : Pos} :
    PMF X (.Call (.Name "list" p2) [.Call (.Name "range" p1) [a] [] p] [] pos) (mRng1 (mCons fa mNil)) :=
  ⟨fun F => PE.imp (pe_listRg hc hg hm (prg_1 hg2 hm2 (ha.pe F) nb) na) fun σ H Q ⟨env, ρ, d, ρ', r, hf, k⟩ => by
    unfold mRng1 mCons mNil at hf
    obtain ⟨⟨y, ρ1⟩, hf2, hf3⟩ := Option.bind_eq_some_iff.mp hf
    obtain ⟨⟨da, ρ2⟩, hf4, hy⟩ := Option.bind_eq_some_iff.mp hf2
    clear hf hf2
    cases hy
    simp only at hf3
    split at hf3
    · rename_i j e
      cases e
      split at hf3
      · rename_i hj
        cases hf3
        refine ⟨env, ρ, _, _, r, hf4, fun v H1 e1 w1 a1 => ?_⟩
        cases a1
        refine ⟨_, rfl, rgOk1 hj, fun q hq => ?_⟩
        have sm := same_new (o := .lst (rgV 0 j)) hq
        refine k q _ _ (e1.trans (Eff.of_same sm)) (w1.same sm) (eff_new e1 w1 hq) upd_same (w1.new hq) ?_
        have := rngV_at (K := X.K) (S := F.SR) (H := upd H1 q (.lst (rgV 0 j))) 0 j
        rwa [Int.sub_zero] at this
      · cases hf3
    · cases hf3⟩
/-! ## zip, enumerate -/
def pairsD : List D → List D → List D
  | x :: xs, y :: ys => .tup [x, y] :: pairsD xs ys
  | _, _ => []
def enumD : Nat → List D → List D
  | _, [] => []
  | i, x :: xs => .tup [.int (i : Int), x] :: enumD (i + 1) xs
theorem pairs_get : ∀ (xs ys : List D) (i : Nat) (x y : D), xs[i]? = some x → ys[i]? = some y → (pairsD xs ys)[i]? = some (.tup [x, y])
  | [], _, _, _, _, h, _ => by simp at h
  | _ :: _, [], _, _, _, _, h => by simp at h
  | a :: xs, b :: ys, 0, x, y, h, g => by
    simp only [List.getElem?_cons_zero, Option.some.injEq] at h g
    subst h; subst g; rfl
  | a :: xs, b :: ys, i + 1, x, y, h, g => by
    simp only [List.getElem?_cons_succ] at h g
    exact pairs_get xs ys i x y h g
theorem pairs_len : ∀ (xs ys : List D), (pairsD xs ys).length = min xs.length ys.length
  | [], _ => by simp [pairsD]
  | _ :: _, [] => by simp [pairsD]
  | a :: xs, b :: ys => by simp [pairsD, pairs_len xs ys] <;> omega
theorem enum_get : ∀ (xs : List D) (j i : Nat) (x : D), xs[i]? = some x → (enumD j xs)[i]? = some (.tup [.int ((j + i : Nat) : Int), x])
  | [], _, _, _, h => by simp at h
  | a :: xs, j, 0, x, h => by
    simp only [List.getElem?_cons_zero, Option.some.injEq] at h
    subst h; rfl
  | a :: xs, j, i + 1, x, h => by
    simp only [List.getElem?_cons_succ] at h
    have := enum_get xs (j + 1) i x h
    show (enumD (j + 1) xs)[i]? = _
    rw [this, show j + 1 + i = j + (i + 1) by omega]
theorem enum_imms : ∀ (xs : List D) (j : Nat), D.imms (enumD j xs) = true → D.imms xs = true
  | [], _, _ => rfl
  | a :: xs, j, h => by
    simp only [enumD, D.imm.immAll, D.imm, Bool.and_eq_true, Bool.true_and, Bool.and_true] at h ⊢
    exact ⟨h.1, enum_imms xs _ h.2⟩
theorem enum_len : ∀ (xs : List D) (j : Nat), (enumD j xs).length = xs.length
  | [], _ => rfl
  | a :: xs, j => by simp [enumD, enum_len xs (j + 1)]
theorem walk_zipT {K : PySem.W.Frag} {S : Fp} {H1 : Hp} {a b : Addr} {vs us : List V} {ds es : List D} (h : H1 a = some (.tup vs)) (q : Ats K S H1 vs ds) (h' : H1 b = some (.tup us)) (q' : Ats K S H1 us es) : Walk K S (RZ.ItzT K a b) (pairsD ds es) H1 := fun H k => by
  have g := k.2 _ _ h
  have g' := k.2 _ _ h'
  have l := q.len
  have l' := q'.len
  rw [pairs_len]
  refine ⟨fun i hi => ⟨vs, us, vs[i]'(by omega), us[i]'(by omega), .of g, .of g', List.getElem?_eq_getElem _, List.getElem?_eq_getElem _⟩, ⟨vs, us, .of g, .of g', by omega⟩, fun i x H' hi y => ?_⟩
  obtain ⟨T, x, y, rfl, hT, rfl, f1, f2⟩ := y
  have sm := same_new (o := .tup [x, y]) hT
  obtain ⟨d, hd, ad⟩ := (q.kp k).get' (f1 vs (.of g))
  obtain ⟨e, he, ae⟩ := (q'.kp k).get' (f2 us (.of g'))
  exact ⟨_, pairs_get _ _ _ _ _ hd he, sm, .tup upd_same (.cons (ad.kp (Kp.of_same sm)) (.cons (ae.kp (Kp.of_same sm)) .nil))⟩
theorem walk_enumT {K : PySem.W.Frag} {S : Fp} {H1 : Hp} {a : Addr} {vs : List V} {ds : List D} (h : H1 a = some (.tup vs)) (q : Ats K S H1 vs ds) : Walk K S (IteT K a) (enumD 0 ds) H1 := fun H k => by
  have g := k.2 _ _ h
  have l := q.len
  rw [enum_len]
  refine ⟨fun i hi => ⟨vs, vs[i]'(by omega), .of g, List.getElem?_eq_getElem _⟩, ⟨vs, .of g, by omega⟩, fun i x H' hi y => ?_⟩
  obtain ⟨T, x, rfl, hT, rfl, f1⟩ := y
  have sm := same_new (o := .tup [.int (i : Nat), x]) hT
  obtain ⟨d, hd, ad⟩ := (q.kp k).get' (f1 vs (.of g))
  refine ⟨_, enum_get _ 0 _ _ hd, sm, ?_⟩
  rw [Nat.zero_add]
  exact .tup upd_same (.cons (.int _) (.cons (ad.kp (Kp.of_same sm)) .nil))
def mZip (a b : E D) : E (List D) := fun env ρ => (a env ρ).bind fun x => (b env x.2).bind fun y => match x.1, y.1 with
  | .tup ds, .tup es => some (pairsD ds es, y.2)
  | _, _ => none
theorem mi_zip {e e2 : Expr} {f f2 : E D} {p tpos : Pos} {elts : List Expr} {kk : Nat} (hg : Gl X "zip") (hm : X.mg "zip" = none) (h : PM X e f) (h2 : PM X e2 f2)
    (hs : starEach [e, e2] X.env = (false, eval e X.env) :: starEach [e2] X.env := by rfl) (hs2 : starEach [e2] X.env = (false, eval e2 X.env) :: starEach [] X.env := by rfl) (hpl : (backTo pos (starEach [e2] X.env)).any (·.1) = false := by rfl) :
    PMI X (.Tuple elts kk tpos) (.Call (.Name "zip" p) [e, e2] [] pos) (mZip f f2) := ⟨fun F => ⟨fun pins s σ H R I ⟨env, ρ, ds, ρ', r, hf, k⟩ => by
  unfold mZip at hf
  obtain ⟨⟨da, ρ1⟩, ha, hf⟩ := Option.bind_eq_some_iff.mp hf
  obtain ⟨⟨db, ρ2⟩, hb, hf⟩ := Option.bind_eq_some_iff.mp hf
  simp only at hf
  split at hf
  · cases hf
    refine (RZ.pi_zipA (elts := elts) (kk := kk) (tpos := tpos) hg hm (pa_cons (h.pe F) (pa_cons (h2.pe F) pa_nil hs2) hs) hs hpl).run pins s σ H R I ⟨env, ρ, _, ρ1, r, ha, fun v H1 e1 w1 a1 => ⟨env, ρ1, _, _, r.eff e1 w1, hb, fun v2 H2 e2 w2 a2 => ?_⟩⟩
    have a1' := (a1.kp (w1.kp e2)).trk
    have a2' := a2.trk
    cases a1' with
    | tup g q =>
      cases a2' with
      | tup g' q' =>
        exact ⟨_, _, _, _, rfl, .inr ⟨.of g, .of g', k _ H2 (e1.trans e2) w2 (walk_zipT g q g' q').f⟩⟩
  · cases hf⟩⟩
def mEnum (a : E D) : E (List D) := fun env ρ => (a env ρ).bind fun x => match x.1 with
  | .tup ds => some (enumD 0 ds, x.2)
  | _ => none
theorem mi_enum {e : Expr} {f : E D} {p tpos : Pos} {elts : List Expr} {kk : Nat} (hg : Gl X "enumerate") (hm : X.mg "enumerate" = none) (h : PM X e f)
    (hs : starEach [e] X.env = [(false, eval e X.env)] := by rfl) (hs2 : starEach [e] X.env = (false, eval e X.env) :: starEach [] X.env := by rfl) :
    PMI X (.Tuple elts kk tpos) (.Call (.Name "enumerate" p) [e] [] pos) (mEnum f) := ⟨fun F => ⟨fun pins s σ H R I ⟨env, ρ, ds, ρ', r, hf, k⟩ => by
  unfold mEnum at hf
  obtain ⟨⟨da, ρ1⟩, ha, hf⟩ := Option.bind_eq_some_iff.mp hf
  simp only at hf
  split at hf
  · cases hf
    refine (pi_enumA (elts := elts) (kk := kk) (tpos := tpos) hg hm (pa_cons (h.pe F) pa_nil hs2) hs).run pins s σ H R I ⟨env, ρ, _, _, r, ha, fun v H1 e1 w1 a1 => ?_⟩
    have a1' := a1.trk
    cases a1' with
    | tup g q => exact ⟨_, _, rfl, .inr ⟨.of g, k _ H1 e1 w1 (walk_enumT g q).f⟩⟩
  · cases hf⟩⟩
theorem i_enum {e : Expr} {f : E D} {p tpos : Pos} {elts : List Expr} {kk : Nat} (hg : Gl X "enumerate") (hm : X.mg "enumerate" = none) (h : PM X e f)
    (hs : starEach [e] X.env = [(false, eval e X.env)] := by rfl) (hs2 : starEach [e] X.env = (false, eval e X.env) :: starEach [] X.env := by rfl) :
    PIS X (.Tuple elts kk tpos) (.Call (.Name "enumerate" p) [e] [] pos) (iImm (mEnum f)) := ⟨fun F => ⟨fun pins s σ H R I ⟨env, ρ, ds, env1, ρ1, r, hf, k⟩ => by
  unfold iImm mEnum at hf
  obtain ⟨⟨ds', ρ2⟩, hb, hf⟩ := Option.bind_eq_some_iff.mp hf
  obtain ⟨⟨da, ρ3⟩, ha, hb⟩ := Option.bind_eq_some_iff.mp hb
  split at hf
  case isFalse => cases hf
  rename_i im
  simp only [Option.some.injEq, Prod.mk.injEq] at hf
  obtain ⟨rfl, rfl, rfl⟩ := hf
  cases da with
  | tup dx =>
    simp only [Option.some.injEq, Prod.mk.injEq] at hb
    obtain ⟨rfl, rfl⟩ := hb
    refine (pi_enumA (elts := elts) (kk := kk) (tpos := tpos) hg hm (pa_cons (h.pe F) pa_nil hs2) hs).run pins s σ H R I ⟨env, ρ, _, _, r, ha, fun v H1 e1 w1 a1 => ?_⟩
    have im2 : D.imms dx = true := enum_imms dx 0 im
    cases a1 with
    | tup ht q =>
      have q' : Ats X.K (fun _ => False) H1 _ dx := q.imm im2
      exact ⟨_, _, rfl, .inr ⟨.of ht, k _ H1 F (r.row.tk e1) .refl (r.eff e1 w1) (walkS_of (walk_enumT ht q') (fun a o _ z => z.elim) fun H x d _ a => a.sub fun _ z => z.elim)⟩⟩
  | _ => cases hb⟩⟩
/-! ## tests by truth -/
def truD : D → Option Bool
  | .non => some false
  | .bl b => some b
  | .int i => some (i != 0)
  | .tup ds => some (!ds.isEmpty)
  | .lst ds => some (!ds.isEmpty)
  | _ => none
def mTru (a : E D) : E Bool := fun env ρ => (a env ρ).bind fun x => (truD x.1).map fun b => (b, x.2)
theorem mt_tru {e : Expr} {f : E D} (h : PM X e f) (he : ∀ whole, isTrue e X.env whole = (do let v ← whole; standAt e.pos; holding [v] (truthy v)) := by intro _; rfl) : PMT X e (mTru f) :=
  ⟨fun F => PT.imp (pt_truth (h.pe F) he) fun σ H Q ⟨env, ρ, d, ρ', r, hf, k⟩ => by
    unfold mTru at hf
    obtain ⟨⟨da, ρ1⟩, ha, hf⟩ := Option.bind_eq_some_iff.mp hf
    obtain ⟨b, hb, hf⟩ := Option.map_eq_some_iff.mp hf
    cases hf
    refine ⟨env, ρ, da, ρ1, r, ha, fun v H1 e1 w1 a1 => ?_⟩
    cases a1 with
    | non => cases hb; exact ⟨_, rfl, k H1 e1 w1⟩
    | bl x => cases hb; exact ⟨_, rfl, k H1 e1 w1⟩
    | int i => cases hb; exact ⟨_, rfl, k H1 e1 w1⟩
    | @tup a vs ds hx q =>
      cases hb
      refine ⟨_, .inr (.inl ⟨vs, .of hx, ?_⟩), k H1 e1 w1⟩
      have := q.len
      cases vs <;> cases ds <;> (first | rfl | simp at this)
    | @lst a vs ds hx q =>
      cases hb
      refine ⟨_, .inl ⟨vs, hx.sq, ?_⟩, k H1 e1 w1⟩
      have := q.len
      cases vs <;> cases ds <;> (first | rfl | simp at this)
    | _ => cases hb⟩
/-! ## d[k] -/
def dgetD (d k : D) : Option D := match d with
  | .dic es => k.key.bind (dicGet es)
  | _ => none
theorem m_dget {a b : Expr} {fa fb : E D} (hu : X.A.units + 1 < cLine) (ha : PM X a fa) (hb : PM X b fb) (hs : NoSl b := by intro _ _; rfl) : PM X (.Subscript a b pos) (mOp dgetD fa fb) :=
  ⟨fun F => PE.imp (pe_dget hu (ha.pe F) (hb.pe F) hs) fun σ H Q ⟨env, ρ, d, ρ', r, hf, k⟩ => by
    unfold mOp at hf
    obtain ⟨⟨da, ρ1⟩, ha, hf⟩ := Option.bind_eq_some_iff.mp hf
    obtain ⟨⟨db, ρ2⟩, hb, hf⟩ := Option.bind_eq_some_iff.mp hf
    obtain ⟨z, hz, hf⟩ := Option.map_eq_some_iff.mp hf
    cases hf
    refine ⟨env, ρ, da, ρ1, r, ha, fun v1 H1 e1 w1 a1 => ?_⟩
    refine ⟨env, ρ1, db, _, r.eff e1 w1, hb, fun v2 H2 e2 w2 a2 => ?_⟩
    unfold dgetD at hz
    have a1' := a1.kp (w1.kp e2)
    cases a1' with
    | @dic p kvs es h s q =>
      obtain ⟨key, hk, hz⟩ := Option.bind_eq_some_iff.mp hz
      obtain ⟨b, rfl, hb2⟩ := key_at a2 hk
      have g := ents_get (k := key) q
      cases hv : valV kvs key with
      | none => rw [hv] at g; simp only at g; rw [g] at hz; cases hz
      | some v =>
        rw [hv] at g
        obtain ⟨d', hd, ad⟩ := g
        rw [hd] at hz
        cases hz
        exact ⟨p, v, rfl, hv ▸ DGet.t h hb2, k v H2 (e1.trans e2) w2 ad⟩
    | _ => cases hz⟩
/-! ## what is never reached -/
def cNever : C := fun _ _ => none
theorem s_never {st : Stmt} : PMS X st cNever := ⟨fun F => PS.imp ps_never fun D σ H ⟨env, ρ, o, env', ρ', r, hc, k⟩ => by cases hc⟩
/-! ## lists joined -/
def tML (K : PySem.W.Frag) (F : Frm) (f : E (List D)) : TE := fun σ H Q => ∃ env ρ d ρ', Rel K F σ H env ρ ∧ f env ρ = some (d, ρ') ∧
  ∀ p vs H', Eff F H H' → RowIs K F H' ρ' → H' p = some (.lst vs) → F.SR p → Ats K F.SR H' vs d → Q (.ref p) H'
/-- gives a list that is tracked and not locked: a new one, or a name's own -/
structure PML (X : Cx) (e : Expr) (f : E (List D)) : Prop where
  pe : ∀ F : Frm, PE X e (tML X.K F f)
theorem ml_f {e : Expr} {f : E (List D)} (h : PMF X e f) : PML X e f := ⟨fun F => PE.imp (h.pe F) fun σ H Q ⟨env, ρ, d, ρ', r, hf, k⟩ => ⟨env, ρ, d, ρ', r, hf, fun p vs H' e w h0 h1 hr a => k p vs H' e w h1 hr a⟩⟩
def mLv (i : Nat) : E (List D) := fun env ρ => match env[i]? with
  | some (.lst ds) => some (ds, ρ)
  | some (.fz ds) => some (ds, ρ)
  | _ => none
theorem ml_var {i : Nat} {x : Str} (hN : X.N[i]? = some x) (hv : Vis X.env.scope x) (hd : (x == ("__debug__" : Str)) = false := by decide) (hcd : (x == ("__classdict__" : Str)) = false := by decide) : PML X (.Name x pos) (mLv i) :=
  ⟨fun F => PE.imp (pe_var hN hv hd hcd) fun σ H Q ⟨env, ρ, d, ρ', r, hf, k⟩ => by
    unfold mLv at hf
    split at hf
    · rename_i ds hi
      cases hf
      obtain ⟨x, hx, p, vs, ex, h1, h2, h3, a, _⟩ := r.get hi
      exact ⟨_, by rw [hx, ex], k p vs H Eff.refl r.row h1 h3 (a.sub F.S0R)⟩
    · rename_i ds hi
      cases hf
      obtain ⟨x, hx, p, vs, ex, h1, h2, h3, a⟩ := r.get hi
      exact ⟨_, by rw [hx, ex], k p vs H Eff.refl r.row h1 h3 (a.sub F.S0R)⟩
    · cases hf⟩
def mCat (a b : E (List D)) : E (List D) := fun env ρ => (a env ρ).bind fun x => (b env x.2).bind fun y => if x.1.length + y.1.length ≤ 1000000 then some (x.1 ++ y.1, y.2) else none
theorem mf_cat {a b : Expr} {fa fb : E (List D)} (ha : PML X a fa) (hb : PML X b fb) : PMF X (.BinOp a .Add b pos) (mCat fa fb) :=
  ⟨fun F => PE.imp (pe_op op_cat (ha.pe F) (hb.pe F)) fun σ H Q ⟨env, ρ, d, ρ', r, hf, k⟩ => by
    unfold mCat at hf
    obtain ⟨⟨da, ρ1⟩, ha, hf⟩ := Option.bind_eq_some_iff.mp hf
    obtain ⟨⟨db, ρ2⟩, hb, hf⟩ := Option.bind_eq_some_iff.mp hf
    split at hf
    · rename_i hl
      cases hf
      refine ⟨env, ρ, da, ρ1, r, ha, fun p vs H1 e1 w1 h1 s1 a1 => ⟨env, ρ1, db, _, r.eff e1 w1, hb, fun q us H2 e2 w2 h2 s2 a2 => ?_⟩⟩
      have a1' := a1.kp (w1.kp e2)
      refine ⟨p, q, vs, us, rfl, rfl, e2 p _ h1 s1.1, h2, by rw [a1.len, a2.len]; exact big hl, fun t ht => ?_⟩
      have sm := same_new (o := .lst (vs ++ us)) ht
      exact k t _ _ ((e1.trans e2).trans (Eff.of_same sm)) (w2.same sm) (eff_new (e1.trans e2) w2 ht) upd_same (w2.new ht) ((a1'.app a2).kp (Kp.of_same sm))
    · cases hf⟩
end
end VS
end

section
set_option Elab.async false
set_option linter.all false
set_option maxRecDepth 100000
set_option maxHeartbeats 1000000
namespace VS
open PySem PySem.Spec PyProof.Rows L2

/-! ## {k: v}, k a tuple -/
theorem keys_back : ∀ {ds : List D} {k : List Key}, D.keys ds = some k → ds = k.map keyD
  | [], k, h => by simp only [D.keys, Option.some.injEq] at h; subst h; rfl
  | .int i :: ds, k, h => by
    simp only [D.keys, Option.map_eq_some_iff] at h
    obtain ⟨r, h, rfl⟩ := h
    rw [keys_back h]; rfl
  | .str x :: ds, k, h => by
    simp only [D.keys, Option.map_eq_some_iff] at h
    obtain ⟨r, h, rfl⟩ := h
    rw [keys_back h]; rfl
  | .non :: _, _, h => by simp [D.keys] at h
  | .bl _ :: _, _, h => by simp [D.keys] at h
  | .tup _ :: _, _, h => by simp [D.keys] at h
  | .lst _ :: _, _, h => by simp [D.keys] at h
  | .dic _ :: _, _, h => by simp [D.keys] at h
  | .st _ :: _, _, h => by simp [D.keys] at h
section
variable {X : Cx} {pos : Pos}
def tDisp1 (tk tv : TE) : TE := fun σ H Q => ∀ p, H p = none → tk σ (upd H p (.dT [])) fun x H1 => tv σ H1 fun y H2 => ∃ (k : List Key) (b : Addr), H2 p = some (.dT []) ∧ x = .ref b ∧ H2 b = some (.tup (k.map kV)) ∧ Q (.ref p) (upd H2 p (.dT [(k, y)]))
theorem pe_disp1 {k v : Expr} {tk tv : TE} (hu : X.A.units + 2 < cLine) (hk : PE X k tk) (hv : PE X v tv) : PE X (.Dict [some k] [v] pos) (tDisp1 tk tv) := by
  refine ⟨fun pins s σ H Q I h => ?_⟩
  have hn := I.hok.fresh (Nat.le_refl s.heap.objs.size)
  have I1 := I.laid (a := s.heap.objs.size) (o := .dT []) (h' := s.heap.push { cls := .type "dict", data := .dict #[] }) (t' := s.toks) (fun _ _ q => Heap.get?_push_of_some _ q) (Nat.le_refl _) (dt_empty s.heap I.big)
  have hroom : (tupleKind (mixKind X.prog X.w)).room X.A := by show X.A.units < cLine; omega
  rw [arm_eval_Dict, zip_pairTrees [some k] [v] X.env pos rfl rfl, dictDisplay_pairs (pairTrees [some k] [v] X.env pos) (by simp [pairTrees]) (by simp [pairTrees])]
  refine wpAny_bind (wpAny_standAt (wpAny_bind (wpAny_subDictH (knd := tupleKind (mixKind X.prog X.w)) hroom (by simp [pairTrees]) ?_)))
  refine wpAny_mono (Q := fun vs s' => ∃ kv vv H2 x y, vs = [(kv, vv)] ∧ Inv X pins σ H2 s' ∧ RelV x kv ∧ RelV y vv ∧ ∃ (k : List Key) (b : Addr), H2 s.heap.objs.size = some (.dT []) ∧ x = .ref b ∧ H2 b = some (.tup (k.map kV)) ∧ Q (.ref s.heap.objs.size) (upd H2 s.heap.objs.size (.dT [(k, y)]))) ?_ (fun vs s' h' => ?_) fun _ _ e => e
  · refine pairTrees_cons_walk (thn (hk.run pins _ σ _ _ I1 (h _ hn)) fun kv s1 ⟨x, H1, I1, r1, q1⟩ => thn (hv.run pins _ σ _ _ I1 q1) fun vv s2 ⟨y, H2, I2, r2, q2⟩ => pairTrees_nil_walk ?_)
    exact ⟨kv, vv, H2, x, y, rfl, I2, r1, r2, q2⟩
  · obtain ⟨kv, vv, H2, x, y, rfl, I2, r1, r2, key, b, hp, rfl, hb, q⟩ := h'
    cases (show kv = Value.ref b from r1)
    have dd0 := dt_of I2.hok hp
    obtain ⟨z, hd, xs, rel, dd⟩ := dd0
    have hx : xs = [] := by cases rel; rfl
    subst hx
    refine ⟨[(key, b, vv)], ⟨rfl, rfl, key_of I2.hok hb, trivial⟩, dd, fun h' tk dd' sb => ?_⟩
    obtain ⟨o, es, ep, ho, hc, hdt, he, _, hnd⟩ := dd'
    refine wpAny_pure ⟨.ref s.heap.objs.size, _, ?_, rfl, q⟩
    refine d_write (t' := tk) I2 (by rw [hp]; exact True.intro) sb ⟨o, ho⟩ ⟨(show 1 ≤ sizeLine by decide), hd, [(key, b, vv)], .cons ⟨rfl, ?_, r2⟩ .nil, o, es, ep, ho, hc, hdt, he, hnd⟩
    show upd H2 _ _ b = _
    rw [upd_ne (ne_of hb hp (fun z => nomatch z))]
    exact hb
def mDisp1 (fk fv : E D) : E (List D) := fun env ρ => (fk env ρ).bind fun x => (fv env x.2).bind fun y => if y.1.imm = true then x.1.key.map fun _ => ([.tup [x.1, y.1]], y.2) else none
theorem md_disp1 {k v : Expr} {fk fv : E D} (hu : X.A.units + 2 < cLine) (hk : PM X k fk) (hv : PM X v fv) : PMD X (.Dict [some k] [v] pos) (mDisp1 fk fv) :=
  ⟨fun F => PE.imp (pe_disp1 hu (hk.pe F) (hv.pe F)) fun σ H Q ⟨env, ρ, d, ρ', r, hf, k⟩ => by
    unfold mDisp1 at hf
    obtain ⟨⟨da, ρ1⟩, ha, hf⟩ := Option.bind_eq_some_iff.mp hf
    obtain ⟨⟨db, ρ2⟩, hb, hf⟩ := Option.bind_eq_some_iff.mp hf
    split at hf
    case isFalse => cases hf
    rename_i im
    obtain ⟨key, hkey, hf⟩ := Option.map_eq_some_iff.mp hf
    cases hf
    intro p hp
    have sm := same_new (o := .dT []) hp
    have r1 : Rel X.K F σ (upd H p (.dT [])) env ρ := r.eff (Eff.of_same sm) (r.row.same sm)
    refine ⟨env, ρ, da, ρ1, r1, ha, fun v1 H1 e1 w1 a1 => ?_⟩
    refine ⟨env, ρ1, db, ρ2, r1.eff e1 w1, hb, fun v2 H2 e2 w2 a2 => ?_⟩
    have a1' := a1.kp (w1.kp e2)
    obtain ⟨b, rfl, hb2⟩ := key_at a1' hkey
    have srp : F.SR p := r.row.new hp
    have g : H2 p = some (.dT []) := e2 p _ (e1 p _ upd_same srp.1) srp.1
    refine ⟨key, b, g, rfl, hb2, ?_⟩
    have edk : da = .tup (key.map keyD) := by
      cases da <;> simp only [D.key, reduceCtorEq] at hkey
      rw [keys_back hkey]
    have kp2 : ∀ S : Fp, (∀ a, S a → a ≠ p) → Kp S H2 (upd H2 p (.dT [(key, v2)])) := fun S hS => ⟨fun a o h s => by rw [upd_ne (hS a s)]; exact h, fun a xs h => by rw [upd_ne (by rintro rfl; rw [g] at h; cases h)]; exact h⟩
    -- what was tracked at H is kept; only p is new
    have eff : Eff F H (upd H2 p (.dT [(key, v2)])) := fun a o h n => by
      have hne : a ≠ p := ne_of_none h hp
      rw [upd_ne hne]
      exact e2 a o (e1 a o (sm a o h) n) n
    have row : RowIs X.K F (upd H2 p (.dT [(key, v2)])) ρ2 := by
      refine ⟨fun a h => ?_, fun a h => ?_, w2.2.2⟩
      · obtain ⟨vs, h1, h2⟩ := w2.1 a h
        have hne : a ≠ p := fun z => srp.1 (z ▸ h)
        refine ⟨vs, by rw [upd_ne hne]; exact h1, h2.kp (kp2 _ fun c gc => ?_)⟩
        rintro rfl
        obtain ⟨⟨o, q⟩, sr⟩ := w2.2.2 c gc
        have := r.base c o q sr.1
        rw [hp] at this; cases this
      · obtain ⟨n, o, h1⟩ := w2.2.1 a h
        by_cases e : a = p
        · subst e; exact ⟨n, _, upd_same⟩
        · exact ⟨n, o, by rw [upd_ne e]; exact h1⟩
    refine k p [(key, v2)] _ eff row hp upd_same srp ?_
    rw [edk]
    refine .cons ?_ .nil
    have a2o : At X.K (fun a => F.SR a ∧ a ≠ p) H2 v2 db := a2.imm im
    exact (a2o.kp (kp2 _ fun a h => h.2)).sub fun a h => h.1⟩

/-! ## list(d), d a dict -/
def keyOfD : D → D
  | .tup [k, _] => k
  | d => d
theorem key_ats {K : PySem.W.Frag} {S : Fp} {H : Hp} : ∀ k : List Key, Ats K S H (k.map kV) (k.map keyD)
  | [] => .nil
  | .inl i :: k => .cons (.int i) (key_ats k)
  | .inr x :: k => .cons (.str x) (key_ats k)
theorem ats_keys {K : PySem.W.Frag} {S : Fp} {H : Hp} : ∀ {kvs : List (List Key × V)} {bs : List Addr} {es : List D}, IsKeys H kvs bs → Ents K S H kvs es → Ats K S H (bs.map V.ref) (es.map keyOfD)
  | [], _, _, h, q => by cases h; cases q; exact .nil
  | (k, v) :: kvs, _, _, h, q => by
    cases h with
    | cons h1 h2 =>
      cases q with
      | cons a q => exact .cons (.tup h1 (key_ats k)) (ats_keys h2 q)
def listDF : List D → Option (List D)
  | [.dic es] => if es.length ≤ 1000000 then some (es.map keyOfD) else none
  | _ => none
theorem c_listD (hc : X.calm = true) : CallR X (.type "list") (rDF X.K listDF) := CallR.imp (call_list_dT hc) fun xs H Q ⟨S, ds, zs, new, a, hg, k⟩ => by
  unfold listDF at hg
  split at hg
  · split at hg
    · cases hg
      cases a with
      | cons a b =>
        cases b
        cases a with
        | @dic p kvs es h s q =>
          refine ⟨p, kvs, rfl, .of h, fun t bs ht ks => ?_⟩
          have sm := same_new (o := .lst (bs.map V.ref)) ht
          exact k t _ _ sm ht upd_same ((ats_keys ks q).kp (Kp.of_same sm))
    · cases hg
  · cases hg
/-! ## sorted(d) -/
section
variable {prog : Program} {w : World} {A : Around} {E : Value → Shared → Prop} {s : Shared}
theorem collect_kdl {T : String} {r d : Addr} {n : Nat} {Pv : Nat → Value → Prop} {OK : Heap → Prop} {Q : List Value → Shared → Prop} (Z : PySem.W.KdlSrc prog w T r d n Pv OK) (hh : A.handled = none) (hok : OK s.heap) (hn : n ≤ sizeLine)
    (hQ : ∀ (h' : Heap) (tk : Nat) (acc : Array Value), (∀ b o, s.heap.get? b = some o → h'.get? b = some o) → s.heap.objs.size < h'.objs.size → ItemsOf Pv acc n → Q acc.toList { s with heap := h', toks := tk }) :
    wpAny (model prog w) A (collect (.ref r)) Q E s := by
  obtain ⟨hr, hd⟩ := Z.there _ hok
  unfold collect
  refine wpAny_bind (wpAny_runValue (codeAny_builtin F.entry_proto_collect ?_))
  rw [Around.under_plainId F.plain_proto_collect _]
  show wpAny _ A.in1 (newList [] >>= fun l => again (.builtin "list.__iadd__" ⟨[l, .ref r], []⟩)) _ _ s
  refine wpAny_bind (wpAny_newObj_type ?_)
  refine wpAny_pure ⟨plainId_quiet F.plain_list_iadd _, codeAny_builtin F.entry_list_iadd ?_⟩
  rw [Around.under_plainId F.plain_list_iadd _]
  have hS : (s.heap.push { cls := .type "list", data := .seq ([] : List Value).toArray }).get? s.heap.objs.size = some { cls := .type "list", data := .seq #[] 0 } := Heap.get?_push_size _ rfl
  refine wpAny_mono (PySem.W.kdl_extend (A := A) (R := fun z s' => z = .ok (.ret (.ref s.heap.objs.size)) ∧ ∃ (h' : Heap) (tk : Nat) (acc : Array Value) (c' : Nat), s' = { s with heap := h', toks := tk } ∧
      (∀ b o, s.heap.get? b = some o → h'.get? b = some o) ∧ h'.get? s.heap.objs.size = some { cls := .type "list", dict := none, data := .seq acc c', slots := #[] } ∧ ItemsOf Pv acc n)
    (s := { s with heap := s.heap.push { cls := .type "list", data := .seq ([] : List Value).toArray } }) Z hh (Z.keep _ _ hok fun b _ o e => Heap.get?_push_of_some _ e) s.heap.objs.size (Nat.ne_of_gt hr) (Nat.ne_of_gt hd) (.ref s.heap.objs.size) 0 hS
    (fun h' tk acc c' hk e hi => ⟨rfl, h', tk, acc, c', rfl, fun b o q => hk b o (Nat.ne_of_lt (Heap.lt_size q)) (Heap.get?_push_of_some _ q), e, hi⟩) hn) (fun fin s' h => ?_) (fun e s' h => absurd h.1 (by simp))
  have last : ∀ (h' : Heap) (tk : Nat) (acc : Array Value) (c' : Nat), (∀ b o, s.heap.get? b = some o → h'.get? b = some o) → h'.get? s.heap.objs.size = some { cls := .type "list", dict := none, data := .seq acc c', slots := #[] } → ItemsOf Pv acc n →
      wpAny (model prog w) A (load s.heap.objs.size >>= fun u => match u.data with
        | .seq ys _ => pure ys.toList
        | _ => unsupported "internal:collect") Q E { s with heap := h', toks := tk } := fun h' tk acc c' hk e hi => wpAny_bind (wpAny_load e (wpAny_pure (hQ h' tk acc hk (Heap.lt_size e) hi)))
  cases fin with
  | done f =>
    obtain ⟨e, h', tk, acc, c', rfl, hk, he, hi⟩ := h
    cases e
    exact last h' tk acc c' hk he hi
  | again c' =>
    refine ⟨h.1, codeAny_mono h.2 fun z s'' hz => ?_⟩
    obtain ⟨rfl, h', tk, acc, c', rfl, hk, he, hi⟩ := hz
    exact last h' tk acc c' hk he hi
end
def sortedDF : List D → Option (List D)
  | [.dic es] => sortL (es.map keyOfD)
  | _ => none
theorem c_sortedD (hc : X.calm = true) (hu : X.A.units + 64 < cLine) : CallR X (.builtin "sorted") (rDF X.K sortedDF) := fun pins s σ H xs us Q I r ⟨S, ds, zs, new, a, hg, k⟩ => by
  unfold sortedDF at hg
  split at hg
  · rename_i es
    cases a with
    | cons a b =>
      cases b
      cases a with
      | @dic d kvs _ hd hs q =>
        rw [Vals.ref1 r]
        have hok := (sortL_merge hg).2
        obtain ⟨_, hpy, _, _⟩ := sortOk_spec hok
        obtain ⟨z, hsy, ks, pr, o, en, ep, ho, hx, hdt, he, hn⟩ := (show ObjOk X.prog X.w H s.heap d (.dT kvs) from (Rd.of hd).ok I.hok)
        have l1 : en.size = ks.length := size_of_entries he
        have l2 : kvs.length = ks.length := Paired.length pr
        refine sorted_by (fun K hK => collect_kdl (kdl_raw hsy hx hdt) (I.ok.hd hc) ho (by omega) fun h' tk acc kp lt it => ?_) (by omega)
        have ea : acc.toList = (ks.map fun x => x.2.1).map Value.ref := by
          have hl : acc.toList.length = ks.length := by rw [Array.length_toList, it.1]; exact l1
          refine List.ext_getElem? fun j => ?_
          rw [List.map_map, List.getElem?_map]
          cases hj : acc.toList[j]? with
          | none => rw [List.getElem?_eq_none (by have := List.getElem?_eq_none_iff.mp hj; omega)]; rfl
          | some v =>
            obtain ⟨e1, h1, hv⟩ := it.2 j v (by rw [← Array.getElem?_toList]; exact hj)
            have qe := entry_at he j
            rw [h1] at qe
            obtain ⟨b, hb, e2⟩ := Option.map_eq_some_iff.mp qe.symm
            rw [hb, hv, ← e2]
            rfl
        have rv : Vals ((ks.map fun x => x.2.1).map V.ref) acc.toList := by rw [ea]; exact vals_refs _
        have q2 := ats_keys (isKeys_of pr) q
        have hl := q2.len
        have e2 : (((ks.map fun x => x.2.1).map V.ref).zip (es.map keyOfD)).map Prod.snd = es.map keyOfD := List.map_snd_zip (by omega)
        refine hK _ _ (((ks.map fun x => x.2.1).map V.ref).zip (es.map keyOfD)) (by rw [← rv.length, List.length_map, List.length_map]; omega) (each_rdv rv hl) ?_ (by rw [e2]; exact hok) fun out cs eo pm em hlo c h2 hh2 kp2 => ?_
        · exact (each_reads I q2 rv fun d hd => (hpy d hd).imp fun p h => h.1).mono fun v b ⟨as, r⟩ => ⟨as, PyProof.Rows.Reads.keeps kp r⟩
        · have hlt : s.heap.objs.size ≤ h'.objs.size := Nat.le_of_lt lt
          have hfr : H h'.objs.size = none := I.hok.fresh hlt
          have ac : Ats X.K S H (cs.map Prod.fst) zs := by
            have h1 : cs.map Prod.snd = zs := by
              rw [em, e2]
              unfold sortL at hg
              rw [if_pos hok] at hg
              exact Option.some.inj hg
            rw [← h1]
            exact zip_ats fun b hb => ats_zip q2 b (pm.mem_iff.mp hb)
          have sm := same_new (o := .lst (cs.map Prod.fst)) hfr
          exact ⟨.ref _, upd H h'.objs.size (.lst (cs.map Prod.fst)), I.laid (t' := tk) (fun b o q => kp2 b o (kp b o q)) hlt ⟨by rw [List.length_map, ← eo.length]; exact hlo, out, c, rdv_vals eo, hh2⟩, rfl, k _ _ _ sm hfr upd_same (ac.kp (Kp.of_same sm))⟩
  · cases hg
end
end VS
end

section
set_option Elab.async false
set_option linter.all false
set_option maxRecDepth 100000
set_option maxHeartbeats 1000000
namespace VS
open PySem PySem.Spec PyProof.Rows L2

/-! ## a dict is locked while it is walked -/
def Frm.lock (F : Frm) (d : Addr) (o : HO) : Frm := { F with H0 := fun b => if b = d then some o else F.H0 b, Pr := fun b => if b = d then none else F.Pr b, Ex := d :: F.Ex, G := fun _ => False }
def lock1 : SV → SV
  | .dat x => if x.imm = true then .dat x else .un
  | .row => .row
  | _ => .un
def lockE (env : List SV) : List SV := env.map lock1
section
variable {K : PySem.W.Frag} {F : Frm} {σ : L2.St} {H : Hp} {env : List SV} {ρ : List D} {d : Addr} {od : Obj} {kvs : List (List Key × V)}
abbrev frzd (od : Obj) (kvs : List (List Key × V)) : HO := .frz od (.dT kvs)
theorem imm_upd {S T : Fp} {v : V} {e : D} {o : HO} (im : e.imm = true) (a : At K S H v e) (hd : ∀ xs, H d ≠ some (.tup xs)) : At K T (upd H d o) v e :=
  ((a.imm (T := fun _ => False) im).kp ⟨fun a o h s => s.elim, fun a xs h => by rw [upd_ne (by rintro rfl; exact hd xs h)]; exact h⟩).sub fun _ s => s.elim
theorem lock_sr {a : Addr} {o : HO} (h : (F.lock d o).SR a) : F.SR a ∧ a ≠ d := ⟨⟨h.1, fun z => h.2 (List.mem_cons_of_mem _ z)⟩, fun z => h.2 (by rw [z]; exact List.mem_cons_self)⟩
theorem lock_h0 {a : Addr} {o u : HO} (ne : a ≠ d) (h : F.H0 a = some u) : (F.lock d o).H0 a = some u := by
  show (if a = d then some o else F.H0 a) = some u
  rw [if_neg ne]; exact h
theorem lock_h0n {a : Addr} {o : HO} (h : (F.lock d o).H0 a = none) : F.H0 a = none := by
  have h : (if a = d then some o else F.H0 a) = none := h
  split at h
  · cases h
  · exact h
theorem lock_s0 {a : Addr} {o : HO} (h : (F.lock d o).S0 a) : F.S0 a ∧ a ≠ d := by
  obtain ⟨⟨u, h1⟩, s⟩ := h
  obtain ⟨s1, ne⟩ := lock_sr s
  have h1 : (if a = d then some o else F.H0 a) = some u := h1
  rw [if_neg ne] at h1
  exact ⟨⟨⟨u, h1⟩, s1⟩, ne⟩
theorem Rel.lock (r : Rel K F σ H env []) (hd : H d = some (.dT kvs)) (sd : F.SR d) : Rel K (F.lock d (frzd od kvs)) σ (upd H d (frzd od kvs)) (lockE env) [] := by
  have nt : ∀ xs, H d ≠ some (.tup xs) := fun xs h => by rw [hd] at h; cases h
  refine ⟨fun a o h n => ?_, fun a o h => ?_, ⟨fun a h => ?_, fun a h => ?_, fun a h => h.elim⟩, by simp [lockE, r.len], fun i x s h1 h2 => ?_, fun i j s t a _ h1 o1 _ _ _ _ => ?_⟩
  · have h : (if a = d then some (frzd od kvs) else F.H0 a) = some o := h
    split at h
    · rename_i e
      cases h; subst e
      exact upd_same
    · rename_i ne
      rw [upd_ne ne]
      exact r.base a o h n
  · have h : (if a = d then none else F.Pr a) = some o := h
    split at h
    · cases h
    · rename_i ne
      rw [upd_ne ne]
      exact r.pr a o h
  · obtain ⟨vs, h1, h2⟩ := r.row.1 a h
    cases h2
    have ne : a ≠ d := fun z => sd.1 (z ▸ h)
    exact ⟨[], by rw [upd_ne ne]; exact h1, .nil⟩
  · rcases List.mem_cons.mp h with h | h
    · subst h
      exact ⟨sd.1, _, upd_same⟩
    · obtain ⟨n, o, h1⟩ := r.row.2.1 a h
      have ne : a ≠ d := fun z => sd.2 (z ▸ h)
      exact ⟨n, o, by rw [upd_ne ne]; exact h1⟩
  · unfold lockE at h2
    rw [List.getElem?_map] at h2
    obtain ⟨t, h3, rfl⟩ := Option.map_eq_some_iff.mp h2
    have sl := r.slot i x t h1 h3
    cases t with
    | dat e =>
      show SlotOk K _ _ x (if e.imm = true then .dat e else .un)
      split
      · rename_i im
        obtain ⟨v, ev, av⟩ := sl
        exact ⟨v, ev, imm_upd im av nt⟩
      · trivial
    | row => exact sl
    | _ => trivial
  · unfold lockE at h1
    rw [List.getElem?_map] at h1
    obtain ⟨t', _, rfl⟩ := Option.map_eq_some_iff.mp h1
    cases t' with
    | dat e =>
      have o1 : (if e.imm = true then SV.dat e else .un).owned = true := o1
      split at o1 <;> cases o1
    | _ => cases o1
theorem lock_at (r : Rel K (F.lock d (frzd od kvs)) σ H env ρ) (sd : F.SR d) : H d = some (frzd od kvs) := r.base d _ (by show (if d = d then some _ else _) = _; rw [if_pos rfl]) sd.1
theorem lock_kp {S : Fp} {u : HO} (hd : H d = some (frzd od kvs)) (h : ∀ a, S a → a ≠ d) : Kp S H (upd H d u) := ⟨fun a o h' s => by rw [upd_ne (h a s)]; exact h', fun a xs h' => by rw [upd_ne (by rintro rfl; rw [hd] at h'; cases h')]; exact h'⟩
theorem Rel.unlock (r : Rel K (F.lock d (frzd od kvs)) σ H env ρ) (h0 : ∀ o, F.H0 d = some o → o = .dT kvs) (hp : ∀ o, F.Pr d = some o → o = .dT kvs) (sd : F.SR d) (hG : ∀ a, F.G a → F.S0 a) : Rel K F σ (upd H d (.dT kvs)) env ρ := by
  have hd := lock_at r sd
  have kp : Kp (F.lock d (frzd od kvs)).S0 H (upd H d (.dT kvs)) := lock_kp hd fun a s => (lock_s0 s).2
  have kpR : Kp (F.lock d (frzd od kvs)).SR H (upd H d (.dT kvs)) := lock_kp hd fun a s => (lock_sr s).2
  have noneP : ∀ p, p ≠ d → (F.lock d (frzd od kvs)).Pr p = none → F.Pr p = none := fun p n z => by
    have z : (if p = d then none else F.Pr p) = none := z
    rwa [if_neg n] at z
  have keep : ∀ p o, p ≠ d → H p = some o → upd H d (.dT kvs) p = some o := fun p o n h => by rw [upd_ne n]; exact h
  have sub0 : ∀ a, (F.lock d (frzd od kvs)).S0 a → F.S0 a := fun a s => (lock_s0 s).1
  refine ⟨fun a o h n => ?_, fun a o h => ?_, ⟨fun a h => ?_, fun a h => ?_, hG⟩, r.len, fun i x s h1 h2 => ?_, r.dis⟩
  · by_cases e : a = d
    · subst e
      rw [h0 o h, upd_same]
    · rw [upd_ne e]
      exact r.base a o (lock_h0 e h) n
  · by_cases e : a = d
    · subst e
      rw [hp o h, upd_same]
      exact ⟨rfl, sd.1⟩
    · rw [upd_ne e]
      exact r.pr a o (by show (if a = d then none else F.Pr a) = some o; rw [if_neg e]; exact h)
  · obtain ⟨vs, h1, h2⟩ := r.row.1 a h
    have ne : a ≠ d := fun z => sd.1 (z ▸ h)
    exact ⟨vs, keep _ _ ne h1, (h2.kp (lock_kp hd fun _ s => s.elim)).sub fun _ s => s.elim⟩
  · obtain ⟨n, o, h1⟩ := r.row.2.1 a (List.mem_cons_of_mem _ h)
    have ne : a ≠ d := fun z => sd.2 (z ▸ h)
    exact ⟨n, o, keep _ _ ne h1⟩
  · have sl := r.slot i x s h1 h2
    cases s with
    | un => trivial
    | dat e => obtain ⟨v, ev, av⟩ := sl; exact ⟨v, ev, (av.kp kp).sub sub0⟩
    | wk e => obtain ⟨v, ev, av⟩ := sl; exact ⟨v, ev, (av.kp kpR).sub fun a s => (lock_sr s).1⟩
    | lst ds => obtain ⟨p, vs, e, h1, h2, h3, a, z⟩ := sl; exact ⟨p, vs, e, keep _ _ (lock_sr h3).2 h1, lock_h0n h2, (lock_sr h3).1, (a.kp kp).sub sub0, noneP _ (lock_sr h3).2 z⟩
    | dic ds => obtain ⟨p, vs, e, h1, h2, h3, a, z⟩ := sl; exact ⟨p, vs, e, keep _ _ (lock_sr h3).2 h1, lock_h0n h2, (lock_sr h3).1, (a.kp kp).sub sub0, noneP _ (lock_sr h3).2 z⟩
    | fz ds => obtain ⟨p, vs, e, h1, h2, h3, a⟩ := sl; exact ⟨p, vs, e, keep _ _ (lock_sr h3).2 h1, lock_h0n h2, (lock_sr h3).1, (a.kp kp).sub sub0⟩
    | fzd ds => obtain ⟨p, vs, e, h1, h2, h3, a⟩ := sl; exact ⟨p, vs, e, keep _ _ (lock_sr h3).2 h1, lock_h0n h2, (lock_sr h3).1, (a.kp kp).sub sub0⟩
    | row => exact sl
theorem Ret.unlock {v : V} {e : D} (r : Ret K (F.lock d (frzd od kvs)) H ρ v e) (h0 : ∀ o, F.H0 d = some o → o = .dT kvs) (sd : F.SR d) (hG : ∀ a, F.G a → F.S0 a) : H d = some (frzd od kvs) ∧ Ret K F (upd H d (.dT kvs)) ρ v e := by
  have hd : H d = some (frzd od kvs) := r.base d _ (by show (if d = d then some _ else _) = _; rw [if_pos rfl]) sd.1
  refine ⟨hd, fun a o h n => ?_, ⟨fun a h => ?_, fun a h => ?_, hG⟩, ?_⟩
  · by_cases c : a = d
    · subst c
      rw [h0 o h, upd_same]
    · rw [upd_ne c]
      exact r.base a o (lock_h0 c h) n
  · obtain ⟨vs, h1, h2⟩ := r.row.1 a h
    have ne : a ≠ d := fun z => sd.1 (z ▸ h)
    exact ⟨vs, by rw [upd_ne ne]; exact h1, (h2.kp (lock_kp hd fun _ s => s.elim)).sub fun _ s => s.elim⟩
  · obtain ⟨n, o, h1⟩ := r.row.2.1 a (List.mem_cons_of_mem _ h)
    have ne : a ≠ d := fun z => sd.2 (z ▸ h)
    exact ⟨n, o, by rw [upd_ne ne]; exact h1⟩
  · have kp : Kp (fun a => (F.lock d (frzd od kvs)).H0 a = none ∧ (F.lock d (frzd od kvs)).SR a) H (upd H d (.dT kvs)) := lock_kp hd fun a s => (lock_sr s.2).2
    have val := r.val
    have sub : ∀ a, ((F.lock d (frzd od kvs)).H0 a = none ∧ (F.lock d (frzd od kvs)).SR a) → F.H0 a = none ∧ F.SR a := fun a s => ⟨lock_h0n s.1, (lock_sr s.2).1⟩
    cases e with
    | lst ds => obtain ⟨p, vs, ev, h1, h2, h3⟩ := val; exact ⟨p, vs, ev, sub _ h1, by rw [upd_ne (lock_sr h1.2).2]; exact h2, (h3.kp kp).sub sub⟩
    | dic ds => obtain ⟨p, vs, ev, h1, h2, h3⟩ := val; exact ⟨p, vs, ev, sub _ h1, by rw [upd_ne (lock_sr h1.2).2]; exact h2, (h3.kp kp).sub sub⟩
    | non => exact At.sub sub ((show At K _ H v _ from val).kp kp)
    | bl b => exact At.sub sub ((show At K _ H v _ from val).kp kp)
    | int b => exact At.sub sub ((show At K _ H v _ from val).kp kp)
    | str b => exact At.sub sub ((show At K _ H v _ from val).kp kp)
    | tup b => exact At.sub sub ((show At K _ H v _ from val).kp kp)
    | st b => exact At.sub sub ((show At K _ H v _ from val).kp kp)
end
def dicOf : SV → Option (List D)
  | .dat (.dic es) => some es
  | .dic es => some es
  | .fzd es => some es
  | _ => none
/-- for a, b in d.items(), d a name -/
def cForI (i : Nat) (g : D → List SV → Option (List SV)) (body : C) : C := fun env ρ => match ρ, env[i]? with
  | [], some s => (dicOf s).bind fun es => if D.imms es = true then forGo g body es (lockE env) [] else none
  | _, _ => none
section
variable {X : Cx} {pos : Pos}
theorem dic_slot {K : PySem.W.Frag} {F : Frm} {σ : L2.St} {H : Hp} {env : List SV} {ρ : List D} (r : Rel K F σ H env ρ) {i : Nat} {s : SV} (hi : env[i]? = some s) {es : List D} (h : dicOf s = some es) :
    ∃ d kvs, σ[i]? = some (some (.ref d)) ∧ H d = some (.dT kvs) ∧ F.SR d ∧ Ents K F.SR H kvs es := by
  obtain ⟨x, hx, sl⟩ := r.get hi
  cases s with
  | dat e =>
    cases e <;> simp only [dicOf, reduceCtorEq] at h
    cases h
    obtain ⟨v, ev, av⟩ := sl
    cases av with
    | dic h1 h2 h3 => exact ⟨_, _, by rw [hx, ev], h1, h2.2, h3.sub F.S0R⟩
  | dic es' => cases h; obtain ⟨p, vs, e, h1, h2, h3, a, _⟩ := sl; exact ⟨p, vs, by rw [hx, e], h1, h3, a.sub F.S0R⟩
  | fzd es' => cases h; obtain ⟨p, vs, e, h1, h2, h3, a⟩ := sl; exact ⟨p, vs, by rw [hx, e], h1, h3, a.sub F.S0R⟩
  | _ => cases h
theorem ents_get2 {K : PySem.W.Frag} {S : Fp} {H : Hp} : ∀ {kvs : List (List Key × V)} {es : List D} {i : Nat} {k : List Key} {v : V}, Ents K S H kvs es → kvs[i]? = some (k, v) → ∃ d, es[i]? = some (.tup [.tup (k.map keyD), d]) ∧ At K S H v d
  | _, _, i, k, v, .nil, h => by simp at h
  | _, _, 0, k, v, .cons a q, h => by
    simp only [List.getElem?_cons_zero, Option.some.injEq, Prod.mk.injEq] at h
    obtain ⟨rfl, rfl⟩ := h
    exact ⟨_, rfl, a⟩
  | _, _, i + 1, k, v, .cons a q, h => by
    obtain ⟨d, h1, h2⟩ := ents_get2 (i := i) (k := k) (v := v) q (by simpa using h)
    exact ⟨d, by simpa using h1, h2⟩
theorem s_forI {i : Nat} {x : Str} {elts : List Expr} {kk : Nat} {tpos p1 apos cpos : Pos} {body : List Stmt} {g : D → List SV → Option (List SV)} {cb : C} (hc : X.calm = true) (hN : X.N[i]? = some x) (hv : Vis X.env.scope x) (hg : PGS X (.Tuple elts kk tpos) g) (hb : PMSs X body cb) (hp : PassesOwn (model X.prog X.w) X.A X.env X.xe)
    (hd : (x == ("__debug__" : Str)) = false := by decide) (hcd : (x == ("__classdict__" : Str)) = false := by decide) (hline : (apos.endLine == cpos.line) = true := by rfl) (hbase : attributeBase (.Name x p1) "items" X.env (eval (.Name x p1) X.env) = eval (.Name x p1) X.env := by rfl)
    (hs : ∀ y, foldedSetIterable (.Call (.Attribute (.Name x p1) "items" apos) [] [] cpos) X.env y = pure y := by intro _; rfl) : PMS X (.For (.Tuple elts kk tpos) (.Call (.Attribute (.Name x p1) "items" apos) [] [] cpos) body [] pos) (cForI i g cb) := by
  have hg' : PG X (.Tuple elts kk tpos) (fun v σ H Q => ∃ F', tGS X.K F' g v σ H Q) := ⟨fun pins s σ H v u Q I r ⟨F, q⟩ => (hg.pg F).run pins s σ H v u Q I r q⟩
  have hb' : PSs X body (fun D σ H => ∃ F', tS X.K F' cb D σ H) := ⟨fun pins s σ H D I ⟨F, q⟩ => (hb.ps F).run pins s σ H D I q⟩
  refine ⟨fun F => PS.imp (ps_lock (ps_for hp hc (pi_itemsT (pe_var hN hv hd hcd) hbase hline) hg' hb' hs)) fun Z σ H ⟨env, ρ, o, env', ρ', r, hcc, k⟩ => ?_⟩
  unfold cForI at hcc
  split at hcc
  case h_2 => cases hcc
  rename_i s hi
  obtain ⟨es, hes, hcc⟩ := Option.bind_eq_some_iff.mp hcc
  split at hcc
  case isFalse => cases hcc
  rename_i im
  obtain ⟨d, kvs, hσ, hd, sd, q⟩ := dic_slot r hi hes
  have G := r.row.2.2
  have h0 : ∀ o, F.H0 d = some o → o = .dT kvs := fun o h => by
    have := r.base d o h sd.1
    rw [hd] at this
    exact (Option.some.inj this).symm
  have hpr : ∀ o, F.Pr d = some o → o = .dT kvs := fun o h => by
    have := (r.pr d o h).1
    rw [hd] at this
    exact (Option.some.inj this).symm
  have nt : ∀ xs, H d ≠ some (.tup xs) := fun xs h => by rw [hd] at h; cases h
  have len := ents_len q
  refine ⟨d, _, hd, True.intro, fun od => ?_⟩
  have rl := r.lock (od := od) hd sd
  refine ⟨_, hσ, d, od, kvs, rfl, upd_same, ?_⟩
  refine ⟨fun j m σ2 H2 => m = es.length - j ∧ j ≤ es.length ∧ ∃ env2 ρ2, Rel X.K (F.lock d (frzd od kvs)) σ2 H2 env2 ρ2 ∧ Tk H H2 ∧ forGo g cb (es.drop j) env2 ρ2 = some (o, env', ρ'),
    ⟨es.length, by simp, Nat.zero_le _, lockE env, [], rl, fun a xs h => by rw [upd_ne (by rintro rfl; exact nt xs h)]; exact h, by simpa using hcc⟩, ?_⟩
  rintro j m σ2 H2 ⟨rfl, hj, env2, ρ2, r2, tk2, hgo⟩
  have hd2 := lock_at r2 sd
  have tku : ∀ H', Tk H H' → H' d = some (frzd od kvs) → Tk H (upd H' d (.dT kvs)) := fun H' t hd' a xs h => by
    have := t a xs h
    rw [upd_ne (by rintro rfl; rw [hd'] at this; cases this)]
    exact this
  by_cases hlt : j < es.length
  case neg =>
    have ej : j = es.length := by omega
    subst ej
    rw [List.drop_length] at hgo
    cases hgo
    exact .inl ⟨⟨hd2, by omega⟩, hd2, k σ2 _ (tku H2 tk2 hd2) (r2.unlock h0 hpr sd G)⟩
  case pos =>
    refine .inr ⟨⟨hd2, by omega⟩, fun σ3 H3 => ∃ m, m < es.length - j ∧ (m = es.length - (j + 1) ∧ j + 1 ≤ es.length ∧ ∃ env2 ρ2, Rel X.K (F.lock d (frzd od kvs)) σ3 H3 env2 ρ2 ∧ Tk H H3 ∧ forGo g cb (es.drop (j + 1)) env2 ρ2 = some (o, env', ρ')), fun σ' H' h => h, fun x H3 y => ?_⟩
    obtain ⟨T, key, v, q2, hk, rfl, hT, hq2, rfl⟩ := y
    obtain ⟨dv, hdv, av⟩ := ents_get2 q hk
    have hmem : VS.D.tup [.tup (key.map keyD), dv] ∈ es := List.mem_of_getElem? hdv
    have imE := imms_mem im hmem
    have imv : dv.imm = true := by
      simp only [D.imm, D.imm.immAll, Bool.and_eq_true, Bool.and_true] at imE
      exact imE.2
    have sm := same_new (o := .tup [.ref q2, v]) hT
    have r3 : Rel X.K (F.lock d (frzd od kvs)) σ2 (upd H2 T (.tup [.ref q2, v])) env2 ρ2 := r2.eff (Eff.of_same sm) (r2.row.same sm)
    have av2 : At X.K (F.lock d (frzd od kvs)).S0 H2 v dv := ((av.imm (T := fun _ => False) imv).kp ⟨fun a o h s => s.elim, tk2⟩).sub fun _ s => s.elim
    have ax : At X.K (F.lock d (frzd od kvs)).S0 (upd H2 T (.tup [.ref q2, v])) (.ref T) (.tup [.tup (key.map keyD), dv]) :=
      .tup upd_same (.cons (.tup (sm _ _ hq2) (key_ats key)) (.cons (av2.kp (Kp.of_same sm)) .nil))
    have ed : es.drop j = .tup [.tup (key.map keyD), dv] :: es.drop (j + 1) := by
      obtain ⟨h1, h2⟩ := List.getElem?_eq_some_iff.mp hdv
      rw [List.drop_eq_getElem_cons h1, h2]
    rw [ed] at hgo
    unfold forGo at hgo
    obtain ⟨env3, hg3, hgo⟩ := Option.bind_eq_some_iff.mp hgo
    obtain ⟨⟨o4, env4, ρ4⟩, hb4, hgo⟩ := Option.bind_eq_some_iff.mp hgo
    have tk3 : Tk H (upd H2 T (.tup [.ref q2, v])) := tk2.trans (Tk.same sm)
    refine ⟨F.lock d (frzd od kvs), env2, ρ2, _, env3, r3, ax, hg3, fun σ4 r4 => ⟨F.lock d (frzd od kvs), env3, ρ2, o4, env4, ρ4, r4, hb4, ?_⟩⟩
    cases o4 with
    | nx => exact fun σ' H' tk r' => ⟨_, by omega, rfl, by omega, env4, ρ4, r', tk3.trans tk, hgo⟩
    | ct => exact fun σ' H' tk r' => ⟨_, by omega, rfl, by omega, env4, ρ4, r', tk3.trans tk, hgo⟩
    | bk =>
      cases hgo
      exact fun σ' H' tk r' => ⟨lock_at r' sd, k σ' _ (tku H' (tk3.trans tk) (lock_at r' sd)) (r'.unlock h0 hpr sd G)⟩
    | rt d =>
      cases hgo
      exact fun v H' tk r' => by
        obtain ⟨a, b⟩ := r'.unlock h0 sd G
        exact ⟨a, k v _ (tku H' (tk3.trans tk) a) b⟩
end
end VS
end

section
set_option Elab.async false
set_option linter.all false
set_option maxRecDepth 100000
set_option maxHeartbeats 1000000
namespace VS
open PySem PySem.Spec PyProof.Rows L2

/-! ## [elt for tg in d if ..], d a dict: its keys, while it is locked -/
def mLcK (i : Nat) (own : List Nat) (g : D → List SV → Option (List SV)) (tt : E Bool) (el : E D) : E (List D) := fun env ρ => match ρ, env[i]? with
  | [], some s => (dicOf s).bind fun es => if D.imms es = true ∧ es.length ≤ 1000000 then (lcGo (wipeE (lockE env) own) g tt el (es.map keyOfD) []).bind fun y => if D.imms y.1 = true ∧ y.2.isEmpty = true then some (y.1, []) else none else none
  | _, _ => none
section
variable {X : Cx}
theorem ents_key {K : PySem.W.Frag} {S : Fp} {H : Hp} : ∀ {kvs : List (List Key × V)} {es : List D} {i : Nat} {k : List Key} {v : V}, Ents K S H kvs es → kvs[i]? = some (k, v) → (es.map keyOfD)[i]? = some (.tup (k.map keyD)) := fun {kvs es i k v} q h => by
  obtain ⟨d, h1, _⟩ := ents_get2 q h
  rw [List.getElem?_map, h1] <;> rfl
theorem mf_lcK {i : Nat} {x : Str} {p1 : Pos} {elt tg : Expr} {ifs : List Expr} {scope : Scope} {own : List (Str × Nat)} {pos : Pos} {g : D → List SV → Option (List SV)} {ts : List Nat} {tt : E Bool} {el : E D} (hc : X.calm = true) (hN : X.N.Nodup) (hNi : X.N[i]? = some x) (hv : Vis X.env.scope x) (ok : BlkOk X.N X.env.scope scope own)
    (hg : ∀ (s : Shared) (H : Hp) (C : Addr) (cl : List (Str × Addr)) (fp : List Addr), PMG (X.blk s H scope (compEnvC scope cl C X.env) fp) tg g ts) (ht : ∀ (s : Shared) (H : Hp) (C : Addr) (cl : List (Str × Addr)) (fp : List Addr), PMTs (X.blk s H scope (compEnvC scope cl C X.env) fp) ifs tt)
    (he : ∀ (s : Shared) (H : Hp) (C : Addr) (cl : List (Str × Addr)) (fp : List Addr), PM (X.blk s H scope (compEnvC scope cl C X.env) fp) elt el) (hts : ∀ i ∈ ts, i ∈ own.map (·.2) := by decide) (hd : (x == ("__debug__" : Str)) = false := by decide) (hcd : (x == ("__classdict__" : Str)) = false := by decide) (hs : ∀ y, foldedSetIterable (.Name x p1) X.env y = pure y := by intro _; rfl) :
    PMF X (.ListComp elt [⟨tg, .Name x p1, ifs, 0⟩] scope pos) (mLcK i (own.map (·.2)) g tt el) :=
  ⟨fun F => PE.imp (pe_lock (pe_lc (g := fun v σ H Q => ∃ F', tMG X.K F' g ts v σ H Q) (tt := fun σ H Q => ∃ F', tMT X.K F' tt σ H Q) (te := fun σ H Q => ∃ F', tM X.K F' el σ H Q) hc hN (pi_keys (pe_var hNi hv hd hcd)) ok (fun s H C cl fp => (hg s H C cl fp).ex) (fun s H C cl fp => (ht s H C cl fp).ex) (fun s H C cl fp => (he s H C cl fp).ex) hs)) fun σ H Q ⟨env, ρ, out, ρ', r, hf, k⟩ => by
    unfold mLcK at hf
    split at hf
    case h_2 => cases hf
    rename_i s hi
    obtain ⟨es, hes, hf⟩ := Option.bind_eq_some_iff.mp hf
    split at hf
    case isFalse => cases hf
    rename_i im
    obtain ⟨⟨out', ρ0⟩, hgo, hf⟩ := Option.bind_eq_some_iff.mp hf
    simp only at hf
    split at hf
    case isFalse => cases hf
    rename_i imo
    cases hf
    have e0 : ρ0 = [] := by simpa using imo.2
    subst e0
    obtain ⟨d, kvs, hσ, hdd, sd, q⟩ := dic_slot r hi hes
    have len := ents_len q
    refine ⟨d, _, hdd, True.intro, fun od => ?_⟩
    have rl := r.lock (od := od) hdd sd
    have fin : tMF X.K (F.lock d (frzd od kvs)) (mLc (fun _ ρ => some (es.map keyOfD, ρ)) (own.map (·.2)) g tt el) σ (upd H d (frzd od kvs)) (fun v H' => H' d = some (.frz od (.dT kvs)) ∧ Q v (upd H' d (.dT kvs))) := by
      refine ⟨lockE env, [], out, [], rl, ?_, fun p vs H' ef w hn hp sr ats => ?_⟩
      · show (if (es.map keyOfD).length ≤ 1000000 then _ else _) = _
        rw [List.length_map, if_pos im.2]
        exact hgo
      · have hat : H' d = some (frzd od kvs) := ef d _ upd_same sd.1
        have npd : p ≠ d := by rintro rfl; rw [upd_same] at hn; cases hn
        refine ⟨hat, k p vs _ (fun a o h n => ?_) ⟨fun a h => ?_, fun a h => ?_, r.row.2.2⟩ (by rwa [upd_ne npd] at hn) (by rw [upd_ne npd]; exact hp) (lock_sr sr).1 ?_⟩
        · by_cases c : a = d
          · subst c
            rw [hdd] at h
            cases h
            exact upd_same
          · rw [upd_ne c]
            refine ef a o ?_ n
            rw [upd_ne c]
            exact h
        · obtain ⟨us, h1, h2⟩ := w.1 a h
          cases h2
          have ne : a ≠ d := fun z => sd.1 (z ▸ h)
          exact ⟨[], by rw [upd_ne ne]; exact h1, .nil⟩
        · obtain ⟨n, o, h1⟩ := r.row.2.1 a h
          have ne : a ≠ d := fun z => sd.2 (z ▸ h)
          refine ⟨n, o, ?_⟩
          rw [upd_ne ne]
          refine ef a o ?_ n
          rw [upd_ne ne]
          exact h1
        · exact ((ats.imm (T := fun _ => False) imo.1).kp ⟨fun a o h s => s.elim, fun a xs h => by rw [upd_ne (by rintro rfl; rw [hat] at h; cases h)]; exact h⟩).sub fun _ s => s.elim
    have rd := lc_read hts fin
    obtain ⟨env0, ρ0, ds0, ρ1, r0, hit, kk⟩ := rd
    cases hit
    refine ⟨_, hσ, d, od, rfl, .inr ⟨kvs, upd_same, ?_⟩⟩
    refine kk (Itkt d od kvs) _ Eff.refl r0.row fun H2 k2 f2 => ?_
    have hd2 : H2 d = some (frzd od kvs) := f2 d od kvs upd_same
    rw [List.length_map]
    refine ⟨fun j hj => ⟨hd2, by omega⟩, ⟨hd2, by omega⟩, fun j y H3 hj yl => ?_⟩
    obtain ⟨e3, key, v, p2, hk, ey, hp2⟩ := yl
    subst e3 ey
    exact ⟨_, ents_key q hk, Same.refl _, .tup hp2 (key_ats key)⟩⟩
end
end VS
end

section
set_option Elab.async false
set_option linter.all false
set_option maxRecDepth 100000
set_option maxHeartbeats 2000000
namespace VS
open PySem PySem.Spec PyProof.Rows L2

/-! ## sets, by any kind of members: what one more member needs -/
abbrev set0 (w : World) : Obj := { cls := .type "set", dict := none, data := .set #[] 0 (.fresh 0 0 (!w.params.followText "set-order")) }
structure Kit (P : Program) (w : World) (R : Type) where
  is : Heap → Addr → R → Prop
  r0 : R
  ok : Around → Heap → R → Value → Prop
  st : Heap → R → Value → R → Prop
  cls : ∀ h a r, is h a r → ∃ o, h.get? a = some o ∧ o.cls = .type "set" ∧ ∀ v, o.data ≠ .cell v
  fresh : ∀ h a, h.get? a = some (set0 w) → is h a r0
  same : ∀ h h' a r, is h a r → (∀ o, h.get? a = some o → h'.get? a = some o) → is h' a r
  add : ∀ (A : Around) (E : Value → Shared → Prop) (s : Shared) (a : Addr) (r : R) (v : Value) (Q : Bool → Shared → Prop), is s.heap a r → ok A s.heap r v →
    (∀ b h' tk r', s.toks ≤ tk → Heap.SameBut a s.heap h' → is h' a r' → st s.heap r v r' → Q b { s with heap := h', toks := tk }) → wpAny (model P w) A (setAdd a v) Q E s
section
variable {P : Program} {w : World} {R : Type} (T : Kit P w R) {A : Around} {E : Value → Shared → Prop} {s : Shared}
/-- set.add -/
theorem kit_add {a : Addr} {r : R} {v : Value} {Q : Value → Shared → Prop} (i : T.is s.heap a r) (o : T.ok A.in1 s.heap r v)
    (h : ∀ h' tk r', Heap.SameBut a s.heap h' → T.is h' a r' → T.st s.heap r v r' → Q .none { s with heap := h', toks := tk }) : wpAny (model P w) A (call (.builtin "set.add") [.ref a, v]) Q E s := by
  obtain ⟨ob, hob, hc, _⟩ := T.cls _ _ _ i
  refine wpAny_call_entry F.slot_set_add ⟨ob, hob, hc⟩ F.entry_set_add ?_ (F.args_set_add_2 _ _)
  unfold Builtin.«set.add» Builtin.Frozenset.oneOther
  simp only [List.isEmpty_nil, bind_assoc]
  unfold Builtin.Frozenset.addrOf
  refine wpAny_bind (wpAny_pure ?_)
  try dsimp only
  refine wpAny_bind (wpAny_pure ?_)
  try dsimp only
  refine wpAny_bind (T.add _ _ _ _ _ _ _ i o fun b h' tk r' ht sb i' st => ?_)
  show wpAny _ _ (ret Value.none) _ _ _
  exact wpAny_pure ⟨_, rfl, h h' tk r' sb i' st⟩
/-- members one behind another -/
inductive Runs (T : Kit P w R) (h : Heap) : List Value → R → R → Prop where
  | nil {r : R} : Runs T h [] r r
  | cons {v : Value} {vs : List Value} {r r' r'' : R} : T.st h r v r' → Runs T h vs r' r'' → Runs T h (v :: vs) r r''
/-- set.update over a walk that yields vs -/
theorem kit_loop {I : Addr} {fp wr : List Addr} {G : Array GenState → Array GenState → Prop} {n : Nat} {Pv : Nat → Value → Prop} {St : Nat → Shared → Prop} {Z : Result → Shared → Prop}
    (W : WalksS P w A.in1 I fp wr G n Pv St) (S : Addr) (hSf : S ∉ fp) (vs : List Value) (hn : n = vs.length) (hval : ∀ i v, Pv i v → vs[i]? = some v)
    (Inv : Nat → Heap → R → Prop) (hk : ∀ i h h' r, Inv i h r → (∀ b o, b ≠ S → b ∉ wr → h.get? b = some o → h'.get? b = some o) → Inv i h' r)
    (hok : ∀ i v h r, vs[i]? = some v → Inv i h r → T.ok A.in1 h r v) (hst : ∀ i v h r r', vs[i]? = some v → Inv i h r → T.st h r v r' → Inv (i + 1) h r') :
    ∀ (k i : Nat) (s : Shared) (r : R), n - i = k → i ≤ n → St i s → T.is s.heap S r → Inv i s.heap r →
      (∀ s' r', Moved (S :: wr) G s s' → T.is s'.heap S r' → Inv n s'.heap r' → Z (.ok (.ret .none)) s') → codeAny (model P w) A (.builtin "set.update.loop" ⟨[.ref S, .ref I], []⟩) Z s := by
  have hSw : S ∉ wr := fun h => hSf (W.sub _ h)
  have up : ∀ b ∈ wr, b ∈ S :: wr := fun b hb => List.mem_cons_of_mem _ hb
  intro k
  induction k with
  | zero =>
    intro i s r hki hi st hS hI hZ
    have e : i = n := by omega
    subst e
    refine codeAny_builtin F.entry_set_update_loop ?_
    rw [Around.under_plainId F.plain_set_update_loop _]
    show wpAny _ A.in1 (pyNext (.ref I) >>= _) _ _ s
    refine wpAny_bind (W.done s _ _ st fun s' hm => ?_)
    show wpAny _ A.in1 (ret Value.none) _ _ s'
    exact wpAny_pure (hZ s' r (hm.mono up) (T.same _ _ _ _ hS fun o e => hm.heap S o hSw e) (hk _ _ _ _ hI fun b o _ hb e => hm.heap b o hb e))
  | succ k ih =>
    intro i s r hki hi st hS hI hZ
    have hlt : i < n := by omega
    refine codeAny_builtin F.entry_set_update_loop ?_
    rw [Around.under_plainId F.plain_set_update_loop _]
    show wpAny _ A.in1 (pyNext (.ref I) >>= _) _ _ s
    refine wpAny_bind (W.item i s _ _ hlt st fun v s' hP st' hm => ?_)
    have hv := hval i v hP
    have hS' := T.same _ s'.heap _ _ hS fun o e => hm.heap S o hSw e
    have hI' := hk _ _ s'.heap _ hI fun b o _ hb e => hm.heap b o hb e
    show wpAny _ A.in1 (holding [v] (setAdd S v) >>= _) _ _ s'
    refine wpAny_bind (wpAny_holding (T.add _ _ _ _ _ _ _ hS' (hok i v _ _ hv hI') fun b h' tk r' ht sb i' ss => ?_))
    have hI2 : Inv (i + 1) h' r' := hk _ _ _ _ (hst i v _ _ r' hv hI' ss) fun b o hb _ e => (sb.2 b hb).trans e
    refine wpAny_pure ⟨plainId_quiet F.plain_set_update_loop _, ih (i + 1) { s' with heap := h', toks := tk } r' (by omega) hlt (W.frame _ s' h' tk st' ht fun b hb o e => ?_) i' hI2 fun s'' r'' m2 is2 iv2 => ?_⟩
    · rw [sb.2 b (fun z : b = S => hSf (z ▸ hb))]; exact e
    · refine hZ s'' r'' (Moved.trans W.gtrans ((hm.mono up).then_heap ht fun b o hb e => ?_) m2) is2 iv2
      rw [sb.2 b (fun z : b = S => hb (by rw [z]; exact List.mem_cons_self))]; exact e
/-- set(x), x a list -/
theorem kit_of_list {l : Addr} {items : Array Value} {Q : Value → Shared → Prop} (hh : A.handled = none) (hl : s.heap.IsList l items)
    (Inv : Nat → Heap → R → Prop) (h0 : ∀ h' : Heap, (∀ b o, s.heap.get? b = some o → h'.get? b = some o) → Inv 0 h' T.r0) (hk : ∀ i h h' r, Inv i h r → (∀ b o, b < s.heap.objs.size → h.get? b = some o → h'.get? b = some o) → Inv i h' r)
    (hok : ∀ i v h r, items.toList[i]? = some v → Inv i h r → T.ok A.in1.in1.in1 h r v) (hst : ∀ i v h r r', items.toList[i]? = some v → Inv i h r → T.st h r v r' → Inv (i + 1) h r')
    (h : ∀ (h' : Heap) (tk : Nat) (r : R), T.is h' s.heap.objs.size r → Inv items.size h' r → (∀ b o, s.heap.get? b = some o → h'.get? b = some o) → Q (.ref s.heap.objs.size) { s with heap := h', toks := tk }) :
    wpAny (model P w) A (call (.type "set") [.ref l]) Q E s := by
  obtain ⟨c, tl, hmro⟩ := F.called_set.mro
  have made := F.called_set.made
  have subs := F.called_set.sub
  refine wpAny_call (codeAny_of_tree ?_)
  show wpAny _ _ (callAny (.type "set") _) _ _ _
  refine wpAny_pure ⟨Code.quiet_builtin _ (by decide +kernel), codeAny_builtin F.entry_type_call ?_⟩
  rw [Around.under_plain (weight_type_call_type "set" [.ref l] []) rfl]
  have notT := F.called_set.notType
  have canC := F.called_set.canCreate
  have chk := F.typeCall_set_1 (.ref l)
  repeat (any_goals (first | assumption | wp_step))
  refine codeAny_mono (code_set_led1 (.ref l) (E := E) (Q₁ := fun ob s₁ => ob = .ref s.heap.objs.size ∧ s₁ = { s with heap := s.heap.push (set0 w) }) ⟨rfl, rfl⟩) fun z s₁ hz => ?_
  match z, hz with
  | .error e, hz => exact hz
  | .ok fl, hz =>
    cases fl with
    | ret ob =>
      obtain ⟨rfl, rfl⟩ := hz
      have hS : (s.heap.push (set0 w)).get? s.heap.objs.size = some (set0 w) := Heap.get?_push_size _ rfl
      have hT : Shared.TypeIs { s with heap := s.heap.push (set0 w) } (.ref s.heap.objs.size) "set" := ⟨_, hS, rfl⟩
      have look := F.called_set.init.lookup
      have bnd := F.called_set.init.bind (.ref s.heap.objs.size)
      repeat (any_goals (first | assumption | wp_step))
      refine codeAny_mono (codeAny_call_builtin (R := wants (fun z s₂ => z = .none ∧ ∃ h' tk r, s₂ = { s with heap := h', toks := tk } ∧ T.is h' s.heap.objs.size r ∧ Inv items.size h' r ∧
          (∀ b o, s.heap.get? b = some o → h'.get? b = some o)) E) F.called_set.init.plain F.entry_set_init (check_set_init_1 hT ?_)) fun z₂ s₂ hz₂ => ?_
      · obtain ⟨ol, hol, hcl, nl, hdl⟩ := id hl
        obtain ⟨ocls, odict, odata, oslots⟩ := ol
        cases (show ocls = .type "list" from hcl)
        cases (show odata = .seq items nl from hdl)
        have hol' : (s.heap.push (set0 w)).get? l = some { cls := .type "list", dict := odict, data := .seq items nl, slots := oslots } := Heap.get?_push_of_some _ hol
        have n1 := F.sub_list_set
        have n2 := F.sub_list_frozenset
        have n3 : (Value.type "list" == Value.type "dict") = false := by decide
        have hl1 : (s.heap.push (set0 w)).IsList l items := ⟨_, hol', rfl, nl, rfl⟩
        have hlS : l < s.heap.objs.size := Heap.lt_size hol
        have hz1 : (s.heap.push (set0 w)).objs.size = s.heap.objs.size + 1 := Heap.size_push ..
        unfold Builtin.«set.__init__» noKeywords Builtin.Frozenset.updateFrom
        generalize hPI : pyIter = PI
        wp_walk
        subst hPI
        refine wpAny_pyIter_list hl1 ?_
        refine wpAny_bind (wpAny_runValue ?_)
        have hh3 : A.in1.in1.in1.handled = none := by simp [hh]
        have hne : l ≠ (s.heap.push (set0 w)).objs.size := by
          rw [hz1]; exact Nat.ne_of_lt (Nat.lt_succ_of_lt hlS)
        have hSf : s.heap.objs.size ∉ [(s.heap.push (set0 w)).objs.size, l] := by
          rw [hz1]
          simp only [List.mem_cons, List.not_mem_nil, or_false, not_or]
          exact ⟨Nat.ne_of_lt (Nat.lt_succ_self _), Nat.ne_of_gt hlS⟩
        have keep0 : ∀ b o, s.heap.get? b = some o → ((s.heap.push (set0 w)).push { cls := .type "list_iterator", data := .fields #[.ref l, .int 0 0] }).get? b = some o := fun b o e => Heap.get?_push_of_some _ (Heap.get?_push_of_some _ e)
        refine kit_loop T (A := A.in1.in1) ((Walks.list hh3 _ l hne items).toS) s.heap.objs.size hSf items.toList (by simp) (fun i v hv => by rw [Array.getElem?_toList]; exact hv)
          Inv (fun i h h' r iv k => hk i h h' r iv fun b o hb e => k b o (Nat.ne_of_lt hb) (by simp only [List.mem_cons, List.not_mem_nil, or_false]; rw [hz1]; exact Nat.ne_of_lt (Nat.lt_succ_of_lt hb)) e) hok hst (items.size - 0) 0 _ T.r0 (by omega) (Nat.zero_le _)
          ⟨⟨_, Heap.get?_push_size _ rfl, rfl, rfl⟩, (hl1.push _)⟩ ?hS0 (h0 _ keep0) ?hR
        case hS0 => exact T.fresh _ _ (Heap.get?_push_of_some _ hS)
        case hR =>
          intro s' r hm is' iv'
          obtain ⟨h', g2, d', tk', os'⟩ := s'
          cases (show g2 = s.gens from hm.gens)
          cases (show d' = s.drawn from hm.drawn)
          cases (show os' = s.os from hm.os)
          show wpAny _ _ _ _ _ _
          refine wpAny_pure ?_
          show wpAny _ _ (ret Value.none) _ _ _
          refine wpAny_pure ⟨rfl, h', tk', r, rfl, is', iv', fun b o e => ?_⟩
          have hb0 : b < s.heap.objs.size := Heap.lt_size e
          refine hm.heap b o ?_ (keep0 b o e)
          simp only [List.mem_cons, List.not_mem_nil, or_false, not_or]
          rw [hz1]
          exact ⟨Nat.ne_of_lt hb0, Nat.ne_of_lt (Nat.lt_succ_of_lt hb0)⟩
      · match z₂, hz₂ with
        | .error e, hz₂ => exact hz₂
        | .ok fl₂, hz₂ =>
          cases fl₂ with
          | ret z =>
            obtain ⟨rfl, h', tk, r, rfl, is', iv', hk'⟩ := hz₂
            repeat (any_goals (first | assumption | wp_step))
            exact h _ _ _ is' iv' hk'
          | _ => exact hz₂.elim
    | _ => exact hz.elim
/-- set(x), x a tuple -/
theorem kit_of_tuple {l : Addr} {items : Array Value} {Q : Value → Shared → Prop} (hh : A.handled = none) (hl : s.heap.IsTuple l items)
    (Inv : Nat → Heap → R → Prop) (h0 : ∀ h' : Heap, (∀ b o, s.heap.get? b = some o → h'.get? b = some o) → Inv 0 h' T.r0) (hk : ∀ i h h' r, Inv i h r → (∀ b o, b < s.heap.objs.size → h.get? b = some o → h'.get? b = some o) → Inv i h' r)
    (hok : ∀ i v h r, items.toList[i]? = some v → Inv i h r → T.ok A.in1.in1.in1 h r v) (hst : ∀ i v h r r', items.toList[i]? = some v → Inv i h r → T.st h r v r' → Inv (i + 1) h r')
    (h : ∀ (h' : Heap) (tk : Nat) (r : R), T.is h' s.heap.objs.size r → Inv items.size h' r → (∀ b o, s.heap.get? b = some o → h'.get? b = some o) → Q (.ref s.heap.objs.size) { s with heap := h', toks := tk }) :
    wpAny (model P w) A (call (.type "set") [.ref l]) Q E s := by
  obtain ⟨c, tl, hmro⟩ := F.called_set.mro
  have made := F.called_set.made
  have subs := F.called_set.sub
  refine wpAny_call (codeAny_of_tree ?_)
  show wpAny _ _ (callAny (.type "set") _) _ _ _
  refine wpAny_pure ⟨Code.quiet_builtin _ (by decide +kernel), codeAny_builtin F.entry_type_call ?_⟩
  rw [Around.under_plain (weight_type_call_type "set" [.ref l] []) rfl]
  have notT := F.called_set.notType
  have canC := F.called_set.canCreate
  have chk := F.typeCall_set_1 (.ref l)
  repeat (any_goals (first | assumption | wp_step))
  refine codeAny_mono (code_set_led1 (.ref l) (E := E) (Q₁ := fun ob s₁ => ob = .ref s.heap.objs.size ∧ s₁ = { s with heap := s.heap.push (set0 w) }) ⟨rfl, rfl⟩) fun z s₁ hz => ?_
  match z, hz with
  | .error e, hz => exact hz
  | .ok fl, hz =>
    cases fl with
    | ret ob =>
      obtain ⟨rfl, rfl⟩ := hz
      have hS : (s.heap.push (set0 w)).get? s.heap.objs.size = some (set0 w) := Heap.get?_push_size _ rfl
      have hT : Shared.TypeIs { s with heap := s.heap.push (set0 w) } (.ref s.heap.objs.size) "set" := ⟨_, hS, rfl⟩
      have look := F.called_set.init.lookup
      have bnd := F.called_set.init.bind (.ref s.heap.objs.size)
      repeat (any_goals (first | assumption | wp_step))
      refine codeAny_mono (codeAny_call_builtin (R := wants (fun z s₂ => z = .none ∧ ∃ h' tk r, s₂ = { s with heap := h', toks := tk } ∧ T.is h' s.heap.objs.size r ∧ Inv items.size h' r ∧
          (∀ b o, s.heap.get? b = some o → h'.get? b = some o)) E) F.called_set.init.plain F.entry_set_init (check_set_init_1 hT ?_)) fun z₂ s₂ hz₂ => ?_
      · obtain ⟨ol, hol, hcl, nl, hdl⟩ := id hl
        obtain ⟨ocls, odict, odata, oslots⟩ := ol
        cases (show ocls = .type "tuple" from hcl)
        cases (show odata = .seq items nl from hdl)
        have hol' : (s.heap.push (set0 w)).get? l = some { cls := .type "tuple", dict := odict, data := .seq items nl, slots := oslots } := Heap.get?_push_of_some _ hol
        have n1 := F.sub_tuple_set
        have n2 := F.sub_tuple_frozenset
        have n3 : (Value.type "tuple" == Value.type "dict") = false := by decide
        have hl1 : (s.heap.push (set0 w)).IsTuple l items := ⟨_, hol', rfl, nl, rfl⟩
        have hlS : l < s.heap.objs.size := Heap.lt_size hol
        have hz1 : (s.heap.push (set0 w)).objs.size = s.heap.objs.size + 1 := Heap.size_push ..
        unfold Builtin.«set.__init__» noKeywords Builtin.Frozenset.updateFrom
        generalize hPI : pyIter = PI
        wp_walk
        subst hPI
        refine wpAny_pyIter_tuple hl1 ?_
        refine wpAny_bind (wpAny_runValue ?_)
        have hh3 : A.in1.in1.in1.handled = none := by simp [hh]
        have hne : l ≠ (s.heap.push (set0 w)).objs.size := by
          rw [hz1]; exact Nat.ne_of_lt (Nat.lt_succ_of_lt hlS)
        have hSf : s.heap.objs.size ∉ [(s.heap.push (set0 w)).objs.size, l] := by
          rw [hz1]
          simp only [List.mem_cons, List.not_mem_nil, or_false, not_or]
          exact ⟨Nat.ne_of_lt (Nat.lt_succ_self _), Nat.ne_of_gt hlS⟩
        have keep0 : ∀ b o, s.heap.get? b = some o → ((s.heap.push (set0 w)).push { cls := .type "tuple_iterator", data := .fields #[.ref l, .int 0 0] }).get? b = some o := fun b o e => Heap.get?_push_of_some _ (Heap.get?_push_of_some _ e)
        refine kit_loop T (A := A.in1.in1) ((Walks.tuple hh3 _ l hne items).toS) s.heap.objs.size hSf items.toList (by simp) (fun i v hv => by rw [Array.getElem?_toList]; exact hv)
          Inv (fun i h h' r iv k => hk i h h' r iv fun b o hb e => k b o (Nat.ne_of_lt hb) (by simp only [List.mem_cons, List.not_mem_nil, or_false]; rw [hz1]; exact Nat.ne_of_lt (Nat.lt_succ_of_lt hb)) e) hok hst (items.size - 0) 0 _ T.r0 (by omega) (Nat.zero_le _)
          ⟨⟨_, Heap.get?_push_size _ rfl, rfl, rfl⟩, (hl1.push _)⟩ ?hS0 (h0 _ keep0) ?hR
        case hS0 => exact T.fresh _ _ (Heap.get?_push_of_some _ hS)
        case hR =>
          intro s' r hm is' iv'
          obtain ⟨h', g2, d', tk', os'⟩ := s'
          cases (show g2 = s.gens from hm.gens)
          cases (show d' = s.drawn from hm.drawn)
          cases (show os' = s.os from hm.os)
          show wpAny _ _ _ _ _ _
          refine wpAny_pure ?_
          show wpAny _ _ (ret Value.none) _ _ _
          refine wpAny_pure ⟨rfl, h', tk', r, rfl, is', iv', fun b o e => ?_⟩
          have hb0 : b < s.heap.objs.size := Heap.lt_size e
          refine hm.heap b o ?_ (keep0 b o e)
          simp only [List.mem_cons, List.not_mem_nil, or_false, not_or]
          rw [hz1]
          exact ⟨Nat.ne_of_lt hb0, Nat.ne_of_lt (Nat.lt_succ_of_lt hb0)⟩
      · match z₂, hz₂ with
        | .error e, hz₂ => exact hz₂
        | .ok fl₂, hz₂ =>
          cases fl₂ with
          | ret z =>
            obtain ⟨rfl, h', tk, r, rfl, is', iv', hk'⟩ := hz₂
            repeat (any_goals (first | assumption | wp_step))
            exact h _ _ _ is' iv' hk'
          | _ => exact hz₂.elim
    | _ => exact hz.elim
end
end VS
end

section
set_option Elab.async false
set_option linter.all false
set_option maxRecDepth 100000
set_option maxHeartbeats 1000000
namespace VS
open PySem PySem.Spec PyProof.Rows L2

/-! ## sets of one kind, as objects -/
section
variable {P : Program} {w : World} {R : Type}
def KO (T : Kit P w R) (a : Addr) (r : R) : HO := .ext fun h => T.is h a r
theorem ko_new (T : Kit P w R) {H : Hp} {h : Heap} {a : Addr} {r : R} (i : T.is h a r) : ObjOk P w H h a (KO T a r) := by
  obtain ⟨o, ho, _⟩ := T.cls _ _ _ i
  exact ⟨i, ⟨o, ho⟩, fun h1 h2 p k => T.same _ _ _ _ p k⟩
theorem ko_tup {T : Kit P w R} {a : Addr} {r : R} : ∀ xs, KO T a r ≠ .tup xs := by
  intro xs z
  cases z
/-- y may be put in, and N then holds of what the set has become -/
def AddV (T : Kit P w R) (A : Around) (H : Hp) (r : R) (y : V) (N : R → Prop) : Prop := ∀ (s : Shared) (z : Value), HOk P w H s.heap → RelV y z → T.ok A.in1 s.heap r z ∧ ∀ r', T.st s.heap r z r' → N r'
end
section
variable {X : Cx} {R : Type}
theorem addK_ok {T : Kit X.prog X.w R} {E : Value → Shared → Prop} {pins : List (Addr × Obj)} {σ : L2.St} {H : Hp} {s : Shared} {D : Addr} {r : R} {y : V} {z : Value} {N : R → Prop} {Q : Value → Shared → Prop} (I : Inv X pins σ H s) (hD : H D = some (KO T D r)) (hv : AddV T X.A H r y N) (hz : RelV y z)
    (h : ∀ s' r', N r' → Inv X pins σ (upd H D (KO T D r')) s' → Q .none s') : wpAny (model X.prog X.w) X.A (call (.builtin "set.add") [.ref D, z]) Q E s := by
  obtain ⟨o, st⟩ := hv s z I.hok hz
  refine kit_add T (I.hok D _ hD).1 o fun h' tk r' sb i' ss => h _ r' (st r' ss) ?_
  have he : ∃ u, h'.get? D = some u := by
    obtain ⟨o, ho, _⟩ := T.cls _ _ _ i'
    exact ⟨o, ho⟩
  exact I.write (e := D) (t' := tk) (by rw [hD]; trivial) (.inl rfl) (fun b u hb hu => (sb.2 b hb).trans hu) he (ko_new T i')

/-- {elt for target in iter if ..}: D the new set -/
def tScK (T : Kit X.prog X.w R) (wi : TI) (g : TG) (tt : TT) (te : TE) (vs : List Nat) : TE := fun σ H Q => wi σ H fun J H1 => ∀ D, H1 D = none → ∃ W : Nat → Nat → Hp → Prop, (∃ m, W 0 m (upd H1 D (KO T D T.r0))) ∧ ∀ i m H, W i m H →
  (J.stop i H ∧ Q (.ref D) H) ∨ (J.go i H ∧ ∃ Nx : Hp → Prop, (∀ H', Nx H' → ∃ m', m' < m ∧ W (i + 1) m' H') ∧ ∀ x H', J.yld i H x H' → g x (wipe σ vs) H' fun σ2 H2 => wipe σ2 vs = wipe σ vs ∧ tt σ2 H2 fun b H3 =>
    if b = true then te σ2 H3 fun y H4 => ∃ (r : R) (N : R → Prop), H4 D = some (KO T D r) ∧ AddV T X.A H4 r y N ∧ ∀ r', N r' → Nx (upd H4 D (KO T D r')) else Nx H3)
theorem sck_core (T : Kit X.prog X.w R) {pins : List (Addr × Obj)} {s : Shared} {σ : L2.St} {H : Hp} {Q : VK} {elt tg iter : Expr} {ifs : List Expr} {scope : Scope} {own : List (PySem.Str × Nat)} {pos pos' : Pos} {wi : TI} {g : TG} {tt : TT} {te : TE} {use : Option (Value → Sem Unit)} {Qf : Value → Shared → Prop}
    (hc : X.calm = true) (hN : X.N.Nodup) (I : Inv X pins σ H s) (hi : PI X tg iter wi) (ok : BlkOk X.N X.env.scope scope own)
    (hg : ∀ (s : Shared) (H : Hp) (C : Addr) (cl : List (PySem.Str × Addr)) (fp : List Addr), PG (X.blk s H scope (compEnvC scope cl C X.env) fp) tg g) (ht : ∀ (s : Shared) (H : Hp) (C : Addr) (cl : List (PySem.Str × Addr)) (fp : List Addr), PTs (X.blk s H scope (compEnvC scope cl C X.env) fp) ifs tt)
    (he : ∀ (s : Shared) (H : Hp) (C : Addr) (cl : List (PySem.Str × Addr)) (fp : List Addr), PE (X.blk s H scope (compEnvC scope cl C X.env) fp) elt te) (hs : ∀ x, foldedSetIterable iter X.env x = pure x)
    (h : tScK T wi g tt te (own.map (·.2)) σ H Q)
    (hRR : ∀ D C s' m H', Inv X pins σ H' s' → Q (.ref D) H' → s'.heap.Ns C m → FpOk X pins H' C → compPost (model X.prog X.w) X.A X.xe use Qf (.ref D) C (.ok .next) s') :
    wpAny (model X.prog X.w) X.A (comprehension (.SetComp elt [⟨tg, iter, ifs, 0⟩] scope pos) scope X.env pos' (newSet (.type "set")) false (eval iter X.env) use) Qf X.xe s := by
  have hfree : ∀ y ∈ scope.names, y.2 = .free → ∃ c, X.env.cells.lookup y.1 = some c := fun y hy e => by
    rcases ok.free y hy e with k | k
    · exact I.ok.has _ (.inl k)
    · exact I.ok.has _ (.inr k)
  refine wpAny_comprehension_free (use := use) rfl hs (closure_ok hfree) ok.kind (fun y hy e => by rw [ok.uniq y hy, e])
    (thn (hi.run pins s σ H _ I h) fun xv s1 hx => thn hx fun itv s2 h2 => ?_)
  obtain ⟨it, fp, tn, J, H2, e, I2, Tn, st2, f2, q⟩ := h2
  subst e
  refine PpSet.newSet_ok (newEnv_comp ?_)
  obtain ⟨D, hD⟩ : ∃ D, s2.heap.objs.size = D := ⟨_, rfl⟩
  obtain ⟨s3, hs3⟩ : ∃ s3 : Shared, s3 = { s2 with heap := s2.heap.push (set0 X.w) } := ⟨_, rfl⟩
  have h3 : s3.heap = s2.heap.push (set0 X.w) := by rw [hs3]
  obtain ⟨W, ⟨m0, w0⟩, turn⟩ := q D (I2.hok.fresh (Nat.le_of_eq hD))
  obtain ⟨H3, hH3⟩ : ∃ H3, H3 = upd H2 D (KO T D T.r0) := ⟨_, rfl⟩
  rw [← hH3] at w0
  have I3 : Inv X pins σ H3 s3 := by
    rw [hs3, hH3]
    refine I2.laid (t' := s2.toks) (fun b o e => Heap.get?_push_of_some _ e) (Nat.le_of_eq hD) (ko_new T (T.fresh _ _ ?_))
    rw [← hD]
    exact Heap.get?_push_size _ rfl
  have sz : ∀ b ∈ fp, b < s2.heap.objs.size := fun b hb => by
    obtain ⟨o, e, _⟩ := Tn.obj _ _ st2 b hb
    exact Heap.lt_size e
  have f3 : ∀ b ∈ fp, FpOk X pins H3 b ∧ b < s3.heap.objs.size := fun b hb => by
    have hlt := sz b hb
    refine ⟨⟨?_, (f2 b hb).2⟩, by rw [h3, Heap.size_push]; exact Nat.lt_succ_of_lt hlt⟩
    rw [hH3, upd_ne (by rw [← hD]; exact Nat.ne_of_lt hlt)]
    exact (f2 b hb).1
  have st3 : tn 0 s3.heap := Tn.keep _ _ _ st2 fun b _ o e => by rw [h3]; exact Heap.get?_push_of_some _ e
  have nfp : ∀ b ∈ fp, H3 b = none := fun b hb => (f3 b hb).1.1
  have I4 := block_start I3 ok hN f3
  obtain ⟨C, hC⟩ : ∃ C, C = s3.heap.objs.size := ⟨_, rfl⟩
  obtain ⟨ce, hce⟩ : ∃ ce, ce = compEnvC scope (cellsFrom (s3.heap.objs.size + 1) scope.names (cloFrom X.env.cells scope.names [])) s3.heap.objs.size X.env := ⟨_, rfl⟩
  have pg := hg s3 H3 s3.heap.objs.size (cellsFrom (s3.heap.objs.size + 1) scope.names (cloFrom X.env.cells scope.names [])) fp
  have pt := ht s3 H3 s3.heap.objs.size (cellsFrom (s3.heap.objs.size + 1) scope.names (cloFrom X.env.cells scope.names [])) fp
  have pe := he s3 H3 s3.heap.objs.size (cellsFrom (s3.heap.objs.size + 1) scope.names (cloFrom X.env.cells scope.names [])) fp
  have cL : ce.locals = C := by rw [hce, hC] <;> rfl
  rw [← hce] at I4 pg pt pe
  obtain ⟨s4, hs4⟩ : ∃ s4 : Shared, s4 = { s3 with heap := pushCells (s3.heap.push { cls := .type "dict", data := .dict #[] }) scope.names } := ⟨_, rfl⟩
  rw [← hs4] at I4
  have goal' : codeAny (model X.prog X.w) X.A (.compStart (.SetComp elt [⟨tg, iter, ifs, 0⟩] scope pos) 0 (.ref it) (.ref D) ce) (compPost (model X.prog X.w) X.A X.xe use Qf (.ref D) C) s4 := by
    have st4 : tn 0 s4.heap := Tn.keep _ _ _ st3 fun b _ o e => by rw [hs4]; exact pushCells_keeps _ _ _ _ (Heap.get?_push_of_some _ e)
    have stat : ∀ {σ' : L2.St} {H' : Hp} {s' : Shared}, Inv (X.blk s3 H3 scope ce fp) [] σ' H' s' → (∀ b ∈ fp, H' b = none) → ∀ b ∈ fp, FpOk (X.blk s3 H3 scope ce fp) [] H' b := fun {σ' H' s'} I' hn b hb =>
      ⟨hn b hb, (I'.ok.exf b hb).1, I'.ok.exfs b hb, .inl hb, fun x c e => (I'.ok.exf b hb).2 x c e, fun p hp => absurd (show p ∈ ([] : List (Addr × Obj)) ++ [] from hp) (by simp)⟩
    have loop : codeAny (model X.prog X.w) X.A (.compLoop (.SetComp elt [⟨tg, iter, ifs, 0⟩] scope pos) 0 (.ref it) (.ref D) ce) (compPost (model X.prog X.w) X.A X.xe use Qf (.ref D) C) s4 := by
      refine PpSet.compLoopS_any (fun n s' => ∃ i H', Inv (X.blk s3 H3 scope ce fp) [] (wipe σ (own.map (·.2))) H' s' ∧ tn i s'.heap ∧ (∀ b ∈ fp, H' b = none) ∧ W i n H') ?_ m0 ⟨0, H3, I4, st4, nfp, w0⟩
      rintro n s5 ⟨i, H5, I5, st5, n5, w5⟩
      rcases turn i n H5 w5 with ⟨stop, qq⟩ | ⟨go, Nx, hNx, step⟩
      · refine thnF (Tn.done (X.blk s3 H3 scope ce fp) rfl rfl rfl hc i [] s5 _ H5 (fun _ _ => False) I5 (stat I5 n5) st5 stop) fun r s6 ⟨hr, I6⟩ => ?_
        subst hr
        have I7 : Inv X pins σ H5 s6 := I3.call' (ch := fp) I6.os I6.base I6.hok I6.bare fun b hb => ⟨(f3 b hb).1.2.2.2.1, (f3 b hb).1.2.1, (f3 b hb).1.2.2.2.2.1, (f3 b hb).1.2.2.2.2.2⟩
        have nC : H5 C = none := by
          have z : H5 ce.locals = none := I6.free
          rwa [cL] at z
        obtain ⟨m, hn, _⟩ := I6.loc
        have hn : s6.heap.Ns ce.locals m := hn
        rw [cL] at hn
        exact hRR D C s6 m H5 I7 qq hn (I3.fpOk (Nat.le_of_eq hC.symm) nC)
      · refine thnF (Tn.item (X.blk s3 H3 scope ce fp) rfl rfl rfl hc i [] s5 _ H5 (fun _ _ => False) I5 (stat I5 n5) st5 go) fun r s6 ⟨u, hr, h6⟩ => ?_
        subst hr
        refine thnF h6 fun _ s7 ⟨x, H7, I7, r7, y7, st7, n7⟩ => ?_
        refine thnF (pg.run _ s7 _ H7 x u _ (I7.pinned (stat I7 n7) (Tn.obj _ _ st7)) r7 (step x H7 y7)) fun _ s8 ⟨σ8, H8, I8, hw8, q8⟩ => ?_
        refine thnF (pt.run _ s8 σ8 H8 _ I8 q8) fun b s9 ⟨H9, I9, q9⟩ => ?_
        have fin : ∀ {s' : Shared} {H' : Hp}, Inv (X.blk s3 H3 scope ce fp) ([] ++ pinsAt fp s7.heap) σ8 H' s' → Nx H' → ∃ m, m < n ∧ ∃ i H', Inv (X.blk s3 H3 scope ce fp) [] (wipe σ (own.map (·.2))) H' s' ∧ tn i s'.heap ∧ (∀ b ∈ fp, H' b = none) ∧ W i m H' := fun {s' H'} I' nx => by
          obtain ⟨m', hm, w'⟩ := hNx H' nx
          have pin' : ∀ b ∈ fp, ∀ o, s7.heap.get? b = some o → s'.heap.get? b = some o ∧ H' b = none := fun b hb o e =>
            let z := I'.pin (b, o) (List.mem_append_right _ (List.mem_append_right _ (mem_pinsAt hb e)))
            ⟨z.1, z.2.1⟩
          have hl : (wipe σ (own.map (·.2))).length = σ8.length := by rw [← hw8, wipe_length]
          refine ⟨m', hm, i + 1, H', (I'.unpinned (pins := [])).weak hl (fun j v e => ?_), Tn.keep _ _ _ st7 fun b hb o e => (pin' b hb o e).1, fun b hb => ?_, w'⟩
          · rw [← hw8] at e
            exact (wipe_some e).1
          · obtain ⟨o, e, _⟩ := Tn.obj _ _ st7 b hb
            exact (pin' b hb o e).2
        cases b with
        | false =>
          simp only [Bool.false_eq_true, if_false] at q9 ⊢
          exact fin I9 q9
        | true =>
          simp only [if_true] at q9 ⊢
          refine thnF (pe.run _ s9 σ8 H9 _ I9 q9) fun z s10 ⟨yv, H10, I10, r10, r0, N, hD10, hv, nx⟩ => ?_
          refine addK_ok (X := X.blk s3 H3 scope ce fp) (T := T) I10 hD10 hv r10 fun s11 r11 n11 I11 => ?_
          exact fin I11 (nx r11 n11)
    exact PpSet.codeAny_compStart_set loop (Tn.self X.A 0 _ _ _ st4 loop)
  rw [hs4, hs3, hce, hC, hs3, ← hD] at goal'
  exact goal'
/-- as a value -/
theorem pe_scK (T : Kit X.prog X.w R) {elt tg iter : Expr} {ifs : List Expr} {scope : Scope} {own : List (PySem.Str × Nat)} {pos : Pos} {wi : TI} {g : TG} {tt : TT} {te : TE} (hc : X.calm = true) (hN : X.N.Nodup) (hi : PI X tg iter wi) (ok : BlkOk X.N X.env.scope scope own)
    (hg : ∀ (s : Shared) (H : Hp) (C : Addr) (cl : List (PySem.Str × Addr)) (fp : List Addr), PG (X.blk s H scope (compEnvC scope cl C X.env) fp) tg g) (ht : ∀ (s : Shared) (H : Hp) (C : Addr) (cl : List (PySem.Str × Addr)) (fp : List Addr), PTs (X.blk s H scope (compEnvC scope cl C X.env) fp) ifs tt)
    (he : ∀ (s : Shared) (H : Hp) (C : Addr) (cl : List (PySem.Str × Addr)) (fp : List Addr), PE (X.blk s H scope (compEnvC scope cl C X.env) fp) elt te) (hs : ∀ x, foldedSetIterable iter X.env x = pure x := by intro _; rfl) :
    PE X (.SetComp elt [⟨tg, iter, ifs, 0⟩] scope pos) (tScK T wi g tt te (own.map (·.2))) := by
  refine ⟨fun pins s σ H Q I h => ?_⟩
  rw [PpSet.eval_SetComp]
  refine sck_core T hc hN I hi ok hg ht he hs h fun D C s' m H' I' q hn f => ⟨m, hn, fun h'' sb => ?_⟩
  obtain ⟨f0, f1, f2, f3, f4, f5⟩ := f
  exact ⟨.ref D, H', I'.turned (t' := s'.toks) (fun b o hb e => (sb.2 b hb).trans e) f0 f1 f3 f4 f5, rfl, q⟩
end
end VS
end

section
set_option Elab.async false
set_option linter.all false
set_option maxRecDepth 100000
set_option maxHeartbeats 1000000
namespace VS
open PySem PySem.Spec PyProof.Rows L2

/-! ## what a set holds, as data -/
structure SetKind (X : Cx) {R : Type} (T : Kit X.prog X.w R) where
  good : D → Bool
  Cn : Hp → R → List D → Prop
  imm : ∀ d, good d = true → d.imm = true
  okm : ∀ {A : Around} {h : Heap} {r : R} {v : Value}, T.ok A.in1 h r v → T.ok A h r v
  zero : ∀ H, Cn H T.r0 []
  kp : ∀ {H H' : Hp} {r : R} {ds : List D}, (∀ a xs, H a = some (.tup xs) → H' a = some (.tup xs)) → Cn H r ds → Cn H' r ds
  add : ∀ {S : Fp} {H : Hp} {y : V} {d : D} {r : R} {ds : List D} (A : Around), A.units ≤ X.A.units + 8 → good d = true → At X.K S H y d → Cn H r ds → ds.length < 62 → AddV T A H r y fun r' => Cn H r' (ds ++ [d])

/-! ### whole numbers -/
def insU (k : Int) : List Int → List Int
  | [] => [k]
  | x :: l => if k < x then k :: x :: l else if k = x then x :: l else x :: insU k l
def stepU (l : List Int) : D → List Int
  | .int k => insU k l
  | _ => l
/-- the different ones, ascending -/
def usort (ds : List D) : List Int := ds.foldl stepU []
def gI : D → Bool
  | .int _ => true
  | _ => false
theorem mem_insU {k j : Int} : ∀ {l : List Int}, j ∈ insU k l ↔ j = k ∨ j ∈ l
  | [] => by simp [insU]
  | x :: l => by
    unfold insU
    split
    · simp
    · split
      · rename_i h; subst h; simp
      · rw [List.mem_cons, List.mem_cons, mem_insU]
        constructor
        · rintro (h | h | h)
          · exact .inr (.inl h)
          · exact .inl h
          · exact .inr (.inr h)
        · rintro (h | h | h)
          · exact .inr (.inl h)
          · exact .inl h
          · exact .inr (.inr h)
theorem insU_up {k : Int} : ∀ {l : List Int}, l.Pairwise (· < ·) → (insU k l).Pairwise (· < ·)
  | [], _ => by simp [insU]
  | x :: l, h => by
    obtain ⟨h1, h2⟩ := List.pairwise_cons.mp h
    unfold insU
    split
    · rename_i c
      exact List.pairwise_cons.mpr ⟨fun y hy => by
        rcases List.mem_cons.mp hy with e | hy
        · rw [e]; exact c
        · exact Int.lt_trans c (h1 y hy), h⟩
    · split
      · exact h
      · refine List.pairwise_cons.mpr ⟨fun y hy => ?_, insU_up h2⟩
        rcases mem_insU.mp hy with e | hy
        · rw [e]; omega
        · exact h1 y hy
theorem insU_len {k : Int} : ∀ {l : List Int}, l.Pairwise (· < ·) → (insU k l).length = if k ∈ l then l.length else l.length + 1
  | [], _ => by simp [insU]
  | x :: l, h => by
    obtain ⟨h1, h2⟩ := List.pairwise_cons.mp h
    unfold insU
    split
    · rename_i c
      have n : k ∉ x :: l := fun m => by
        rcases List.mem_cons.mp m with e | m
        · omega
        · have := h1 k m; omega
      rw [if_neg n] <;> rfl
    · split
      · rename_i e
        rw [if_pos (by rw [e]; exact List.mem_cons_self)]
      · rename_i c1 c2
        rw [List.length_cons, insU_len h2]
        by_cases m : k ∈ l
        · rw [if_pos m, if_pos (List.mem_cons_of_mem _ m)] <;> rfl
        · rw [if_neg m, if_neg (by
            intro z
            rcases List.mem_cons.mp z with e | z
            · exact c2 e
            · exact m z)] <;> rfl
theorem usort_up : ∀ (ds : List D) (l : List Int), l.Pairwise (· < ·) → (ds.foldl stepU l).Pairwise (· < ·)
  | [], _, h => h
  | d :: ds, l, h => usort_up ds _ (by cases d <;> first | exact insU_up h | exact h)
theorem usort_snoc (ds : List D) (k : Int) : usort (ds ++ [.int k]) = insU k (usort ds) := by
  unfold usort
  rw [List.foldl_append] <;> rfl
theorem usort_le : ∀ (ds : List D) (l : List Int), l.Pairwise (· < ·) → (ds.foldl stepU l).length ≤ l.length + ds.length
  | [], _, _ => Nat.le_refl _
  | d :: ds, l, h => by
    have q := usort_le ds (stepU l d) (by cases d <;> first | exact insU_up h | exact h)
    have : (stepU l d).length ≤ l.length + 1 := by
      cases d <;> first
        | exact Nat.le_succ _
        | (rename_i k; show (insU k l).length ≤ _; rw [insU_len h]; split <;> omega)
    rw [List.foldl_cons, List.length_cons]
    omega
theorem mem_usort : ∀ {ds : List D} {l : List Int} {k : Int}, k ∈ ds.foldl stepU l ↔ k ∈ l ∨ D.int k ∈ ds
  | [], l, k => by simp
  | d :: ds, l, k => by
    rw [List.foldl_cons, mem_usort]
    cases d <;> simp [stepU, mem_insU, or_assoc, or_comm, or_left_comm]
/-- ascending lists of the same members -/
theorem up_ext : ∀ {l m : List Int}, l.Pairwise (· < ·) → m.Pairwise (· < ·) → (∀ k, k ∈ l ↔ k ∈ m) → l = m
  | [], [], _, _, _ => rfl
  | [], y :: m, _, _, h => absurd ((h y).2 List.mem_cons_self) (by simp)
  | x :: l, [], _, _, h => absurd ((h x).1 List.mem_cons_self) (by simp)
  | x :: l, y :: m, h1, h2, h => by
    obtain ⟨a1, a2⟩ := List.pairwise_cons.mp h1
    obtain ⟨b1, b2⟩ := List.pairwise_cons.mp h2
    have e : x = y := by
      rcases List.mem_cons.mp ((h x).1 List.mem_cons_self) with e | m1
      · exact e
      · rcases List.mem_cons.mp ((h y).2 List.mem_cons_self) with e | m2
        · exact e.symm
        · have c1 := b1 x m1
          have c2 := a1 y m2
          omega
    subst e
    congr 1
    refine up_ext a2 b2 fun k => ⟨fun hk => ?_, fun hk => ?_⟩
    · rcases List.mem_cons.mp ((h k).1 (List.mem_cons_of_mem _ hk)) with e | z
      · have := a1 k hk; omega
      · exact z
    · rcases List.mem_cons.mp ((h k).2 (List.mem_cons_of_mem _ hk)) with e | z
      · have := b1 k hk; omega
      · exact z
section
variable (P : Program) (w : World)
def kitI : Kit P w ((Int → Bool) × Nat) where
  is := fun h a r => SetR w h a r.1 r.2
  r0 := (fun _ => false, 0)
  ok := fun _ _ r v => (∃ k t, v = .int k t) ∧ r.2 + 1 < scanBound
  st := fun _ r v r' => ∃ k t, v = .int k t ∧ r' = (fun j => r.1 j || decide (j = k), if r.1 k = true then r.2 else r.2 + 1)
  cls := fun h a r R => by
    obtain ⟨o, es, ep, t, ho, hex, hd, _⟩ := R
    exact ⟨o, ho, hex.1, fun v z => by rw [hd] at z; cases z⟩
  fresh := fun h a ho => ⟨_, #[], 0, _, ho, ⟨rfl, rfl, rfl⟩, rfl, (fun e he => by simp at he), (by simp), (fun k => by simp), (by decide), (by rfl), rfl, List.Pairwise.nil, by
    show _ ∨ (!w.params.followText "set-order") = true
    cases w.params.followText "set-order"
    · exact .inr rfl
    · exact .inl rfl⟩
  same := fun h h' a r R k => SetR.at R k
  add := fun A E s a r v Q R o h => by
    obtain ⟨⟨k, t, rfl⟩, room⟩ := o
    unfold setAdd
    refine wpAny_holding (wpAny_bind ((intKind P w).pyHash (intKind_is P w k t) ?_))
    exact setR_add_hashed (s := { s with toks := s.toks + 1 }) R room fun h' sb new => h _ h' (s.toks + 1) _ (Nat.le_succ _) sb new ⟨k, t, rfl, rfl⟩
/-- a kit of nested tuples -/
def kitK : Kit P w (List (Addr × NestedKey)) where
  is := fun h a L => IsSetK (w.params.followText "set-order") h a L
  r0 := []
  ok := fun A h L v => (∀ p ∈ L, IsK h p.2 p.1) ∧ (∃ b k, v = .ref b ∧ IsK h k b) ∧ A.units + 8 < cLine ∧ L.length + 1 < 64
  st := fun h L v L' => ∃ b k, v = .ref b ∧ IsK h k b ∧ (k ∈ L.map (·.2) → L' = L) ∧ (k ∉ L.map (·.2) → L'.Perm ((b, k) :: L))
  cls := fun h a r R => by
    obtain ⟨es, ep, t, R⟩ := R
    obtain ⟨o, ho, hex, hd⟩ := R.ob
    exact ⟨o, ho, hex.1, fun v z => by rw [hd] at z; cases z⟩
  fresh := fun h a ho => ⟨#[], 0, _, ⟨_, ho, ⟨rfl, rfl, rfl⟩, rfl⟩, rfl, ⟨List.Pairwise.nil, rfl, rfl, .inl rfl, fun x hx => (by cases hx), fun i h j hi => (by simp at hi)⟩, List.nodup_nil, rfl, by
    show _ ∨ (!w.params.followText "set-order") = true
    cases w.params.followText "set-order"
    · exact .inr rfl
    · exact .inl rfl, by
    show 0 * 5 < 7 * 3
    decide, by
    show 0 < 64
    decide⟩
  same := fun h h' a r R k => IsSetK.keep R k
  add := fun A E s a L v Q R o h => by
    obtain ⟨tup, ⟨b, k, rfl, hx⟩, hu, few⟩ := o
    obtain ⟨es, ep, t, R⟩ := R
    unfold setAdd
    refine wpAny_holding (wpAny_bind (hash_key hu hx ?_))
    exact addK (s := { s with toks := s.toks + k.draws }) R tup hx hu few fun bb h' L' es' ep' t' sb R' c1 c2 => h bb h' (s.toks + k.draws) L' (Nat.le_add_right _ _) sb ⟨es', ep', t', R'⟩ ⟨b, k, rfl, hx, c1, c2⟩
end
section
variable (X : Cx)
theorem gI_int {d : D} (h : gI d = true) : ∃ k, d = .int k := by
  cases d <;> first | exact ⟨_, rfl⟩ | cases h
def kindI : SetKind X (kitI X.prog X.w) where
  good := gI
  Cn := fun _ r ds => (∀ k, r.1 k = true ↔ k ∈ usort ds) ∧ r.2 = (usort ds).length
  imm := fun d h => by
    obtain ⟨k, rfl⟩ := gI_int h
    rfl
  okm := fun h => h
  zero := fun H => ⟨fun k => ⟨fun z => (by cases z), fun z => (by cases z)⟩, rfl⟩
  kp := fun _ c => c
  add := fun {S H y d r ds} A hA g a c hl => by
    obtain ⟨k, rfl⟩ := gI_int g
    cases a
    intro s z _ hz
    obtain ⟨t, rfl⟩ := hz
    have h1 := usort_le ds [] List.Pairwise.nil
    have h2 : (usort ds).length ≤ 0 + ds.length := h1
    refine ⟨⟨⟨k, t, rfl⟩, by rw [c.2]; unfold scanBound; omega⟩, ?_⟩
    rintro r' ⟨kk, t', e, rfl⟩
    cases e
    refine ⟨fun j => ?_, ?_⟩
    · rw [usort_snoc, mem_insU, ← c.1 j]
      simp [or_comm]
    · rw [usort_snoc, insU_len (show (usort ds).Pairwise (· < ·) from usort_up ds [] List.Pairwise.nil)]
      show (if r.1 k = true then r.2 else r.2 + 1) = _
      by_cases q : r.1 k = true
      · rw [if_pos q, if_pos ((c.1 k).1 q), c.2]
      · rw [if_neg q, if_neg (fun z => q ((c.1 k).2 z)), c.2]
def gK (d : D) : Bool := (setKey d).isSome
theorem gK_imm : ∀ d, gK d = true → d.imm = true := by
  have key : (∀ d : D, ∀ k, keyN d = some k → d.imm = true) ∧ True := ⟨?_, trivial⟩
  · intro d h
    unfold gK at h
    cases d <;> simp only [setKey, Option.isSome_none, Bool.false_eq_true] at h
    rename_i ds
    cases q : keyN (.tup ds) with
    | none => rw [q] at h; cases h
    | some k => exact key.1 _ k q
  · have aux : ∀ n, (∀ d : D, sizeOf d < n → ∀ k, keyN d = some k → d.imm = true) := by
      intro n
      induction n with
      | zero => intro d h; exact absurd h (Nat.not_lt_zero _)
      | succ n ih =>
        intro d hd k hk
        cases d <;> simp only [keyN, reduceCtorEq] at hk <;> try rfl
        rename_i ds
        obtain ⟨ks, hks, _⟩ := Option.map_eq_some_iff.mp hk
        show D.imms ds = true
        have : ∀ (es : List D), sizeOf es ≤ sizeOf ds → ∀ ks, keysN es = some ks → D.imms es = true := by
          intro es
          induction es with
          | nil => intro _ _ _; rfl
          | cons e es ihs =>
            intro hs ks hk
            simp only [keysN, Option.bind_eq_some_iff, Option.map_eq_some_iff] at hk
            obtain ⟨k, hk, ks', hks, _⟩ := hk
            simp only [List.cons.sizeOf_spec] at hs
            simp only [D.tup.sizeOf_spec] at hd
            simp only [D.imm.immAll, Bool.and_eq_true]
            exact ⟨ih e (by omega) k hk, ihs (by omega) ks' hks⟩
        exact this ds (Nat.le_refl _) ks hks
    intro d k hk
    exact aux (sizeOf d + 1) d (Nat.lt_succ_self _) k hk
def kindK (hu : X.A.units + 64 < cLine) : SetKind X (kitK X.prog X.w) where
  good := gK
  Cn := fun H L ds => L.length ≤ ds.length ∧ ∃ L', SubK L L' ∧ Ats X.K (fun _ => False) H (L'.map fun p => V.ref p.1) ds ∧ ds.map setKey = L'.map fun p => some p.2
  imm := gK_imm
  okm := fun {A h r v} o => ⟨o.1, o.2.1, by have := o.2.2.1; simp only [Around.in1_units] at this; omega, o.2.2.2⟩
  zero := fun H => ⟨Nat.le_refl _, [], ⟨fun p h => (by cases h), fun p h => (by cases h)⟩, .nil, rfl⟩
  kp := fun {H H' L ds} k c => by
    obtain ⟨c0, L', a, b, z⟩ := c
    exact ⟨c0, L', a, b.kp ⟨fun _ _ _ f => f.elim, k⟩, z⟩
  add := fun {S H y d L ds} A hA g a c hl => by
    intro s z hok hz
    obtain ⟨c0, L', sb, at', ek⟩ := c
    obtain ⟨k, hk⟩ := Option.isSome_iff_exists.mp g
    obtain ⟨b, rfl, hx⟩ := isK_of hok hk a
    cases hz
    have tup : ∀ p ∈ L, IsK s.heap p.2 p.1 := fun p hp => set_tup hok at' ek p (sb.1 p hp)
    refine ⟨⟨tup, ⟨b, k, rfl, hx⟩, by simp only [Around.in1_units]; omega, by omega⟩, ?_⟩
    rintro L2 ⟨b', kk, e, hx', c1, c2⟩
    cases e
    obtain rfl := hx'.inj hx
    have at2 : Ats X.K (fun _ => False) H ((L' ++ [(b, kk)]).map fun p => V.ref p.1) (ds ++ [d]) := by
      rw [List.map_append]
      exact at'.app (.cons (a.imm (gK_imm d g)) .nil)
    have ek2 : (ds ++ [d]).map setKey = (L' ++ [(b, kk)]).map fun p => some p.2 := by
      rw [List.map_append, List.map_append, ek, List.map_cons, hk] <;> rfl
    by_cases m : kk ∈ L.map (·.2)
    · rw [c1 m]
      refine ⟨by rw [List.length_append]; omega, L' ++ [(b, kk)], ⟨fun p hp => List.mem_append_left _ (sb.1 p hp), fun p hp => ?_⟩, at2, ek2⟩
      rcases List.mem_append.mp hp with hp | hp
      · exact sb.2 p hp
      · rw [List.mem_singleton.mp hp]; exact m
    · have pm := c2 m
      refine ⟨by rw [pm.length_eq, List.length_append, List.length_cons, List.length_singleton]; omega, L' ++ [(b, kk)], ⟨fun p hp => ?_, fun p hp => ?_⟩, at2, ek2⟩
      · rcases List.mem_cons.mp (pm.mem_iff.mp hp) with e | hp
        · rw [e]; exact List.mem_append_right _ (List.mem_singleton.mpr rfl)
        · exact List.mem_append_left _ (sb.1 p hp)
      · rw [(pm.map (·.2)).mem_iff, List.map_cons]
        rcases List.mem_append.mp hp with hp | hp
        · exact List.mem_cons_of_mem _ (sb.2 p hp)
        · rw [List.mem_singleton.mp hp]; exact List.mem_cons_self
end
end VS
end

section
set_option Elab.async false
set_option linter.all false
set_option maxRecDepth 100000
set_option maxHeartbeats 1000000
namespace VS
open PySem PySem.Spec PyProof.Rows L2

/-! ## expressions that make a set -/
section
variable {X : Cx} {R : Type} {T : Kit X.prog X.w R}
/-- a new set that holds f -/
def tMK (K : PySem.W.Frag) (F : Frm) (Z : SetKind X T) (f : E (List D)) : TE := fun σ H Q => ∃ env ρ ds ρ', Rel K F σ H env ρ ∧ f env ρ = some (ds, ρ') ∧
  ∀ p r H', Eff F H H' → RowIs K F H' ρ' → H p = none → H' p = some (KO T p r) → F.SR p → Z.Cn H' r ds → Q (.ref p) H'
structure PMK (X : Cx) {R : Type} {T : Kit X.prog X.w R} (Z : SetKind X T) (e : Expr) (f : E (List D)) : Prop where
  pe : ∀ F : Frm, PE X e (tMK X.K F Z f)
def mSet (good : D → Bool) (a : E (List D)) : E (List D) := fun env ρ => (a env ρ).bind fun x => if x.1.length ≤ 60 ∧ x.1.all good = true then some x else none
theorem sc_read (Z : SetKind X T) {K : PySem.W.Frag} (hK : K = X.K) {F : Frm} {it : E (List D)} {g : D → List SV → Option (List SV)} {ts own : List Nat} {tt : E Bool} {el : E D} (hts : ∀ i ∈ ts, i ∈ own) {σ : L2.St} {H : Hp} {Q : VK}
    (h : tMK K F Z (mSet Z.good (mLc it own g tt el)) σ H Q) :
    tScK T (tMI K F it) (fun v σ H Q => ∃ F', tMG K F' g ts v σ H Q) (fun σ H Q => ∃ F', tMT K F' tt σ H Q) (fun σ H Q => ∃ F', tM K F' el σ H Q) own σ H Q := by
  subst hK
  obtain ⟨env, ρ, out, ρ', r, hf, k⟩ := h
  unfold mSet mLc at hf
  obtain ⟨⟨out', ρ''⟩, hf, hok⟩ := Option.bind_eq_some_iff.mp hf
  simp only at hok
  split at hok
  case isFalse => cases hok
  rename_i hgood
  cases hok
  obtain ⟨⟨ds, ρ1⟩, hit, hf⟩ := Option.bind_eq_some_iff.mp hf
  simp only at hf
  split at hf
  case isFalse => cases hf
  rename_i hlen
  refine ⟨env, ρ, ds, ρ1, r, hit, fun J H1 e1 w1 wk L hL => ?_⟩
  have nr := w1.new hL
  have r1 : Rel X.K F σ H1 env ρ1 := r.eff e1 w1
  have h0 : F.H0 L = none := by
    cases q : F.H0 L with
    | none => rfl
    | some o => have := r1.base L o q nr.1; rw [hL] at this; cases this
  have hp : F.Pr L = none := by
    cases q : F.Pr L with
    | none => rfl
    | some o => have := (r1.pr L o q).1; rw [hL] at this; cases this
  have rb : Rel X.K (F.mkg L) (wipe σ own) (upd H1 L (KO T L T.r0)) (wipeE env own) ρ1 := (r1.wipe own).begin hL
  refine ⟨fun i m H => m = ds.length - i ∧ i ≤ ds.length ∧ ∃ ρi acc rr rest, H L = some (KO T L rr) ∧ Z.Cn H rr acc ∧ (∀ a o, H1 a = some o → F.R ≠ some a → H a = some o) ∧
    Rel X.K (F.mkg L) (wipe σ own) H (wipeE env own) ρi ∧ lcGo (wipeE env own) g tt el (ds.drop i) ρi = some (rest, ρ') ∧ acc ++ rest = out,
    ⟨ds.length, by simp, Nat.zero_le _, ρ1, [], T.r0, out, upd_same, Z.zero _, fun a o h _ => by rw [upd_ne (ne_of_none h hL)]; exact h, rb, by simpa using hf, by simp⟩, ?_⟩
  rintro i m H2 ⟨rfl, hi, ρi, acc, rr, rest, hD, hcn, he, r2, hgo, hout⟩
  have kw : Kp (fun a => F.SR a ∧ ∃ o, H1 a = some o) H1 H2 := ⟨fun a o h s => he a o h s.1.1, fun a ys h => he a _ h (by
    intro z
    obtain ⟨us, hu, _⟩ := w1.1 a z
    rw [hu] at h; cases h)⟩
  have fz : FrzK H1 H2 := fun a od kvs h => he a _ h (by
    intro z
    obtain ⟨us, hu, _⟩ := w1.1 a z
    rw [hu] at h; cases h)
  obtain ⟨wgo, wst, wy⟩ := wk H2 kw fz
  by_cases hlt : i < ds.length
  case neg =>
    have ei : i = ds.length := by omega
    subst ei
    rw [List.drop_length] at hgo
    cases hgo
    rw [List.append_nil] at hout
    subst hout
    exact .inl ⟨wst, k L rr H2 (fun a o h n => he a o (e1 a o h n) n) ⟨r2.row.1, fun a h => r2.row.2.1 a (List.mem_cons_of_mem _ h), w1.2.2⟩ (eff_new e1 w1 hL) hD nr hcn⟩
  case pos =>
    refine .inr ⟨wgo i hlt, fun H' => ∃ m, m < ds.length - i ∧ (m = ds.length - (i + 1) ∧ i + 1 ≤ ds.length ∧ ∃ ρi acc rr rest, H' L = some (KO T L rr) ∧ Z.Cn H' rr acc ∧ (∀ a o, H1 a = some o → F.R ≠ some a → H' a = some o) ∧
      Rel X.K (F.mkg L) (wipe σ own) H' (wipeE env own) ρi ∧ lcGo (wipeE env own) g tt el (ds.drop (i + 1)) ρi = some (rest, ρ') ∧ acc ++ rest = out), fun H' h => h, fun x H3 y => ?_⟩
    obtain ⟨d, hd, sm, ax⟩ := wy i x H3 hlt y
    have ed : ds.drop i = d :: ds.drop (i + 1) := by
      obtain ⟨h1, h2⟩ := List.getElem?_eq_some_iff.mp hd
      rw [List.drop_eq_getElem_cons h1, h2]
    rw [ed] at hgo
    unfold lcGo at hgo
    obtain ⟨env', hg, hgo⟩ := Option.bind_eq_some_iff.mp hgo
    obtain ⟨⟨b, ρ2⟩, ht, hgo⟩ := Option.bind_eq_some_iff.mp hgo
    have r3 : Rel X.K (F.mkg L) (wipe σ own) H3 (wipeE env own) ρi := r2.eff (Eff.of_same sm) (r2.row.same sm)
    have hD3 : H3 L = some (KO T L rr) := sm _ _ hD
    have ax' : At X.K (F.mkg L).SR H3 x d := ax.sub fun a h => mkg_sr h.1 (by rintro rfl; obtain ⟨o, e⟩ := h.2; rw [hL] at e; cases e)
    refine ⟨F.mkg L, wipeE env own, ρi, d, env', r3, ax', hg, fun σ' r4 hw => ?_⟩
    refine ⟨by rw [hw own hts]; exact wipe_wipe σ own, ?_⟩
    refine ⟨F.mkg L, env', ρi, b, ρ2, r4, ht, fun H4 e4 w4 => ?_⟩
    have hD4 : H4 L = some (KO T L rr) := e4 L _ hD3 nr.1
    have sub4 : ∀ a o, H1 a = some o → F.R ≠ some a → H4 a = some o := fun a o h n => e4 a o (sm _ _ (he a o h n)) n
    have r4' : Rel X.K (F.mkg L) (wipe σ own) H4 (wipeE env own) ρ2 := r3.eff e4 w4
    have kt34 := (r3.row.kp e4).2
    have cn4 : Z.Cn H4 rr acc := Z.kp (fun a xs h => kt34 a xs (sm _ _ h)) hcn
    cases b with
    | false =>
      rw [if_neg (by simp)] at hgo
      show (if false = true then _ else _)
      rw [if_neg (by simp)]
      exact ⟨_, by omega, rfl, by omega, ρ2, acc, rr, rest, hD4, cn4, sub4, r4', hgo, hout⟩
    | true =>
      rw [if_pos rfl] at hgo
      show (if true = true then _ else _)
      rw [if_pos rfl]
      obtain ⟨⟨yd, ρ3⟩, hy, hgo⟩ := Option.bind_eq_some_iff.mp hgo
      obtain ⟨⟨rest', ρ4⟩, hrec, hgo⟩ := Option.map_eq_some_iff.mp hgo
      cases hgo
      refine ⟨F.mkg L, env', ρ2, yd, ρ3, r4.eff e4 w4, hy, fun yv H5 e5 w5 a5 => ?_⟩
      have hD5 : H5 L = some (KO T L rr) := e5 L _ hD4 nr.1
      have cn5 : Z.Cn H5 rr acc := Z.kp (w4.kp e5).2 cn4
      have hm : yd ∈ out := by rw [← hout]; simp
      have hl : acc.length < 62 := by
        have := hgood.1
        rw [← hout, List.length_append, List.length_cons] at this
        omega
      refine ⟨rr, _, hD5, Z.add X.A (by omega) (List.all_eq_true.mp hgood.2 yd hm) a5 cn5 hl, fun r' cn' => ?_⟩
      have r5 : Rel X.K (F.mkg L) (wipe σ own) H5 (wipeE env own) ρ3 := r4'.eff e5 w5
      have r6 := r5.grown (xs := KO T L r') h0 hp nr.1 ⟨_, hD5, ko_tup⟩
      have kt : ∀ a ys, H5 a = some (.tup ys) → (upd H5 L (KO T L r')) a = some (.tup ys) := fun a ys h => by
        rw [upd_ne (by rintro rfl; rw [hD5] at h; cases h)]; exact h
      refine ⟨_, by omega, rfl, by omega, ρ3, acc ++ [yd], r', rest', upd_same, Z.kp kt cn', fun a o h n => ?_, r6, hrec, by rw [← hout]; simp⟩
      rw [upd_ne (by rintro rfl; rw [hL] at h; cases h)]
      exact e5 a o (sub4 a o h n) n
theorem mk_sc (Z : SetKind X T) {elt tg iter : Expr} {ifs : List Expr} {scope : Scope} {own : List (Str × Nat)} {pos : Pos} {it : E (List D)} {g : D → List SV → Option (List SV)} {ts : List Nat} {tt : E Bool} {el : E D} (hc : X.calm = true) (hN : X.N.Nodup) (hi : PMI X tg iter it) (ok : BlkOk X.N X.env.scope scope own)
    (hg : ∀ (s : Shared) (H : Hp) (C : Addr) (cl : List (Str × Addr)) (fp : List Addr), PMG (X.blk s H scope (compEnvC scope cl C X.env) fp) tg g ts) (ht : ∀ (s : Shared) (H : Hp) (C : Addr) (cl : List (Str × Addr)) (fp : List Addr), PMTs (X.blk s H scope (compEnvC scope cl C X.env) fp) ifs tt)
    (he : ∀ (s : Shared) (H : Hp) (C : Addr) (cl : List (Str × Addr)) (fp : List Addr), PM (X.blk s H scope (compEnvC scope cl C X.env) fp) elt el) (hts : ∀ i ∈ ts, i ∈ own.map (·.2) := by decide) (hs : ∀ x, foldedSetIterable iter X.env x = pure x := by intro _; rfl) :
    PMK X Z (.SetComp elt [⟨tg, iter, ifs, 0⟩] scope pos) (mSet Z.good (mLc it (own.map (·.2)) g tt el)) :=
  ⟨fun F => PE.imp (pe_scK T hc hN (hi.pi F) ok (fun s H C cl fp => (hg s H C cl fp).ex) (fun s H C cl fp => (ht s H C cl fp).ex) (fun s H C cl fp => (he s H C cl fp).ex) hs) fun σ H Q h => sc_read Z rfl hts h⟩
end
end VS
end

section
set_option Elab.async false
set_option linter.all false
set_option maxRecDepth 100000
set_option maxHeartbeats 1000000
namespace VS
open PySem PySem.Spec PyProof.Rows L2

section
variable {X : Cx} {R : Type} {T : Kit X.prog X.w R}
theorem vals_get {xs : List V} {us : List Value} {i : Nat} {u : Value} (r : Vals xs us) (h : us[i]? = some u) : ∃ x, xs[i]? = some x ∧ RelV x u := by
  have hl := r.length
  have hi := (List.getElem?_eq_some_iff.mp h).1
  obtain ⟨x, hx⟩ : ∃ x, xs[i]? = some x := ⟨_, List.getElem?_eq_getElem (by omega)⟩
  obtain ⟨u', hu, rx⟩ := r.get hx
  rw [h] at hu
  cases hu
  exact ⟨x, hx, rx⟩
/-- set(x), x a list or a tuple -/
def rSetK (Z : SetKind X T) : List V → Hp → VK → Prop := fun vs H Q => ∃ (S : Fp) (x : V) (d : D) (ds : List D), vs = [x] ∧ At X.K S H x d ∧ (d = .lst ds ∨ d = .tup ds) ∧ ds.length ≤ 60 ∧ ds.all Z.good = true ∧
  ∀ p r, H p = none → Z.Cn (upd H p (KO T p r)) r ds → Q (.ref p) (upd H p (KO T p r))
theorem c_setK (Z : SetKind X T) (hc : X.calm = true) : CallR X (.type "set") (rSetK Z) := fun pins s σ H xs us Q I r ⟨S, x, d, ds, ex, a, hd, hl, hg, q⟩ => by
  subst ex
  have main : ∀ (vs : List V) (its : List Value), Vals vs its → Ats X.K S H vs ds →
      (∀ i v h r, its[i]? = some v → (Z.Cn H r (ds.take i) ∧ ∀ b o, s.heap.get? b = some o → h.get? b = some o) → T.ok X.A.in1.in1.in1 h r v ∧ ∀ r', T.st h r v r' → (Z.Cn H r' (ds.take (i + 1)) ∧ ∀ b o, s.heap.get? b = some o → h.get? b = some o)) := fun vs its rv at' i v h r hi iv => by
    obtain ⟨y, hy, ry⟩ := vals_get rv hi
    obtain ⟨d', hd', ad⟩ := at'.get' hy
    have hm : d' ∈ ds := List.mem_of_getElem? hd'
    have hlt : (ds.take i).length < 62 := by rw [List.length_take]; omega
    obtain ⟨o, st⟩ := Z.add X.A.in1.in1 (by simp only [Around.in1_units]; omega) (List.all_eq_true.mp hg d' hm) ad iv.1 hlt { s with heap := h } v (I.hok.kept iv.2) ry
    refine ⟨o, fun r' hr => ⟨?_, iv.2⟩⟩
    have e : ds.take (i + 1) = ds.take i ++ [d'] := by rw [List.take_succ, hd'] <;> rfl
    rw [e]
    exact st r' hr
  have fin : ∀ (h' : Heap) (tk : Nat) (r : R), T.is h' s.heap.objs.size r → Z.Cn H r ds → (∀ b o, s.heap.get? b = some o → h'.get? b = some o) → EP X pins σ Q (.ref s.heap.objs.size) { s with heap := h', toks := tk } := fun h' tk r is' cn k => by
    have hn : H s.heap.objs.size = none := I.hok.fresh (Nat.le_refl _)
    have sm := same_new (o := KO T s.heap.objs.size r) hn
    exact ⟨.ref _, upd H s.heap.objs.size (KO T s.heap.objs.size r), I.laid (t' := tk) k (Nat.le_refl _) (ko_new T is'), rfl, q _ r hn (Z.kp (fun a xs h => sm _ _ h) cn)⟩
  have hkk : ∀ (i : Nat) (h h' : Heap) (r : R), (Z.Cn H r (ds.take i) ∧ ∀ b o, s.heap.get? b = some o → h.get? b = some o) → (∀ b o, b < s.heap.objs.size → h.get? b = some o → h'.get? b = some o) → (Z.Cn H r (ds.take i) ∧ ∀ b o, s.heap.get? b = some o → h'.get? b = some o) :=
    fun i h h' r iv k => ⟨iv.1, fun b o e => k b o (Heap.lt_size e) (iv.2 b o e)⟩
  cases a with
  | @lst l vs es h qa =>
    have e : es = ds := by rcases hd with e | e <;> cases e <;> rfl
    subst e
    obtain ⟨its, rv, pl, hz⟩ := I.list h.sq
    rw [Vals.ref1 r]
    have m := main vs its rv qa
    have hlen : its.length = es.length := by rw [← rv.length, qa.len]
    refine kit_of_list T (I.ok.hd hc) pl.isList (fun i h r => Z.Cn H r (es.take i) ∧ ∀ b o, s.heap.get? b = some o → h.get? b = some o) (fun h' k => ⟨Z.zero _, k⟩) hkk (fun i v h r hi iv => (m i v h r (by simpa using hi) iv).1) (fun i v h r r' hi iv st => (m i v h r (by simpa using hi) iv).2 r' st) fun h' tk r is' iv k => ?_
    refine fin h' tk r is' ?_ k
    have z := iv.1
    rw [List.size_toArray, hlen, List.take_length] at z
    exact z
  | @tup l vs es h qa =>
    have e : es = ds := by rcases hd with e | e <;> cases e <;> rfl
    subst e
    obtain ⟨its, rv, pl, hz⟩ := I.tuple (.of h)
    rw [Vals.ref1 r]
    have m := main vs its rv qa
    have hlen : its.length = es.length := by rw [← rv.length, qa.len]
    refine kit_of_tuple T (I.ok.hd hc) pl (fun i h r => Z.Cn H r (es.take i) ∧ ∀ b o, s.heap.get? b = some o → h.get? b = some o) (fun h' k => ⟨Z.zero _, k⟩) hkk (fun i v h r hi iv => (m i v h r (by simpa using hi) iv).1) (fun i v h r r' hi iv st => (m i v h r (by simpa using hi) iv).2 r' st) fun h' tk r is' iv k => ?_
    refine fin h' tk r is' ?_ k
    have z := iv.1
    rw [List.size_toArray, hlen, List.take_length] at z
    exact z
  | _ => rcases hd with e | e <;> cases e
theorem mk_set (Z : SetKind X T) {a : Expr} {fa : E D} {p pos : Pos} (hc : X.calm = true) (hg : Gl X "set") (hm : X.mg "set" = none) (ha : PM X a fa)
    (he : starEach [a] X.env = (false, eval a X.env) :: starEach [] X.env := by rfl) : PMK X Z (.Call (.Name "set" p) [a] [] pos) (mSet Z.good (mSeq fa)) :=
  ⟨fun F => PE.imp (pe_callTy (c_setK Z hc) hg hm boot_set (pa_cons (ha.pe F) pa_nil he) (by decide) (by decide) he rfl) fun σ H Q ⟨env, ρ, ds, ρ', r, hf, k⟩ => by
    unfold mSet mSeq at hf
    obtain ⟨⟨ds', ρ''⟩, hf, hok⟩ := Option.bind_eq_some_iff.mp hf
    simp only at hok
    split at hok
    case isFalse => cases hok
    rename_i hgood
    cases hok
    obtain ⟨⟨d, ρ1⟩, hfa, hf⟩ := Option.bind_eq_some_iff.mp hf
    have e : (d = .lst ds ∨ d = .tup ds) ∧ ρ1 = ρ' := by
      simp only at hf
      split at hf <;> first | (cases hf; exact ⟨.inl rfl, rfl⟩) | (cases hf; exact ⟨.inr rfl, rfl⟩) | cases hf
    obtain ⟨e, rfl⟩ := e
    refine ⟨env, ρ, d, ρ1, r, hfa, fun v H1 e1 w1 a1 => ⟨F.SR, v, d, ds, rfl, a1, e, hgood.1, hgood.2, fun p r hp cn => ?_⟩⟩
    have sm := same_new (o := KO T p r) hp
    exact k p r _ (e1.trans (Eff.of_same sm)) (w1.same sm) (eff_new e1 w1 hp) upd_same (w1.new hp) cn⟩
end
/-! ### what is asked of a set -/
section
variable {X : Cx} {e : Expr} {f : E (List D)} {p pos : Pos}
def rLenI (X : Cx) : List V → Hp → VK → Prop := fun vs H Q => ∃ a r, vs = [V.ref a] ∧ H a = some (KO (kitI X.prog X.w) a r) ∧ Q (.int r.2) H
theorem c_lenI : CallR X (.builtin "len") (rLenI X) := fun pins s σ H vs us Q I r ⟨a, rr, ev, ha, q⟩ => by
  subst ev
  have R : SetR X.w s.heap a rr.1 rr.2 := (I.hok a _ ha).1
  rw [Vals.ref1 r]
  obtain ⟨o, es, ep, t, ho, hex, hd, _, _, _, hb, hf, hn, _⟩ := R
  refine call_len_set ho hex hd hf (by unfold scanBound at hb; omega) ⟨.int rr.2, H, I.tok _, ⟨_, by rw [hn]⟩, q⟩
/-- len of a set of ints -/
theorem m_lenI (hg : Gl X "len") (hm : X.mg "len" = none) (h : PMK X (kindI X) e f) (he : starEach [e] X.env = (false, eval e X.env) :: starEach [] X.env := by rfl) :
    PM X (.Call (.Name "len" p) [e] [] pos) (fun env ρ => (f env ρ).map fun x => (.int (usort x.1).length, x.2)) :=
  ⟨fun F => PE.imp (pe_callB c_lenI hg hm boot_len (pa_cons (h.pe F) pa_nil he) (by decide) (by decide) he rfl) fun σ H Q ⟨env, ρ, d, ρ', r, hf, k⟩ => by
    obtain ⟨⟨ds, ρ1⟩, hf2, e⟩ := Option.map_eq_some_iff.mp hf
    cases e
    refine ⟨env, ρ, ds, ρ1, r, hf2, fun p rr H' ef w hn hp sr cn => ⟨p, rr, rfl, hp, ?_⟩⟩
    rw [cn.2]
    exact k _ _ ef w (.int _)⟩
/-- sorted of a set of ints -/
theorem mf_sortedI (hc : X.calm = true) (hg : Gl X "sorted") (hm : X.mg "sorted" = none) (h : PMK X (kindI X) e f) (he : starEach [e] X.env = (false, eval e X.env) :: starEach [] X.env := by rfl) (hlen : ∀ env ρ x, f env ρ = some x → x.1.length ≤ 60) :
    PMF X (.Call (.Name "sorted" p) [e] [] pos) (fun env ρ => (f env ρ).map fun x => ((usort x.1).map D.int, x.2)) :=
  ⟨fun F => PE.imp (pe_callB (cr_sortedSet hc) hg hm boot_sorted (pa_cons (h.pe F) pa_nil he) (by decide) (by decide) he rfl) fun σ H Q ⟨env, ρ, d, ρ', r, hf, k⟩ => by
    obtain ⟨⟨ds, ρ1⟩, hf2, e⟩ := Option.map_eq_some_iff.mp hf
    cases e
    have hl : ds.length ≤ 60 := hlen _ _ _ hf2
    have h1 : (usort ds).length ≤ 0 + ds.length := usort_le ds [] List.Pairwise.nil
    refine ⟨env, ρ, ds, ρ1, r, hf2, fun p rr H' ef w hn hp sr cn => ⟨p, rr.1, rr.2, rfl, hp, by rw [cn.2]; omega, fun ns p2 up mem len hp2 => ?_⟩⟩
    have e : ns = usort ds := up_ext up (usort_up ds [] List.Pairwise.nil) fun k => (mem k).trans (cn.1 k)
    subst e
    have sm := same_new (o := .lst ((usort ds).map V.int)) hp2
    exact k p2 _ _ (ef.trans (Eff.of_same sm)) (w.same sm) (eff_new ef w hp2) upd_same (w.new hp2) (Ats.ints _)⟩
/-- a set of nested tuples as data -/
theorem m_setK (hu : X.A.units + 64 < cLine) (h : PMK X (kindK X hu) e f) : PM X e (fun env ρ => (f env ρ).map fun x => (.st x.1, x.2)) :=
  ⟨fun F => PE.imp (h.pe F) fun σ H Q ⟨env, ρ, d, ρ', r, hf, k⟩ => by
    obtain ⟨⟨ds, ρ1⟩, hf2, e⟩ := Option.map_eq_some_iff.mp hf
    cases e
    refine ⟨env, ρ, ds, ρ1, r, hf2, fun p L H' ef w hn hp sr cn => k _ _ ef w ?_⟩
    obtain ⟨_, L', sb, a, z⟩ := cn
    exact .st (fb := X.w.params.followText "set-order") hp sr sb (a.sub fun _ f => f.elim) z⟩
theorem mSet_len {g : D → Bool} {a : E (List D)} : ∀ env ρ x, mSet g a env ρ = some x → x.1.length ≤ 60 := fun env ρ x h => by
  unfold mSet at h
  obtain ⟨y, _, h⟩ := Option.bind_eq_some_iff.mp h
  split at h
  · rename_i hh
    cases h
    exact hh.1
  · cases h
end
end VS
end

section
set_option Elab.async false
set_option linter.all false
set_option maxRecDepth 100000
set_option maxHeartbeats 1000000
namespace VS
open PySem PySem.Spec PyProof.Rows L2

/-! ## {a, b} -/
section
variable {X : Cx} {R : Type} {T : Kit X.prog X.w R}
theorem road2 (a b : Expr) : (displayRoad 0 [a, b] == DisplayRoad.constants) = false ∧ (displayRoad 0 [a, b] == DisplayRoad.unsure) = false := ⟨rfl, rfl⟩
/-- setAdd itself -/
theorem add_raw (Z : SetKind X T) {pins : List (Addr × Obj)} {σ : L2.St} {H : Hp} {s : Shared} {D : Addr} {r : R} {y : V} {z : Value} {N : R → Prop} {E : Value → Shared → Prop} {Q : Bool → Shared → Prop} (I : Inv X pins σ H s) (hD : H D = some (KO T D r)) (hv : AddV T X.A H r y N) (hz : RelV y z)
    (h : ∀ b s' r', N r' → Inv X pins σ (upd H D (KO T D r')) s' → Q b s') : wpAny (model X.prog X.w) X.A (setAdd D z) Q E s := by
  obtain ⟨o, st⟩ := hv s z I.hok hz
  refine T.add _ _ _ _ _ _ _ (I.hok D _ hD).1 (Z.okm o) fun b h' tk r' ht sb i' ss => h b _ r' (st r' ss) ?_
  have he : ∃ u, h'.get? D = some u := by
    obtain ⟨o, ho, _⟩ := T.cls _ _ _ i'
    exact ⟨o, ho⟩
  exact I.write (e := D) (t' := tk) (by rw [hD]; trivial) (.inl rfl) (fun b u hb hu => (sb.2 b hb).trans hu) he (ko_new T i')
def tDisp2 (T : Kit X.prog X.w R) (ta tb : TE) : TE := fun σ H Q => ∀ D, H D = none → ta σ (upd H D (KO T D T.r0)) fun x H1 => tb σ H1 fun y H2 => ∃ r N, H2 D = some (KO T D r) ∧ AddV T X.A H2 r x N ∧
  ∀ r1, N r1 → ∃ N2, AddV T X.A (upd H2 D (KO T D r1)) r1 y N2 ∧ ∀ r2, N2 r2 → Q (.ref D) (upd (upd H2 D (KO T D r1)) D (KO T D r2))
theorem pe_disp2 (Z : SetKind X T) {a b : Expr} {ta tb : TE} {pos : Pos} (hcd : PySem.W.kdsCode X.K X.env.code = true) (ha : PE X a ta) (hb : PE X b tb)
    (hst : starEach [a, b] X.env = [(false, eval a X.env), (false, eval b X.env)] := by rfl) : PE X (.Set [a, b] 0 pos) (tDisp2 T ta tb) := by
  refine ⟨fun pins s σ H Q I h => ?_⟩
  rw [arm_eval_Set]
  refine wpAny_bind (wpAny_standAt ?_)
  refine wpAny_bind (PySem.W.kds_main I.kIn hcd fun b => ?_)
  rw [hst]
  unfold setDisplay
  try dsimp only
  rw [if_neg (by rw [(road2 _ _).1]; exact Bool.false_ne_true)]
  refine wpAny_bind (PpSet.newSet_ok ?_)
  obtain ⟨D, hD⟩ : ∃ D, s.heap.objs.size = D := ⟨_, rfl⟩
  have hDn : H D = none := I.hok.fresh (Nat.le_of_eq hD)
  have I1 : Inv X pins σ (upd H D (KO T D T.r0)) { s with heap := s.heap.push (set0 X.w) } := by
    refine I.laid (t' := s.toks) (fun b o e => Heap.get?_push_of_some _ e) (Nat.le_of_eq hD) (ko_new T (T.fresh _ _ ?_))
    rw [← hD]
    exact Heap.get?_push_size _ rfl
  dsimp only
  rw [hD]
  simp only [List.map_cons, List.map_nil, List.length_cons, List.length_nil, List.findIdx?_cons, List.findIdx?_nil, Bool.false_eq_true, if_false, Option.map_none, Option.getD_none, List.take_succ_cons, List.take_zero, List.drop_succ_cons, List.drop_zero, Nat.reduceAdd, Nat.reduceLT, gt_iff_lt, Nat.not_lt, List.take_nil, List.drop_nil]
  refine wpAny_bind (wpAny_holding ?_)
  refine wpAny_bind (wpAny_evalAll_cons (wpAny_bind (thn (ha.run pins _ σ _ _ I1 (h D hDn)) fun u s2 ⟨x, H2, I2, r2, h2⟩ => wpAny_bind (wpAny_standAt (wpAny_pure ?_)))))
  refine wpAny_evalAll_cons (wpAny_bind (thn (hb.run pins _ σ _ _ I2 h2) fun v s3 ⟨y, H3, I3, r3, r, N, hD3, av, q⟩ => wpAny_bind (wpAny_standAt (wpAny_pure ?_))))
  refine wpAny_evalAll_nil ?_
  refine wpAny_bind (wpAny_holding ?_)
  refine wpAny_bind ?_
  rw [List.forIn_cons]
  refine wpAny_bind (wpAny_bind (add_raw Z I3 hD3 av r2 fun b s4 r1 n1 I4 => ?_))
  obtain ⟨N2, av2, q2⟩ := q r1 n1
  try refine wpAny_pure ?_
  try dsimp only
  rw [List.forIn_cons]
  refine wpAny_bind (wpAny_bind (add_raw Z I4 upd_same av2 r3 fun b s5 r5 n5 I5 => ?_))
  try refine wpAny_pure ?_
  try dsimp only
  rw [List.forIn_nil]
  refine wpAny_pure ?_
  rw [if_neg (by rw [(road2 _ _).2]; exact Bool.false_ne_true)]
  refine wpAny_pure ?_
  rw [List.forIn_nil]
  exact wpAny_pure (wpAny_pure ⟨.ref D, _, I5, rfl, q2 r5 n5⟩)
theorem mk_disp2 (Z : SetKind X T) {a b : Expr} {fa fb : E D} {pos : Pos} (hcd : PySem.W.kdsCode X.K X.env.code = true) (ha : PM X a fa) (hb : PM X b fb) (hst : starEach [a, b] X.env = [(false, eval a X.env), (false, eval b X.env)] := by rfl) :
    PMK X Z (.Set [a, b] 0 pos) (mSet Z.good (mCons fa (mCons fb mNil))) :=
  ⟨fun F => PE.imp (pe_disp2 Z hcd ha.ex hb.ex hst) fun σ H Q ⟨env, ρ, ds, ρ', r, hf, k⟩ => by
    unfold mSet mCons mNil at hf
    obtain ⟨⟨ds', ρ''⟩, hf, hok⟩ := Option.bind_eq_some_iff.mp hf
    simp only at hok
    split at hok
    case isFalse => cases hok
    rename_i hgood
    cases hok
    obtain ⟨⟨da, ρ1⟩, h1, hf⟩ := Option.bind_eq_some_iff.mp hf
    obtain ⟨⟨es, ρ2⟩, hf2, e⟩ := Option.map_eq_some_iff.mp hf
    cases e
    obtain ⟨⟨db, ρ3⟩, h2, hf3⟩ := Option.bind_eq_some_iff.mp hf2
    obtain ⟨⟨fs, ρ4⟩, hf4, e⟩ := Option.map_eq_some_iff.mp hf3
    cases hf4
    cases e
    intro D hD
    have nr := r.row.new hD
    have h0 : F.H0 D = none := by
      cases q : F.H0 D with
      | none => rfl
      | some o => have := r.base D o q nr.1; rw [hD] at this; cases this
    have hp : F.Pr D = none := by
      cases q : F.Pr D with
      | none => rfl
      | some o => have := (r.pr D o q).1; rw [hD] at this; cases this
    have rb : Rel X.K (F.mkg D) σ (upd H D (KO T D T.r0)) env ρ := r.begin hD
    refine ⟨F.mkg D, env, ρ, da, ρ1, rb, h1, fun v H1 e1 w1 a1 => ?_⟩
    have r1 := rb.eff e1 w1
    refine ⟨F.mkg D, env, ρ1, db, _, r1, h2, fun u H2 e2 w2 a2 => ?_⟩
    have r2 := r1.eff e2 w2
    have e12 := e1.trans e2
    have hD2 : H2 D = some (KO T D T.r0) := e12 D _ upd_same nr.1
    have g := hgood.2
    simp only [List.all_cons, List.all_nil, Bool.and_true, Bool.and_eq_true] at g
    have kt : ∀ (H : Hp) (o o' : HO), H D = some o → (∀ xs, o ≠ .tup xs) → ∀ c ys, H c = some (.tup ys) → (upd H D o') c = some (.tup ys) := fun H o o' hH ho c ys h => by
      rw [upd_ne (by rintro rfl; rw [hH] at h; exact ho ys (Option.some.inj h))]; exact h
    refine ⟨T.r0, _, hD2, Z.add X.A (by omega) g.1 (a1.kp (w1.kp e2)) (Z.zero H2) (by simp), fun rr1 n1 => ?_⟩
    have kt1 := kt H2 _ (KO T D rr1) hD2 ko_tup
    have k1 : Kp (F.mkg D).SR H2 (upd H2 D (KO T D rr1)) := ⟨fun c o h s => by
      rw [upd_ne (by rintro rfl; exact s.2 List.mem_cons_self)]; exact h, kt1⟩
    refine ⟨_, Z.add X.A (by omega) g.2 (a2.kp k1) (Z.kp kt1 n1) (by simp), fun rr2 n2 => ?_⟩
    have r3 := r2.grown (xs := KO T D rr1) h0 hp nr.1 ⟨_, hD2, ko_tup⟩
    have r4 := r3.grown (xs := KO T D rr2) h0 hp nr.1 ⟨_, upd_same, ko_tup⟩
    refine k D rr2 _ (fun c o h n => ?_) ⟨r4.row.1, fun c h => r4.row.2.1 c (List.mem_cons_of_mem _ h), r.row.2.2⟩ hD upd_same nr (Z.kp (kt _ _ _ upd_same ko_tup) n2)
    have ne : c ≠ D := by rintro rfl; rw [hD] at h; cases h
    rw [upd_ne ne, upd_ne ne]
    refine e12 c o ?_ n
    rw [upd_ne ne]
    exact h⟩
end
end VS
end

section
set_option Elab.async false
set_option linter.all false
set_option maxRecDepth 100000
set_option maxHeartbeats 1000000
namespace VS
open PySem PySem.Spec PyProof.Rows L2

/-! ## comprehensions with two for -/
def lc2Go (env : List SV) (g : D → List SV → Option (List SV)) (tt : E Bool) (it1 : E (List D)) (own1 : List Nat) (g1 : D → List SV → Option (List SV)) (tt1 : E Bool) (el : E D) : List D → List D → Option (List D × List D)
  | [], ρ => some ([], ρ)
  | d :: ds, ρ => (g d env).bind fun env' => (tt env' ρ).bind fun t => if t.1 = true then
      (it1 env' t.2).bind fun x => if x.1.length ≤ 1000000 then (lcGo (wipeE env' own1) g1 tt1 el x.1 x.2).bind fun y => (lc2Go env g tt it1 own1 g1 tt1 el ds y.2).map fun r => (y.1 ++ r.1, r.2) else none
    else lc2Go env g tt it1 own1 g1 tt1 el ds t.2
def mLc2 (it : E (List D)) (own : List Nat) (g : D → List SV → Option (List SV)) (tt : E Bool) (it1 : E (List D)) (own1 : List Nat) (g1 : D → List SV → Option (List SV)) (tt1 : E Bool) (el : E D) : E (List D) :=
  fun env ρ => (it env ρ).bind fun x => if x.1.length ≤ 1000000 then (lc2Go (wipeE env own) g tt it1 own1 g1 tt1 el x.1 x.2).bind fun y => if y.1.length ≤ 1000000 then some y else none else none
section
variable {X : Cx}
theorem lc2_read {K : PySem.W.Frag} {F : Frm} {it it1 : E (List D)} {g g1 : D → List SV → Option (List SV)} {ts own ts1 own1 : List Nat} {tt tt1 : E Bool} {el : E D} (hts : ∀ i ∈ ts, i ∈ own) (hts1 : ∀ i ∈ ts1, i ∈ own1) {σ : L2.St} {H : Hp} {Q : VK}
    (h : tMF K F (mLc2 it own g tt it1 own1 g1 tt1 el) σ H Q) :
    tLc2 (tMI K F it) (fun v σ H Q => ∃ F', tMG K F' g ts v σ H Q) (fun σ H Q => ∃ F', tMT K F' tt σ H Q) (fun σ H Q => ∃ F', tMI K F' it1 σ H Q) (fun v σ H Q => ∃ F', tMG K F' g1 ts1 v σ H Q) (fun σ H Q => ∃ F', tMT K F' tt1 σ H Q) (fun σ H Q => ∃ F', tM K F' el σ H Q) own own1 σ H Q := by
  obtain ⟨env, ρ, out, ρ', r, hf, k⟩ := h
  unfold mLc2 at hf
  obtain ⟨⟨ds, ρ1⟩, hit, hf⟩ := Option.bind_eq_some_iff.mp hf
  simp only at hf
  split at hf
  case isFalse => cases hf
  rename_i hlen
  obtain ⟨⟨out', ρ''⟩, hf, hok⟩ := Option.bind_eq_some_iff.mp hf
  simp only at hok
  split at hok
  case isFalse => cases hok
  rename_i hlout
  cases hok
  refine ⟨env, ρ, ds, ρ1, r, hit, fun J H1 e1 w1 wk L hL => ?_⟩
  have nr := w1.new hL
  have r1 : Rel K F σ H1 env ρ1 := r.eff e1 w1
  have h0 : F.H0 L = none := by
    cases q : F.H0 L with
    | none => rfl
    | some o => have := r1.base L o q nr.1; rw [hL] at this; cases this
  have hp : F.Pr L = none := by
    cases q : F.Pr L with
    | none => rfl
    | some o => have := (r1.pr L o q).1; rw [hL] at this; cases this
  have rb : Rel K (F.mkg L) (wipe σ own) (upd H1 L (.lst [])) (wipeE env own) ρ1 := (r1.wipe own).begin hL
  refine ⟨fun i m H => m = ds.length - i ∧ i ≤ ds.length ∧ ∃ ρi acc vs rest, H L = some (.lst vs) ∧ Ats K (F.mkg L).SR H vs acc ∧ (∀ a o, H1 a = some o → F.R ≠ some a → H a = some o) ∧
    Rel K (F.mkg L) (wipe σ own) H (wipeE env own) ρi ∧ lc2Go (wipeE env own) g tt it1 own1 g1 tt1 el (ds.drop i) ρi = some (rest, ρ') ∧ acc ++ rest = out,
    ⟨ds.length, by simp, Nat.zero_le _, ρ1, [], [], out, upd_same, .nil, fun a o h _ => by rw [upd_ne (ne_of_none h hL)]; exact h, rb, by simpa using hf, by simp⟩, ?_⟩
  rintro i m H2 ⟨rfl, hi, ρi, acc, vs, rest, hD, ha, he, r2, hgo, hout⟩
  have kw : Kp (fun a => F.SR a ∧ ∃ o, H1 a = some o) H1 H2 := ⟨fun a o h s => he a o h s.1.1, fun a ys h => he a _ h (by
    intro z
    obtain ⟨us, hu, _⟩ := w1.1 a z
    rw [hu] at h; cases h)⟩
  have fz : FrzK H1 H2 := fun a od kvs h => he a _ h (by
    intro z
    obtain ⟨us, hu, _⟩ := w1.1 a z
    rw [hu] at h; cases h)
  obtain ⟨wgo, wst, wy⟩ := wk H2 kw fz
  by_cases hlt : i < ds.length
  case neg =>
    have ei : i = ds.length := by omega
    subst ei
    rw [List.drop_length] at hgo
    cases hgo
    rw [List.append_nil] at hout
    subst hout
    exact .inl ⟨wst, k L vs H2 (fun a o h n => he a o (e1 a o h n) n) ⟨r2.row.1, fun a h => r2.row.2.1 a (List.mem_cons_of_mem _ h), w1.2.2⟩ (eff_new e1 w1 hL) hD nr (ha.sub fun a s => sr_mkg s)⟩
  case pos =>
    refine .inr ⟨wgo i hlt, fun H' => ∃ m, m < ds.length - i ∧ (m = ds.length - (i + 1) ∧ i + 1 ≤ ds.length ∧ ∃ ρi acc vs rest, H' L = some (.lst vs) ∧ Ats K (F.mkg L).SR H' vs acc ∧ (∀ a o, H1 a = some o → F.R ≠ some a → H' a = some o) ∧
      Rel K (F.mkg L) (wipe σ own) H' (wipeE env own) ρi ∧ lc2Go (wipeE env own) g tt it1 own1 g1 tt1 el (ds.drop (i + 1)) ρi = some (rest, ρ') ∧ acc ++ rest = out), fun H' h => h, fun x H3 y => ?_⟩
    obtain ⟨d, hd, sm, ax⟩ := wy i x H3 hlt y
    have ed : ds.drop i = d :: ds.drop (i + 1) := by
      obtain ⟨h1, h2⟩ := List.getElem?_eq_some_iff.mp hd
      rw [List.drop_eq_getElem_cons h1, h2]
    rw [ed] at hgo
    unfold lc2Go at hgo
    obtain ⟨env', hg, hgo⟩ := Option.bind_eq_some_iff.mp hgo
    obtain ⟨⟨b, ρ2⟩, ht, hgo⟩ := Option.bind_eq_some_iff.mp hgo
    have r3 : Rel K (F.mkg L) (wipe σ own) H3 (wipeE env own) ρi := r2.eff (Eff.of_same sm) (r2.row.same sm)
    have hD3 : H3 L = some (.lst vs) := sm _ _ hD
    have ax' : At K (F.mkg L).SR H3 x d := ax.sub fun a h => mkg_sr h.1 (by rintro rfl; obtain ⟨o, e⟩ := h.2; rw [hL] at e; cases e)
    refine ⟨F.mkg L, wipeE env own, ρi, d, env', r3, ax', hg, fun σ2 r4 hw => ?_⟩
    refine ⟨by rw [hw own hts]; exact wipe_wipe σ own, ?_⟩
    refine ⟨F.mkg L, env', ρi, b, ρ2, r4, ht, fun H4 e4 w4 => ?_⟩
    have hD4 : H4 L = some (.lst vs) := e4 L _ hD3 nr.1
    have sub4 : ∀ a o, H1 a = some o → F.R ≠ some a → H4 a = some o := fun a o h n => e4 a o (sm _ _ (he a o h n)) n
    have ha4 : Ats K (F.mkg L).SR H4 vs acc := (ha.kp (Kp.of_same sm)).kp (r3.row.kp e4)
    have r4' : Rel K (F.mkg L) (wipe σ own) H4 (wipeE env own) ρ2 := r3.eff e4 w4
    cases b with
    | false =>
      rw [if_neg (by simp)] at hgo
      show (if false = true then _ else _)
      rw [if_neg (by simp)]
      exact ⟨_, by omega, rfl, by omega, ρ2, acc, vs, rest, hD4, ha4, sub4, r4', hgo, hout⟩
    | true =>
      rw [if_pos rfl] at hgo
      show (if true = true then _ else _)
      rw [if_pos rfl]
      obtain ⟨⟨es, ρ3⟩, hit1, hgo⟩ := Option.bind_eq_some_iff.mp hgo
      simp only at hgo
      split at hgo
      case isFalse => cases hgo
      rename_i hles
      obtain ⟨⟨ys, ρ5⟩, hin, hgo⟩ := Option.bind_eq_some_iff.mp hgo
      obtain ⟨⟨rest', ρ6⟩, hrec, hgo⟩ := Option.map_eq_some_iff.mp hgo
      cases hgo
      refine ⟨F.mkg L, env', ρ2, es, ρ3, r4.eff e4 w4, hit1, fun J1 H5 e5 w5 wk1 => ?_⟩
      have hD5 : H5 L = some (.lst vs) := e5 L _ hD4 nr.1
      have ha5 : Ats K (F.mkg L).SR H5 vs acc := ha4.kp (w4.kp e5)
      have r5 : Rel K (F.mkg L) (wipe σ own) H5 (wipeE env own) ρ3 := r4'.eff e5 w5
      have r5i : Rel K (F.mkg L) (wipe σ2 own1) H5 (wipeE env' own1) ρ3 := ((r4.eff e4 w4).eff e5 w5).wipe own1
      refine ⟨fun j kk H => kk = es.length - j ∧ j ≤ es.length ∧ ∃ ρj acc' vs' rest1, H L = some (.lst vs') ∧ Ats K (F.mkg L).SR H vs' acc' ∧ (∀ a o, H5 a = some o → F.R ≠ some a → a ≠ L → H a = some o) ∧
        Rel K (F.mkg L) (wipe σ own) H (wipeE env own) ρj ∧ Rel K (F.mkg L) (wipe σ2 own1) H (wipeE env' own1) ρj ∧ lcGo (wipeE env' own1) g1 tt1 el (es.drop j) ρj = some (rest1, ρ5) ∧ acc' ++ rest1 = acc ++ ys,
        ⟨es.length, by simp, Nat.zero_le _, ρ3, acc, vs, ys, hD5, ha5, fun a o h _ _ => h, r5, r5i, by simpa using hin, rfl⟩, ?_⟩
      rintro j kk H6 ⟨rfl, hj, ρj, acc', vs', rest1, hD6, ha6, he6, ro, ri, hgo1, hout1⟩
      have kw1 : Kp (fun a => (F.mkg L).SR a ∧ ∃ o, H5 a = some o) H5 H6 := ⟨fun a o h s => he6 a o h s.1.1 (fun z => s.1.2 (by rw [z]; exact List.mem_cons_self)), fun a zs h => he6 a _ h (by
        intro z
        obtain ⟨us, hu, _⟩ := w5.1 a z
        rw [hu] at h; cases h) (by
        rintro rfl
        rw [hD5] at h; cases h)⟩
      have fz1 : FrzK H5 H6 := fun a od kvs h => he6 a _ h (by
        intro z
        obtain ⟨us, hu, _⟩ := w5.1 a z
        rw [hu] at h; cases h) (by
        rintro rfl
        rw [hD5] at h; cases h)
      obtain ⟨wgo1, wst1, wy1⟩ := wk1 H6 kw1 fz1
      by_cases hlt1 : j < es.length
      case neg =>
        have ej : j = es.length := by omega
        subst ej
        rw [List.drop_length] at hgo1
        cases hgo1
        rw [List.append_nil] at hout1
        refine .inl ⟨wst1, _, by omega, rfl, by omega, _, acc', vs', rest', hD6, ha6, fun a o h n => he6 a o (e5 a o (sub4 a o h n) n) n (by rintro rfl; rw [hL] at h; cases h), ro, hrec, ?_⟩
        rw [hout1, ← hout, List.append_assoc]
      case pos =>
        refine .inr ⟨wgo1 j hlt1, fun H' => ∃ m, m < es.length - j ∧ (m = es.length - (j + 1) ∧ j + 1 ≤ es.length ∧ ∃ ρj acc' vs' rest1, H' L = some (.lst vs') ∧ Ats K (F.mkg L).SR H' vs' acc' ∧ (∀ a o, H5 a = some o → F.R ≠ some a → a ≠ L → H' a = some o) ∧
          Rel K (F.mkg L) (wipe σ own) H' (wipeE env own) ρj ∧ Rel K (F.mkg L) (wipe σ2 own1) H' (wipeE env' own1) ρj ∧ lcGo (wipeE env' own1) g1 tt1 el (es.drop (j + 1)) ρj = some (rest1, ρ5) ∧ acc' ++ rest1 = acc ++ ys), fun H' h => h, fun x1 H7 y1 => ?_⟩
        obtain ⟨d1, hd1, sm1, ax1⟩ := wy1 j x1 H7 hlt1 y1
        have ed1 : es.drop j = d1 :: es.drop (j + 1) := by
          obtain ⟨h1, h2⟩ := List.getElem?_eq_some_iff.mp hd1
          rw [List.drop_eq_getElem_cons h1, h2]
        rw [ed1] at hgo1
        unfold lcGo at hgo1
        obtain ⟨env2, hg1, hgo1⟩ := Option.bind_eq_some_iff.mp hgo1
        obtain ⟨⟨b1, ρ7⟩, ht1, hgo1⟩ := Option.bind_eq_some_iff.mp hgo1
        have ri7 : Rel K (F.mkg L) (wipe σ2 own1) H7 (wipeE env' own1) ρj := ri.eff (Eff.of_same sm1) (ri.row.same sm1)
        have ro7 : Rel K (F.mkg L) (wipe σ own) H7 (wipeE env own) ρj := ro.eff (Eff.of_same sm1) (ro.row.same sm1)
        have hD7 : H7 L = some (.lst vs') := sm1 _ _ hD6
        refine ⟨F.mkg L, wipeE env' own1, ρj, d1, env2, ri7, ax1.sub fun a h => h.1, hg1, fun σ3 r8 hw1 => ?_⟩
        refine ⟨by rw [hw1 own1 hts1]; exact wipe_wipe σ2 own1, ?_⟩
        refine ⟨F.mkg L, env2, ρj, b1, ρ7, r8, ht1, fun H8 e8 w8 => ?_⟩
        have hD8 : H8 L = some (.lst vs') := e8 L _ hD7 nr.1
        have ha8 : Ats K (F.mkg L).SR H8 vs' acc' := (ha6.kp (Kp.of_same sm1)).kp (ri7.row.kp e8)
        have ri8 : Rel K (F.mkg L) (wipe σ2 own1) H8 (wipeE env' own1) ρ7 := ri7.eff e8 w8
        have ro8 : Rel K (F.mkg L) (wipe σ own) H8 (wipeE env own) ρ7 := ro7.eff e8 w8
        have he8 : ∀ a o, H5 a = some o → F.R ≠ some a → a ≠ L → H8 a = some o := fun a o h n z => e8 a o (sm1 _ _ (he6 a o h n z)) n
        cases b1 with
        | false =>
          rw [if_neg (by simp)] at hgo1
          show (if false = true then _ else _)
          rw [if_neg (by simp)]
          exact ⟨_, by omega, rfl, by omega, ρ7, acc', vs', rest1, hD8, ha8, he8, ro8, ri8, hgo1, hout1⟩
        | true =>
          rw [if_pos rfl] at hgo1
          show (if true = true then _ else _)
          rw [if_pos rfl]
          obtain ⟨⟨yd, ρ9⟩, hy, hgo1⟩ := Option.bind_eq_some_iff.mp hgo1
          obtain ⟨⟨rest2, ρ10⟩, hrec1, hgo1⟩ := Option.map_eq_some_iff.mp hgo1
          cases hgo1
          refine ⟨F.mkg L, env2, ρ7, yd, ρ9, r8.eff e8 w8, hy, fun yv H9 e9 w9 a9 => ?_⟩
          have hD9 : H9 L = some (.lst vs') := e9 L _ hD8 nr.1
          have ha9 : Ats K (F.mkg L).SR H9 vs' acc' := ha8.kp (w8.kp e9)
          have hl9 := ha9.len
          have hacc : acc'.length < 1000000 := by
            have h1 := congrArg List.length hout1
            have h2 := congrArg List.length hout
            simp only [List.length_append, List.length_cons] at h1 h2
            omega
          refine ⟨vs', hD9, by rw [hl9]; exact big' hacc, ?_⟩
          have ri9 : Rel K (F.mkg L) (wipe σ2 own1) H9 (wipeE env' own1) ρ9 := ri8.eff e9 w9
          have ro9 : Rel K (F.mkg L) (wipe σ own) H9 (wipeE env own) ρ9 := ro8.eff e9 w9
          have hno : ∃ o, H9 L = some o ∧ ∀ xs, o ≠ .tup xs := ⟨_, hD9, by intro _ z; cases z⟩
          have k9 : Kp (F.mkg L).SR H9 (upd H9 L (.lst (vs' ++ [yv]))) := ⟨fun a o h s => by
            rw [upd_ne (by rintro rfl; exact s.2 List.mem_cons_self)]; exact h, fun a zs h => by
            rw [upd_ne (by rintro rfl; rw [hD9] at h; cases h)]; exact h⟩
          refine ⟨_, by omega, rfl, by omega, ρ9, acc' ++ [yd], vs' ++ [yv], rest2, upd_same, (ha9.app (.cons a9 .nil)).kp k9, fun a o h n z => ?_, ro9.grown h0 hp nr.1 hno, ri9.grown h0 hp nr.1 hno, hrec1, by rw [← hout1]; simp⟩
          rw [upd_ne z]
          exact e9 a o (he8 a o h n z) n
theorem PMI.ex {tg iter : Expr} {f : E (List D)} (h : PMI X tg iter f) : PI X tg iter (fun σ H R => ∃ F', tMI X.K F' f σ H R) := ⟨fun pins s σ H R I ⟨F, q⟩ => (h.pi F).run pins s σ H R I q⟩
theorem mf_lc2 {elt tg iter tg1 iter1 : Expr} {ifs ifs1 : List Expr} {scope : Scope} {own : List (Str × Nat)} {own1 : List Nat} {pos : Pos} {it it1 : E (List D)} {g g1 : D → List SV → Option (List SV)} {ts ts1 : List Nat} {tt tt1 : E Bool} {el : E D} (hc : X.calm = true) (hN : X.N.Nodup) (hi : PMI X tg iter it) (ok : BlkOk X.N X.env.scope scope own) (hv : ∀ i ∈ own1, i ∈ own.map (·.2))
    (hg : ∀ (s : Shared) (H : Hp) (C : Addr) (cl : List (Str × Addr)) (fp : List Addr), PMG (X.blk s H scope (compEnvC scope cl C X.env) fp) tg g ts) (ht : ∀ (s : Shared) (H : Hp) (C : Addr) (cl : List (Str × Addr)) (fp : List Addr), PMTs (X.blk s H scope (compEnvC scope cl C X.env) fp) ifs tt)
    (hi1 : ∀ (s : Shared) (H : Hp) (C : Addr) (cl : List (Str × Addr)) (fp : List Addr), PMI (X.blk s H scope (compEnvC scope cl C X.env) fp) tg1 iter1 it1)
    (hg1 : ∀ (s : Shared) (H : Hp) (C : Addr) (cl : List (Str × Addr)) (fp : List Addr), PMG (X.blk s H scope (compEnvC scope cl C X.env) fp) tg1 g1 ts1) (ht1 : ∀ (s : Shared) (H : Hp) (C : Addr) (cl : List (Str × Addr)) (fp : List Addr), PMTs (X.blk s H scope (compEnvC scope cl C X.env) fp) ifs1 tt1)
    (he : ∀ (s : Shared) (H : Hp) (C : Addr) (cl : List (Str × Addr)) (fp : List Addr), PM (X.blk s H scope (compEnvC scope cl C X.env) fp) elt el) (hts : ∀ i ∈ ts, i ∈ own.map (·.2) := by decide) (hts1 : ∀ i ∈ ts1, i ∈ own1 := by decide) (hs : ∀ x, foldedSetIterable iter X.env x = pure x := by intro _; rfl) (hs1 : ∀ env x, foldedSetIterable iter1 env x = pure x := by intro _ _; rfl) :
    PMF X (.ListComp elt [⟨tg, iter, ifs, 0⟩, ⟨tg1, iter1, ifs1, 0⟩] scope pos) (mLc2 it (own.map (·.2)) g tt it1 own1 g1 tt1 el) :=
  ⟨fun F => PE.imp (pe_lc2 hc hN (hi.pi F) ok hv (fun s H C cl fp => (hg s H C cl fp).ex) (fun s H C cl fp => (ht s H C cl fp).ex) (fun s H C cl fp => (hi1 s H C cl fp).ex) (fun s H C cl fp => (hg1 s H C cl fp).ex) (fun s H C cl fp => (ht1 s H C cl fp).ex) (fun s H C cl fp => (he s H C cl fp).ex) hs hs1) fun σ H Q h => lc2_read hts hts1 h⟩
end
end VS
end

section
set_option Elab.async false
set_option linter.all false
set_option maxRecDepth 100000
set_option maxHeartbeats 1000000
namespace VS
open PySem PySem.Spec PyProof.Rows L2

/-! ## x = x + (xs.pop(e),) -/
def cPopCat (i j : Nat) (f : E D) : C := fun env ρ => match env[i]?, env[j]? with
  | some (.dat (.tup as)), some (.lst ds) => (f env ρ).bind fun k => match k.1 with
    | .int z => if 0 ≤ z ∧ z < 1000000 then match ds[z.toNat]? with
      | some d => if d.imm = true ∧ D.imms as = true ∧ as.length < 1000000 ∧ i ≠ j then some (.nx, ((kill env).set j (.lst (ds.eraseIdx z.toNat))).set i (.dat (.tup (as ++ [d]))), k.2) else none
      | none => none
      else none
    | _ => none
  | _, _ => none
theorem imms_snoc {d : D} (im : d.imm = true) : ∀ {as : List D}, D.imms as = true → D.imms (as ++ [d]) = true
  | [], _ => by simp [D.imm.immAll, im]
  | b :: bs, h => by
    simp only [D.imm.immAll, Bool.and_eq_true] at h
    simp only [List.cons_append, D.imm.immAll, Bool.and_eq_true]
    exact ⟨h.1, imms_snoc im h.2⟩
section
variable {X : Cx}
theorem s_popCat {i j : Nat} {x y : Str} {e : Expr} {f : E D} {p1 p2 p3 cpos px pos : Pos} {x1 : Nat} {tp bp : Pos} (hN : X.N[i]? = some x) (hv : Vis X.env.scope x) (hNy : X.N[j]? = some y) (hvy : Vis X.env.scope y) (hnd : X.N.Nodup) (hx : Loc X.env.scope x) (he : PM X e f)
    (hd : (x == ("__debug__" : Str)) = false := by decide) (hcd : (x == ("__classdict__" : Str)) = false := by decide) (hdy : (y == ("__debug__" : Str)) = false := by decide) (hcdy : (y == ("__classdict__" : Str)) = false := by decide)
    (hs : swapsWith (.BinOp (.Name x p1) .Add (.Tuple [.Call (.Attribute (.Name y p2) "pop" p3) [e] [] cpos] x1 tp) bp) (some (.Name x px)) pos.line X.env = pure false := by rfl) (hf : X.fn x = true ∨ X.env.scope.names.lookup x = some .local := by first | exact .inl rfl | exact .inr rfl | assumption)
    (hst : starEach (e :: []) X.env = (false, eval e X.env) :: starEach [] X.env := by rfl)
    (hst2 : starEach [.Call (.Attribute (.Name y p2) "pop" p3) [e] [] cpos] X.env = (false, eval (.Call (.Attribute (.Name y p2) "pop" p3) [e] [] cpos) X.env) :: starEach [] X.env := by rfl)
    (hb : PE X (.Call (.Attribute (.Name y p2) "pop" p3) [e] [] cpos) (tBM X.K "list" rPopAt (tVar j) (tCons (fun σ H Q => ∃ F', tM X.K F' f σ H Q) tNil)) := by
      exact pe_bm PySem.F.plainAttrs_list PySem.F.slot_list_pop PySem.F.type_list_pop mt_popAt (pe_var hNy hvy hdy hcdy) (pa_cons he.ex pa_nil hst)) :
    PMS X (.Assign [.Name x px] (.BinOp (.Name x p1) .Add (.Tuple [.Call (.Attribute (.Name y p2) "pop" p3) [e] [] cpos] x1 tp) bp) pos) (cPopCat i j f) :=
  ⟨fun F => PS.imp (ps_set hnd hN hx (pe_op o_add (pe_var hN hv hd hcd) (pe_tup (pa_cons hb pa_nil hst2))) hs hf) fun Dn σ H ⟨env, ρ, o, env', ρ', r, hc, k⟩ => by
    unfold cPopCat at hc
    split at hc
    case h_2 => cases hc
    rename_i as ds hi hj
    obtain ⟨⟨dk, ρ1⟩, ha, hc⟩ := Option.bind_eq_some_iff.mp hc
    simp only at hc
    split at hc
    case h_2 => cases hc
    rename_i z
    split at hc
    case isFalse => cases hc
    rename_i hz
    obtain ⟨n, en⟩ : ∃ n, n = z.toNat := ⟨_, rfl⟩
    rw [← en] at hc
    split at hc
    case h_2 => cases hc
    rename_i d hdn
    split at hc
    case isFalse => cases hc
    rename_i cc
    cases hc
    obtain ⟨im, ims, hlen, hij⟩ := cc
    obtain ⟨xv, hσi, v, exv, av⟩ := r.get hi
    subst exv
    obtain ⟨p, vs, hσ, h1, h2, h3, a, h4⟩ := slot_after r hj
    refine ⟨v, hσi, _, hσ, .inl ⟨rfl, vs, .of h1⟩, F, env, ρ, _, _, r, ha, fun kv H1 e1 w1 a1 => ?_⟩
    cases a1
    have r1 := r.eff e1 w1
    have g1 : H1 p = some (.lst vs) := e1 p _ h1 h3.1
    have a2 : Ats X.K F.S0 H1 vs ds := a.kp ((r.row.kp e1).sub F.S0R)
    obtain ⟨yv, hyv, ayv⟩ := a2.get hdn
    have hnl := (List.getElem?_eq_some_iff.mp hdn).1
    have hn : seqIndex? z ds.length = some n := by
      unfold seqIndex?
      first
        | (rw [if_neg (by omega), if_pos (by omega)]; rw [en])
        | (simp only []; split <;> first | (congr 1; omega) | omega)
        | (subst en; simp; omega)
    refine ⟨p, vs, z, n, yv, rfl, rfl, g1, by omega, by omega, by rw [a.len]; exact hn, hyv, (by show 1 ≤ sizeLine; decide), fun q hq => ?_⟩
    have k0 : Kp F.S0 H1 (upd H1 p (.lst (vs.eraseIdx n))) := ⟨fun b u h z => by rw [upd_ne (by rintro rfl; obtain ⟨⟨_, e⟩, _⟩ := z; rw [h2] at e; cases e)]; exact h, fun b xs h => by rw [upd_ne (by rintro rfl; rw [g1] at h; cases h)]; exact h⟩
    have q0 : Ats X.K F.S0 H1 (vs.eraseIdx n) (ds.eraseIdx n) := a2.erase n
    have r2 := r1.mut hj rfl hσ (s' := .lst (ds.eraseIdx n)) ⟨p, _, rfl, upd_same, h2, h3, q0.kp k0, h4⟩ rfl
    have sm := same_new (o := .tup [yv]) hq
    have tk1 := r.row.tk e1
    -- the sum
    have ax : At X.K (fun _ => True) (upd (upd H1 p (.lst (vs.eraseIdx n))) q (.tup [yv])) v (.tup as) :=
      (At.imm (S := F.S0) (by exact ims) ((((av.kp ((r.row.kp e1).sub F.S0R)).kp k0)).kp (Kp.of_same sm)))
    have ay : At X.K (fun _ => True) (upd (upd H1 p (.lst (vs.eraseIdx n))) q (.tup [yv])) (.ref q) (.tup [d]) :=
      .tup upd_same (.cons (At.imm (S := F.S0) im (((ayv.kp k0)).kp (Kp.of_same sm))) .nil)
    refine ⟨fun _ => True, _, _, .tup (as ++ [d]), fun _ _ => trivial, ax, ay, ?_, fun w H4 sm4 aw => ?_⟩
    · show (if as.length + 1 ≤ 1000000 then _ else _) = _
      rw [if_pos (by omega)]
    · have r3 := r2.eff (Eff.of_same sm) (r2.row.same sm)
      have r4 := r3.eff (Eff.of_same sm4) (r3.row.same sm4)
      have imo : (D.tup (as ++ [d])).imm = true := imms_snoc im ims
      exact k _ _ (fun b xs h => sm4 _ _ (sm _ _ (k0.2 b xs (tk1 b xs h)))) (r4.set i ⟨w, rfl, aw.imm imo⟩ rfl)⟩
end

/-! ## list * int; y = xs.pop() -/
def mRep (a : E (List D)) (b : E D) : E (List D) := fun env ρ => (a env ρ).bind fun x => (b env x.2).bind fun y => match y.1 with
  | .int z => if 0 ≤ z ∧ z ≤ 1000000 ∧ x.1.length * z.toNat ≤ 1000000 then some ((List.replicate z.toNat x.1).flatten, y.2) else none
  | _ => none
theorem Ats.rep {K : PySem.W.Frag} {S : Fp} {H : Hp} {vs : List V} {ds : List D} (a : Ats K S H vs ds) : ∀ k : Nat, Ats K S H (List.replicate k vs).flatten (List.replicate k ds).flatten
  | 0 => .nil
  | k + 1 => by
    rw [List.replicate_succ, List.replicate_succ, List.flatten_cons, List.flatten_cons]
    exact a.app (Ats.rep a k)
section
variable {X : Cx}
theorem mf_rep {a b : Expr} {fa : E (List D)} {fb : E D} {pos : Pos} (ha : PML X a fa) (hb : PM X b fb) : PMF X (.BinOp a .Mult b pos) (mRep fa fb) :=
  ⟨fun F => PE.imp (pe_op op_rep (ha.pe F) (hb.pe F)) fun σ H Q ⟨env, ρ, d, ρ', r, hf, k⟩ => by
    unfold mRep at hf
    obtain ⟨⟨da, ρ1⟩, ha, hf⟩ := Option.bind_eq_some_iff.mp hf
    obtain ⟨⟨db, ρ2⟩, hb, hf⟩ := Option.bind_eq_some_iff.mp hf
    simp only at hf
    split at hf
    case h_2 => cases hf
    rename_i z
    split at hf
    case isFalse => cases hf
    rename_i hz
    cases hf
    refine ⟨env, ρ, da, ρ1, r, ha, fun p vs H1 e1 w1 h1 s1 a1 => ⟨env, ρ1, _, _, r.eff e1 w1, hb, fun v H2 e2 w2 a2 => ?_⟩⟩
    cases a2
    have a1' := a1.kp (w1.kp e2)
    refine ⟨p, z, vs, rfl, rfl, e2 p _ h1 s1.1, by omega, by omega, by rw [a1.len]; exact big hz.2.2, fun t ht => ?_⟩
    have sm := same_new (o := .lst (List.replicate z.toNat vs).flatten) ht
    exact k t _ _ ((e1.trans e2).trans (Eff.of_same sm)) (w2.same sm) (eff_new (e1.trans e2) w2 ht) upd_same (w2.new ht) ((Ats.rep a1' z.toNat).kp (Kp.of_same sm))⟩
theorem s_pop1 {i j : Nat} {x y : Str} {p1 p2 cpos py pos : Pos} (hN : X.N[i]? = some x) (hv : Vis X.env.scope x) (hnd : X.N.Nodup) (hj : X.N[j]? = some y) (hy : Loc X.env.scope y) (hd : (x == ("__debug__" : Str)) = false := by decide) (hcd : (x == ("__classdict__" : Str)) = false := by decide)
    (hs : swapsWith (.Call (.Attribute (.Name x p1) "pop" p2) [] [] cpos) (some (.Name y py)) pos.line X.env = pure false := by rfl) (hf : X.fn y = true ∨ X.env.scope.names.lookup y = some .local := by first | exact .inl rfl | exact .inr rfl | assumption)
    (hbase : attributeBase (.Name x p1) "pop" X.env (eval (.Name x p1) X.env) = eval (.Name x p1) X.env := by rfl) (hline : (p2.endLine == cpos.line) = true := by rfl) :
    PMS X (.Assign [.Name y py] (.Call (.Attribute (.Name x p1) "pop" p2) [] [] cpos) pos) (cPop i j) :=
  s_pop hN hv hnd hj hy hd hcd hs hf (pe_bm0 PySem.F.plainAttrs_list PySem.F.slot_list_pop PySem.F.type_list_pop mt_pop (pe_var hN hv hd hcd) hbase hline)
end
end VS
end

section
set_option Elab.async false
set_option linter.all false
set_option maxRecDepth 100000
set_option maxHeartbeats 1000000
namespace VS
open PySem PySem.Spec PyProof.Rows L2

/-! ## defs, by name -/
/-- the def x, of the statement st, stands at the module's top -/
structure Dn (K : PySem.W.Frag) (mg : Str → Option Value) (x : Str) (st : Stmt) : Prop where
  ex : ∃ f fd, mg x = some (.ref f) ∧ FunD K x x (defArgs st) (defBody st) (defScope st) [] [] f fd
/-- x keeps its promise g, k calls deep -/
structure Keeps (P : Program) (w : World) (K : PySem.W.Frag) (mg : Str → Option Value) (base : Heap) (x : Str) (ps : List Str) (rw : Bool) (k : Nat) (g : List D → List D → Option (D × List D)) : Prop where
  ex : ∃ f fd, mg x = some (.ref f) ∧ PySem.W.keepIn K (.ref f) = true ∧ Binds K fd ps [] ∧ FnOk P w K mg base CX0 k f fd ps (spM K rw g)
section
variable {P : Program} {w : World} {K : PySem.W.Frag} {mg : Str → Option Value} {base : Heap}
theorem fn_okD {x qual : Str} {params : Arguments} {body : List Stmt} {scope : Scope} {dvs : List V} {kws : List (Str × V)} {f : Addr} {fd : FuncData} {N ps : List Str} {k : Nat} (F : FunD K x qual params body scope dvs kws f fd) (S : FnScope N ps scope) {rw : Bool} {c : C} (np : Nat) (hps : ps.length = (if rw then 1 else 0) + np) (hN : ps.length ≤ N.length)
    (hb : ∀ (cdv : Value), PySem.W.codeIn K cdv qual = true → ∀ (A : Around) (outer : List Env) (s : Shared) (H : Hp) (E : XK), Room k (A.deeper (envOfC qual scope s.heap.objs.size f cdv)) → PMSs (cxOf CX0 P w K mg base N qual scope f cdv A outer s H E).nox body c) :
    FnOk P w K mg base CX0 (k + 1) f fd ps (spM K rw (gOf N.length np rw c)) := by
  have hl : ∀ vs H Q E, spM K rw (gOf N.length np rw c) vs H Q E → vs.length = ps.length := by
    rintro vs H Q E ⟨R, G, ρ, ws, ds, d, ρ', hR, rfl, hr, a, hg, _⟩
    unfold gOf at hg
    split at hg
    · rename_i hlen
      rw [hps, List.length_append, a.len, hlen]
      cases R <;> cases rw <;> first | rfl | cases hR
    · cases hg
  obtain ⟨oc, od, dV, kV, doc, pm, an, cdv, ct, osl, rfl, lk, hcd, _, _⟩ := F.ex
  refine fn_of lk hcd S hl (fun A outer s H vs Q E hr h => ?_)
  have hl := hl _ _ _ _ h
  obtain ⟨R, G, ρ, ws, ds, d, ρ', hR, rfl, hrow, a, hg, k⟩ := h
  refine ⟨_, ((hb cdv hcd A outer s H E hr).ps (fr R H G)).nox, ?_⟩
  unfold gOf at hg
  split at hg
  case isFalse => cases hg
  rename_i hlen
  have hn : (if R.isSome then 1 else 0) + ds.length ≤ N.length := by rw [hR, hlen, ← hps]; exact hN
  have r := rel_start (N := N) hrow a hn
  rw [hR, hlen] at r
  split at hg
  · rename_i d' env1 ρ1 hc
    cases hg
    exact ⟨_, ρ, _, _, _, r, hc, fun v H' t ret => k v H' (fun b o h n => ret.base b o h n) ret.row (by
      have := ret.val
      exact RetV.sub (fun b h => h.1) this)⟩
  · rename_i env1 ρ1 hc
    cases hg
    exact ⟨_, ρ, _, _, _, r, hc, fun σ' H' t r' => k _ H' (fun b o h n => r'.base b o h n) r'.row (RetV.imm rfl .non)⟩
  · cases hg
theorem Dn.keeps {x : Str} {st : Stmt} {N ps : List Str} {k : Nat} (d : Dn K mg x st) (S : FnScope N ps (defScope st)) {rw : Bool} {c : C} (np : Nat) (hps : ps.length = (if rw then 1 else 0) + np) (hN : ps.length ≤ N.length)
    (hbd : ∀ (kV doc pm : Value) (an : Option Addr) (cdv ct : Value) (us : List Value), us.length = ps.length → bindArgs (PySem.W.fnOf x x (defArgs st) (defBody st) (defScope st) .none kV doc pm an cdv ct) ⟨us, []⟩ = pure (ps.zip us))
    (hb : ∀ (f : Addr) (cdv : Value), PySem.W.codeIn K cdv x = true → ∀ (A : Around) (outer : List Env) (s : Shared) (H : Hp) (E : XK), Room k (A.deeper (envOfC x (defScope st) s.heap.objs.size f cdv)) → PMSs (cxOf CX0 P w K mg base N x (defScope st) f cdv A outer s H E).nox (defBody st) c) :
    Keeps P w K mg base x ps rw (k + 1) (gOf N.length np rw c) := by
  obtain ⟨f, fd, hm, F⟩ := d.ex
  exact ⟨f, fd, hm, F.kp, F.bindsN hbd, fn_okD F S np hps hN fun cdv hcd A outer s H E hr => hb f cdv hcd A outer s H E hr⟩
/-- what never promises anything keeps it -/
theorem Dn.none {x : Str} {st : Stmt} {ps : List Str} (d : Dn K mg x st) (rw : Bool) (k : Nat)
    (hbd : ∀ (kV doc pm : Value) (an : Option Addr) (cdv ct : Value) (us : List Value), us.length = ps.length → bindArgs (PySem.W.fnOf x x (defArgs st) (defBody st) (defScope st) .none kV doc pm an cdv ct) ⟨us, []⟩ = pure (ps.zip us))
    (hf : ∀ f fd, FnOk P w K mg base CX0 k f fd ps (spM K rw fun _ _ => Option.none)) : Keeps P w K mg base x ps rw k (fun _ _ => Option.none) := by
  obtain ⟨f, fd, hm, F⟩ := d.ex
  exact ⟨f, fd, hm, F.kp, F.bindsN hbd, hf f fd⟩
end
section
variable {X : Cx} {x : Str} {ps : List Str} {j k : Nat} {e : Expr} {es : List Expr} {p pos : Pos} {g : List D → List D → Option (D × List D)} {fa : E (List D)}
theorem kc (Fn : Keeps X.prog X.w X.K X.mg X.base x ps false j g) (hr : Room k X.A) (hjk : j ≤ k) (ha : PMA X (e :: es) fa) (hg : Gl X x := by rfl) (hdb : (x == ("__debug__" : Str)) = false := by decide) (he : starEach (e :: es) X.env = (false, eval e X.env) :: starEach es X.env := by rfl) (hpl : (backTo pos (starEach es X.env)).any (·.1) = false := by rfl) :
    PM X (.Call (.Name x p) (e :: es) [] pos) (mCall0 (g0 g) fa) := by
  obtain ⟨f, fd, hm, hk, hb, F⟩ := Fn.ex
  exact m_call F (hr.mono hjk) hg hm hk hb ha hdb he hpl
theorem kcF (Fn : Keeps X.prog X.w X.K X.mg X.base x ps false j g) (hr : Room k X.A) (hjk : j ≤ k) (ha : PMA X (e :: es) fa) (hg : Gl X x := by rfl) (hdb : (x == ("__debug__" : Str)) = false := by decide) (he : starEach (e :: es) X.env = (false, eval e X.env) :: starEach es X.env := by rfl) (hpl : (backTo pos (starEach es X.env)).any (·.1) = false := by rfl) :
    PMF X (.Call (.Name x p) (e :: es) [] pos) (mAsL (mCall0 (g0 g) fa)) := by
  obtain ⟨f, fd, hm, hk, hb, F⟩ := Fn.ex
  exact mf_call F (hr.mono hjk) hg hm hk hb ha hdb he hpl
theorem kcD (Fn : Keeps X.prog X.w X.K X.mg X.base x ps false j g) (hr : Room k X.A) (hjk : j ≤ k) (ha : PMA X (e :: es) fa) (hg : Gl X x := by rfl) (hdb : (x == ("__debug__" : Str)) = false := by decide) (he : starEach (e :: es) X.env = (false, eval e X.env) :: starEach es X.env := by rfl) (hpl : (backTo pos (starEach es X.env)).any (·.1) = false := by rfl) :
    PMD X (.Call (.Name x p) (e :: es) [] pos) (mAsD (mCall0 (g0 g) fa)) := by
  obtain ⟨f, fd, hm, hk, hb, F⟩ := Fn.ex
  exact md_call F (hr.mono hjk) hg hm hk hb ha hdb he hpl
theorem kcR {y : Str} {py : Pos} (Fn : Keeps X.prog X.w X.K X.mg X.base x ps true j g) (hr : Room k X.A) (hjk : j ≤ k) (i : Nat) (ha : PMA X es fa) (hN : X.N[i]? = some y := by rfl) (hv : Vis X.env.scope y := by first | exact Or.inl rfl | exact Or.inr (Or.inl rfl) | exact Or.inr (Or.inr rfl)) (hg : Gl X x := by rfl)
    (hd : (y == ("__debug__" : Str)) = false := by decide) (hcd : (y == ("__classdict__" : Str)) = false := by decide) (hdb : (x == ("__debug__" : Str)) = false := by decide) (he : starEach (.Name y py :: es) X.env = (false, eval (.Name y py) X.env) :: starEach es X.env := by rfl) (hpl : (backTo pos (starEach es X.env)).any (·.1) = false := by rfl) :
    PM X (.Call (.Name x p) (.Name y py :: es) [] pos) (mCallR i g fa) := by
  obtain ⟨f, fd, hm, hk, hb, F⟩ := Fn.ex
  exact m_callR F (hr.mono hjk) hg hm hk hb hN hv ha hd hcd hdb he hpl
/-! in short -/
theorem mv (i : Nat) {x : Str} {pos : Pos} (hN : X.N[i]? = some x := by rfl) (hv : Vis X.env.scope x := by first | exact Or.inl rfl | exact Or.inr (Or.inl rfl) | exact Or.inr (Or.inr rfl)) (hd : (x == ("__debug__" : Str)) = false := by decide) (hcd : (x == ("__classdict__" : Str)) = false := by decide) : PM X (.Name x pos) (mVar i) := m_var hN hv hd hcd
end

/-! ## tuples as targets of comprehensions -/
def tMGs (K : PySem.W.Frag) (F : Frm) (g : List D → List SV → Option (List SV)) (ts : List Nat) : TGs := fun vs σ H Q => ∃ env ρ ds env', Rel K F σ H env ρ ∧ Ats K F.SR H vs ds ∧ g ds env = some env' ∧
  ∀ σ', Rel K F σ' H env' ρ → (∀ vs, (∀ i ∈ ts, i ∈ vs) → wipe σ' vs = wipe σ vs) → Q σ' H
structure PMGs (X : Cx) (tgs : List Expr) (g : List D → List SV → Option (List SV)) (ts : List Nat) : Prop where
  pg : ∀ F : Frm, PGs X tgs (tMGs X.K F g ts)
section
variable {X : Cx}
theorem mgs_nil : PMGs X [] gsNil [] := ⟨fun F => PGs.imp pgs_nil fun vs σ H Q ⟨env, ρ, ds, env', r, a, hg, k⟩ => by
  unfold gsNil at hg
  split at hg
  · cases hg; cases a
    exact ⟨rfl, k σ r fun _ _ => rfl⟩
  · cases hg⟩
theorem mgs_cons {e : Expr} {es : List Expr} {g : D → List SV → Option (List SV)} {gs : List D → List SV → Option (List SV)} {ts us : List Nat} (h1 : PMG X e g ts) (h2 : PMGs X es gs us)
    (hs : (assignEach (e :: es) X.env).map (·.2) = assign e X.env :: (assignEach es X.env).map (·.2) := by rfl) : PMGs X (e :: es) (gsCons g gs) (ts ++ us) := ⟨fun F => PGs.imp (pgs_cons (h1.pg F) (h2.pg F) hs) fun vs σ H Q ⟨env, ρ, ds, env', r, a, hg, k⟩ => by
  unfold gsCons at hg
  split at hg
  · obtain ⟨env1, h1, hg⟩ := Option.bind_eq_some_iff.mp hg
    cases a with
    | cons a b => exact ⟨_, _, rfl, env, ρ, _, env1, r, a, h1, fun σ' r' w1 => ⟨env1, ρ, _, env', r', b, hg, fun σ2 r2 w2 => k σ2 r2 fun vs hv => (w2 vs fun i hi => hv i (List.mem_append_right _ hi)).trans (w1 vs fun i hi => hv i (List.mem_append_left _ hi))⟩⟩
  · cases hg⟩
theorem mg_tup {es : List Expr} {kk : Nat} {pos : Pos} {gs : List D → List SV → Option (List SV)} {ts : List Nat} {n : Nat} (hc : X.calm = true) (h : PMGs X es gs ts)
    (hn : (assignEach es X.env).length = n := by rfl) (hst : (assignEach es X.env).findIdx? (·.1) = none := by rfl) : PMG X (.Tuple es kk pos) (gT n gs) ts := ⟨fun F => PG.imp (pg_tup hc (h.pg F) hn hst) fun v σ H Q ⟨env, ρ, d, env', r, a, hg, k⟩ => by
  unfold gT at hg
  split at hg
  · split at hg
    · rename_i hl
      cases a with
      | tup h q => exact ⟨_, _, rfl, .of h, by rw [q.len]; exact hl, env, ρ, _, env', r, q, hg, k⟩
    · cases hg
  · cases hg⟩
end

/-! ## for what is printed -/
theorem u65 {k : Nat} {A : Around} (h : Room k A) : A.units + 65 < cLine := by have := h.un; omega
theorem u1 {k : Nat} {A : Around} (h : Room k A) : A.units + 1 < cLine := by have := h.un; omega
theorem u2 {k : Nat} {A : Around} (h : Room k A) : A.units + 2 < cLine := by have := h.un; omega
def mLenI (f : E (List D)) : E D := fun env ρ => (f env ρ).map fun x => (.int (usort x.1).length, x.2)
def mSortI (f : E (List D)) : E (List D) := fun env ρ => (f env ρ).map fun x => ((usort x.1).map D.int, x.2)
def mSt (f : E (List D)) : E D := fun env ρ => (f env ρ).map fun x => (.st x.1, x.2)
def iTup (f : E D) : EI := iImm (fun env ρ => (f env ρ).bind fun x => match x.1 with | .tup ds => some (ds, x.2) | _ => none)
section
variable {P : Program} {w : World} {K : PySem.W.Frag} {mg : Str → Option Value} {base : Heap}
/-- what promises nothing keeps it -/
theorem Dn.none0 {x : Str} {st : Stmt} {N ps : List Str} (d : Dn K mg x st) (S : FnScope N ps (defScope st)) (rw : Bool) (k : Nat)
    (hbd : ∀ (kV doc pm : Value) (an : Option Addr) (cdv ct : Value) (us : List Value), us.length = ps.length → bindArgs (PySem.W.fnOf x x (defArgs st) (defBody st) (defScope st) .none kV doc pm an cdv ct) ⟨us, []⟩ = pure (ps.zip us)) :
    Keeps P w K mg base x ps rw (k + 1) (fun _ _ => Option.none) := by
  obtain ⟨f, fd, hm, F⟩ := d.ex
  refine ⟨f, fd, hm, F.kp, F.bindsN hbd, F.ok S (fun vs H Q E h => ?_) (fun cdv A outer s H vs Q E hr h => ?_)⟩
  · obtain ⟨_, _, _, _, _, _, _, _, _, _, _, hg, _⟩ := h
    cases hg
  · obtain ⟨_, _, _, _, _, _, _, _, _, _, _, hg, _⟩ := h
    cases hg
end

section
variable {X : Cx}
theorem mf_listRg1 {a : Expr} {fa : E D} {p p1 p2 : Pos} {pos : Pos} (hc : X.calm = true) (hg : Gl X "list") (hm : X.mg "list" = none) (hg2 : Gl X "range") (hm2 : X.mg "range" = none) (ha : PM X a fa) (na : starEach [.Call (.Name "range" p1) [a] [] p] X.env = (false, eval (.Call (.Name "range" p1) [a] [] p) X.env) :: starEach [] X.env := by rfl) (nb : starEach [a] X.env = (false, eval a X.env) :: starEach [] X.env := by rfl) :
    PMF X (.Call (.Name "list" p2) [.Call (.Name "range" p1) [a] [] p] [] pos) (mRng1 (mCons fa mNil)) := mf_listRg hc hg hm hg2 hm2 ha na nb
theorem m_tupRg1 {a : Expr} {fa : E D} {p p1 p2 : Pos} {pos : Pos} (hc : X.calm = true) (hg : Gl X "tuple") (hm : X.mg "tuple" = none) (hg2 : Gl X "range") (hm2 : X.mg "range" = none) (ha : PM X a fa) (na : starEach [.Call (.Name "range" p1) [a] [] p] X.env = (false, eval (.Call (.Name "range" p1) [a] [] p) X.env) :: starEach [] X.env := by rfl) (nb : starEach [a] X.env = (false, eval a X.env) :: starEach [] X.env := by rfl) :
    PM X (.Call (.Name "tuple" p2) [.Call (.Name "range" p1) [a] [] p] [] pos) (mTupT (mRng1 (mCons fa mNil))) := m_tupRg hc hg hm hg2 hm2 ha na nb
theorem s_app1 {i : Nat} {x : Str} {e : Expr} {f : E D} {p1 p2 cpos pos : Pos} (hN : X.N[i]? = some x) (hv : Vis X.env.scope x) (he : PM X e f) (hd : (x == ("__debug__" : Str)) = false := by decide) (hcd : (x == ("__classdict__" : Str)) = false := by decide)
    (hs : swapsWith (.Call (.Attribute (.Name x p1) "append" p2) [e] [] cpos) none pos.line X.env = pure false := by rfl) (hst : starEach (e :: []) X.env = (false, eval e X.env) :: starEach [] X.env := by rfl)
    (hbase : attributeBase (.Name x p1) "append" X.env (eval (.Name x p1) X.env) = eval (.Name x p1) X.env := by rfl)
    (hfew : ((backTo cpos (starEach (e :: []) X.env)).all (fun x => !x.1) && (backToKw cpos (keywordEach [] X.env)).all (fun x => x.1.isSome)
      && decide ((e :: []).length + ([] : List Keyword).length + (if ([] : List Keyword).isEmpty then 0 else 1) < 30)) = true := by rfl)
    (hline : (p2.endLine == cpos.line) = true := by rfl) (hplain : (backTo cpos (starEach [] X.env)).any (·.1) = false := by rfl) :
    PMS X (.Expr (.Call (.Attribute (.Name x p1) "append" p2) [e] [] cpos) pos) (cApp i f) :=
  s_app hN hv he hd hcd hs hst (pe_bm PySem.F.plainAttrs_list PySem.F.slot_list_append PySem.F.type_list_append mt_append (pe_var hN hv hd hcd) (pa_cons he.ex pa_nil hst) hbase hfew hline hst hplain)
theorem s_put1 {i : Nat} {x : Str} {ek e : Expr} {fk f : E D} {p1 p2 pos : Pos} (hu : X.A.units + 1 < cLine) (hN : X.N[i]? = some x) (hv : Vis X.env.scope x) (hk : PM X ek fk) (he : PM X e f) (hd : (x == ("__debug__" : Str)) = false := by decide) (hcd : (x == ("__classdict__" : Str)) = false := by decide)
    (hs : swapsWith e (some (.Subscript (.Name x p1) ek p2)) pos.line X.env = pure false := by rfl) : PMS X (.Assign [.Subscript (.Name x p1) ek p2] e pos) (cPut i fk f) :=
  s_put hu hN hv hk he hd hcd hs (ps_dput hu (pe_var hN hv hd hcd) hk.ex he.ex hs)
theorem s_popCat1 {i j : Nat} {x y : Str} {e : Expr} {f : E D} {p1 p2 p3 cpos px pos : Pos} {x1 : Nat} {tp bp : Pos} (hN : X.N[i]? = some x) (hv : Vis X.env.scope x) (hNy : X.N[j]? = some y) (hvy : Vis X.env.scope y) (hnd : X.N.Nodup) (hx : Loc X.env.scope x) (he : PM X e f)
    (hd : (x == ("__debug__" : Str)) = false := by decide) (hcd : (x == ("__classdict__" : Str)) = false := by decide) (hdy : (y == ("__debug__" : Str)) = false := by decide) (hcdy : (y == ("__classdict__" : Str)) = false := by decide)
    (hs : swapsWith (.BinOp (.Name x p1) .Add (.Tuple [.Call (.Attribute (.Name y p2) "pop" p3) [e] [] cpos] x1 tp) bp) (some (.Name x px)) pos.line X.env = pure false := by rfl) (hf : X.fn x = true ∨ X.env.scope.names.lookup x = some .local := by first | exact .inl rfl | exact .inr rfl | assumption)
    (hst : starEach (e :: []) X.env = (false, eval e X.env) :: starEach [] X.env := by rfl)
    (hst2 : starEach [.Call (.Attribute (.Name y p2) "pop" p3) [e] [] cpos] X.env = (false, eval (.Call (.Attribute (.Name y p2) "pop" p3) [e] [] cpos) X.env) :: starEach [] X.env := by rfl)
    (hbase : attributeBase (.Name y p2) "pop" X.env (eval (.Name y p2) X.env) = eval (.Name y p2) X.env := by rfl)
    (hfew : ((backTo cpos (starEach (e :: []) X.env)).all (fun x => !x.1) && (backToKw cpos (keywordEach [] X.env)).all (fun x => x.1.isSome)
      && decide ((e :: []).length + ([] : List Keyword).length + (if ([] : List Keyword).isEmpty then 0 else 1) < 30)) = true := by rfl)
    (hline : (p3.endLine == cpos.line) = true := by rfl) (hplain : (backTo cpos (starEach [] X.env)).any (·.1) = false := by rfl) :
    PMS X (.Assign [.Name x px] (.BinOp (.Name x p1) .Add (.Tuple [.Call (.Attribute (.Name y p2) "pop" p3) [e] [] cpos] x1 tp) bp) pos) (cPopCat i j f) :=
  s_popCat hN hv hNy hvy hnd hx he hd hcd hdy hcdy hs hf hst hst2 (pe_bm PySem.F.plainAttrs_list PySem.F.slot_list_pop PySem.F.type_list_pop mt_popAt (pe_var hNy hvy hdy hcdy) (pa_cons he.ex pa_nil hst) hbase hfew hline hst hplain)
end

/-! ## a fresh dict as data -/
def mDic (f : E (List D)) : E D := fun env ρ => (f env ρ).map fun x => (.dic x.1, x.2)
theorem PMD.m {X : Cx} {e : Expr} {f : E (List D)} (h : PMD X e f) : PM X e (mDic f) := ⟨fun F => PE.imp (h.pe F) fun σ H Q ⟨env, ρ, d, ρ', r, hf, k⟩ => by
  obtain ⟨⟨ds, ρ1⟩, hf2, e⟩ := Option.map_eq_some_iff.mp hf
  cases e
  exact ⟨env, ρ, ds, ρ1, r, hf2, fun p kvs H' ef w hn hp sr en => k _ _ ef w (.dic hp sr en)⟩⟩
end VS
end

section
set_option Elab.async false
set_option linter.all false
set_option maxRecDepth 100000
set_option maxHeartbeats 1000000
namespace VS
open PySem PySem.Spec PyProof.Rows L2

/-! ## the law itself: it makes its row, and the rest answers True -/
def spLaw (K : PySem.W.Frag) (ok : List Int → Prop) : Sp := fun vs H Q _ => ∃ (a : Addr) (ns : List Int), vs = [.ref a] ∧ SqL K H a (ns.map V.int) ∧ ok ns ∧ ∀ H', Q (.bl true) H'
def env0 (n : Nat) (ns : List Int) : List SV := .dat (.lst (ns.map .int)) :: .row :: List.replicate (n - 2) .un
def rho0 (m : Int) (ns : List Int) : List D := [.lst (ns.map .int), .int 0, .int m, .int 0]
/-- [script, 0, m, 0] -/
def tRow (m : Int) : TS := tAsg (tLst (tCons (tVar 0) (tCons (tC (.int 0)) (tCons (tC (.int m)) (tCons (tC (.int 0)) tNil))))) (gName 1)
theorem PMSs.ex {X : Cx} {ss : List Stmt} {c : C} (h : PMSs X ss c) : PSs X ss (fun Dn σ H => ∃ F', tS X.K F' c Dn σ H) := ⟨fun pins s σ H Dn I ⟨F', q⟩ => (h.ps F').run pins s σ H Dn I q⟩
theorem rel_row {K : PySem.W.Frag} {H : Hp} {a p : Addr} {ns : List Int} {m : Int} {N : List Str} (hN : 2 ≤ N.length) (hS : SqL K H a (ns.map V.int)) (hp : H p = none) :
    Rel K ⟨upd H p (.lst [.ref a, .int 0, .int m, .int 0]), some p, fun _ => none, [], fun b => ∃ o, H b = some o⟩ ((L2.start N [V.ref a]).set 1 (some (.ref p))) (upd H p (.lst [.ref a, .int 0, .int m, .int 0])) (env0 N.length ns) (rho0 m ns) := by
  have sm := same_new (o := .lst [.ref a, .int 0, .int m, .int 0]) hp
  have la0 : LAt K (fun b => ∃ o, H b = some o) H a (ns.map V.int) := by
    rcases hS with h | h
    · refine .inl ⟨h, ?_⟩
      rcases h with h | ⟨o, h⟩
      · exact ⟨_, h⟩
      · exact ⟨_, h⟩
    · exact .inr h
  have la := LAt.kp (Kp.of_same sm) la0
  have aa : At K (fun b => ∃ o, H b = some o) (upd H p (.lst [.ref a, .int 0, .int m, .int 0])) (.ref a) (.lst (ns.map .int)) := .lst la (Ats.ints ns)
  have g : ∀ b, (∃ o, H b = some o) → (Frm.mk (upd H p (.lst [.ref a, .int 0, .int m, .int 0])) (some p) (fun _ => none) [] (fun b => ∃ o, H b = some o)).S0 b := fun b ⟨o, hb⟩ => by
    refine ⟨⟨o, sm _ _ hb⟩, fun z => ?_, fun z => by cases z⟩
    have e : p = b := Option.some.inj z
    subst e
    rw [hp] at hb
    cases hb
  have noown : ∀ (j : Nat) (t : SV), (env0 N.length ns)[j]? = some t → t.owned = true → False := fun j t h o => by
    have := List.mem_of_getElem? h
    unfold env0 at this
    simp only [List.mem_cons, List.mem_replicate] at this
    rcases this with rfl | rfl | ⟨_, rfl⟩ <;> cases o
  refine ⟨fun b o h _ => h, fun b o h => (by cases h), ⟨fun r hr => ?_, fun b h => (by cases h), fun b h => g b h⟩, ?_, fun i x s h1 h2 => ?_, fun i j s t b _ h1 o1 _ _ _ _ => (noown i s h1 o1).elim⟩
  · have e : p = r := Option.some.inj hr
    subst e
    exact ⟨_, upd_same, .cons aa (.cons (.int 0) (.cons (.int m) (.cons (.int 0) .nil)))⟩
  · unfold env0 L2.start
    simp
    omega
  · match i, h1, h2 with
    | 0, h1, h2 =>
      cases h2
      have h1 : some (some (V.ref a)) = some x := h1
      cases h1
      exact ⟨_, rfl, aa.sub g⟩
    | 1, h1, h2 =>
      cases h2
      have e : some (some (V.ref p)) = some x := by
        rw [List.getElem?_set_self (by unfold L2.start; simp; omega)] at h1
        exact h1
      cases e
      exact ⟨p, rfl, rfl⟩
    | i + 2, h1, h2 =>
      unfold env0 at h2
      simp only [List.getElem?_cons_succ] at h2
      have := List.mem_of_getElem? h2
      rw [List.mem_replicate] at this
      obtain ⟨_, rfl⟩ := this
      trivial
theorem law_okD {P : Program} {w : World} {K : PySem.W.Frag} {mg : Str → Option Value} {base : Heap} {x qual : Str} {params : Arguments} {body : List Stmt} {scope : Scope} {dvs : List V} {kws : List (Str × V)} {f : Addr} {fd : FuncData} {N : List Str} {k : Nat} {m : Int} {first : Stmt} {rest : List Stmt} {c : C} {ok : List Int → Prop}
    (F : FunD K x qual params body scope dvs kws f fd) (S : FnScope N ["script"] scope) (hN : 2 ≤ N.length) (hbody : body = first :: rest)
    (hgood : ∀ ns, ok ns → ∃ env' ρ', c (env0 N.length ns) (rho0 m ns) = some (.rt (.bl true), env', ρ'))
    (hb : ∀ (cdv : Value), PySem.W.codeIn K cdv qual = true → ∀ (A : Around) (outer : List Env) (s : Shared) (H : Hp) (E : XK), Room k (A.deeper (envOfC qual scope s.heap.objs.size f cdv)) →
      PS (cxOf CX0 P w K mg base N qual scope f cdv A outer s H E).nox first (tRow m) ∧ PMSs (cxOf CX0 P w K mg base N qual scope f cdv A outer s H E).nox rest c) :
    FnOk P w K mg base CX0 (k + 1) f fd ["script"] (spLaw K ok) := by
  subst hbody
  obtain ⟨oc, od, dV, kV, doc, pm, an, cdv, ct, osl, rfl, lk, hcd, _, _⟩ := F.ex
  refine fn_of lk hcd S (fun vs H Q E ⟨a, ns, e, _⟩ => by rw [e] <;> rfl) (fun A outer s H vs Q E hr h => ⟨tSeq (tRow m) (fun Dn σ H => ∃ F', tS K F' c Dn σ H), PSs.nox ?_, ?_⟩)
  · obtain ⟨h1, h2⟩ := hb cdv hcd A outer s H E hr
    exact pss_cons h1 h2.ex
  · obtain ⟨a, ns, rfl, hS, hok, hQ⟩ := h
    obtain ⟨env', ρ', hc⟩ := hgood ns hok
    refine ⟨.ref a, rfl, (show 4 ≤ sizeLine by decide), fun p hp => ?_⟩
    refine ⟨_, _, _, _, _, _, rel_row hN hS hp, hc, fun v H' t ret => ?_⟩
    have val := ret.val
    have av : At K _ H' v (.bl true) := val
    cases av
    exact hQ H'
end VS
end

section
set_option Elab.async false
set_option linter.all false
set_option maxRecDepth 100000
set_option maxHeartbeats 1000000
/-! itertools.combinations: facts -/
namespace VC
open PySem PySem.Spec PyProof.Rows
abbrev tC : String := "itertools.combinations"
theorem noLen : typeLookup (.type "itertools.combinations") "__len__" = pure none := by
  rw [typeLookup_type, builtinLookup_eq_fast] <;> kernel_rfl
theorem noHint : typeLookup (.type "itertools.combinations") "__length_hint__" = pure none := by
  rw [typeLookup_type, builtinLookup_eq_fast] <;> kernel_rfl
theorem sNext : Slot "itertools.combinations" "__next__" "itertools.combinations.__next__" :=
  Slot.of (owner := "itertools.combinations") (n := "__next__") (by rw [typeLookup_type, builtinLookup_eq_fast] <;> kernel_rfl)
    (by decide +kernel) (by decide +kernel) (by decide +kernel) (.inl (by decide +kernel)) (by rw [isSubtype_type] <;> kernel_rfl)
theorem sIter : Slot "itertools.combinations" "__iter__" "itertools.combinations.__iter__" :=
  Slot.of (owner := "itertools.combinations") (n := "__iter__") (by rw [typeLookup_type, builtinLookup_eq_fast] <;> kernel_rfl)
    (by decide +kernel) (by decide +kernel) (by decide +kernel) (.inl (by decide +kernel)) (by rw [isSubtype_type] <;> kernel_rfl)
theorem sInit : Slot "itertools.combinations" "__init__" "object.__init__" :=
  Slot.of (owner := "object") (n := "__init__") (by rw [typeLookup_type, builtinLookup_eq_fast] <;> kernel_rfl)
    (by decide +kernel) (by decide +kernel) (by decide +kernel) (by first | exact .inr (by decide +kernel) | exact .inl (by decide +kernel)) (by rw [isSubtype_type] <;> kernel_rfl)
theorem enNext : entryFor table "itertools.combinations.__next__" = some Builtin.«itertools.combinations.__next__» := entryFor_of_tree (by kernel_rfl)
theorem enNew : entryFor table "itertools.combinations.__new__" = some Builtin.«itertools.combinations.__new__» := entryFor_of_tree (by kernel_rfl)
theorem enIter : entryFor table "itertools.combinations.__iter__" = some Builtin.«dict_keyiterator.__iter__» :=
  entryFor_alias (id' := "dict_keyiterator.__iter__") (by kernel_rfl) (by first | decide +kernel | rfl | (unfold String.splitOn; simp +decide [String.splitOnAux])) (by decide +kernel) (by kernel_rfl)
theorem plNew : plainId "itertools.combinations.__new__" = true := by decide +kernel
theorem called : TypeCalled "itertools.combinations" "itertools.combinations.__new__" "object.__init__" where
  notType := by decide +kernel
  canCreate := by kernel_rfl
  mro := ⟨.type "itertools.combinations", [.type "object"], by rw [mroOf_type] <;> kernel_rfl⟩
  made := by kernel_rfl
  plain := plNew
  sub := by rw [isSubtype_type] <;> kernel_rfl
  init := sInit
theorem tcall (a b : Value) : checkTypeCall "itertools.combinations" ⟨[a, b], []⟩ = pure () := by first | kernel_rfl | rfl
theorem ncall (a b : Value) : checkBuiltinCall "itertools.combinations.__new__" ⟨[.type "itertools.combinations", a, b], []⟩ = pure () := by first | kernel_rfl | rfl
theorem agNext (a : Value) : argsOk "itertools.combinations.__next__" ⟨[a], []⟩ := by
  unfold argsOk <;> kernel_rfl
theorem agIter (a : Value) : argsOk "itertools.combinations.__iter__" ⟨[a], []⟩ := by
  unfold argsOk <;> kernel_rfl
end VC
end

section
set_option Elab.async false
set_option linter.all false
set_option maxRecDepth 100000
set_option maxHeartbeats 1000000
/-! itertools.combinations(.., 2): its steps -/
namespace VC
open PySem PySem.Spec PyProof.Rows RT
/-- the walk over pairs of a pool t, its state st, what it handed out last, the two places -/
def cbData (t : Addr) (st : Int) (last : Value) (i j : Nat) : Data := .fields #[.ref t, rawInt st, last, rawInt (i : Int), rawInt (j : Int)]
def IsCb (h : Heap) (a t : Addr) (st : Int) (last : Value) (i j : Nat) : Prop := ∃ o, h.get? a = some o ∧ o.cls = .type "itertools.combinations" ∧ o.data = cbData t st last i j
theorem IsCb.at {h h' : Heap} {a t : Addr} {st : Int} {last : Value} {i j : Nat} (x : IsCb h a t st last i j) (e : ∀ o, h.get? a = some o → h'.get? a = some o) : IsCb h' a t st last i j :=
  let ⟨o, ho, r⟩ := x
  ⟨o, e o ho, r⟩
section
variable {prog : Program} {w : World} {A : Around} {E : Value → Shared → Prop} {s : Shared} {it t : Addr} {last : Value} {i j : Nat} {items : Array Value}
theorem IsCb.ty {st : Int} (x : IsCb s.heap it t st last i j) : s.TypeIs (.ref it) "itertools.combinations" := let ⟨o, ho, hc, _⟩ := x; ⟨o, ho, hc⟩
def cbHand (a t : Addr) (ks : List Nat) : Sem Fin := do
  let r ← (do
    let xs ← Builtin.Itertools.itPoolItems (.ref t)
    newTuple (ks.map fun k => xs.getD k .none))
  let b ← field (.ref a) 2
  setField (.ref a) 2 r
  letGo [b] [r]
  ret r
theorem hand {st : Int} {R : Fin → Shared → Prop} (x : IsCb s.heap it t st last i j) (ht : s.heap.IsTuple t items) (hne : t ≠ it) {u v : Value} (hu : items[i]? = some u) (hv : items[j]? = some v)
    (hQ : ∀ h', IsCb h' it t st (.ref s.heap.objs.size) i j → h'.get? s.heap.objs.size = some { cls := .type "tuple", data := .seq #[u, v] } → h'.objs.size = s.heap.objs.size + 1 →
      (∀ b o, b ≠ it → s.heap.get? b = some o → h'.get? b = some o) → R (.done (.ret (.ref s.heap.objs.size))) { s with heap := h' }) : wpAny (model prog w) A (cbHand it t [i, j]) R E s := by
  obtain ⟨o, ho, hc, hd⟩ := id x
  obtain ⟨ot, hot, htc, n, htd⟩ := id ht
  have lt := Heap.lt_size ho
  unfold cbHand
  refine wpAny_bind (wpAny_bind ?_)
  unfold Builtin.Itertools.itPoolItems
  refine wpAny_bind (wpAny_seqItems hot htd ?_)
  refine wpAny_pure (wpAny_newTuple ?_)
  have e1 : items.getD i Value.none = u := by rw [Array.getD_eq_getD_getElem?, hu] <;> rfl
  have e2 : items.getD j Value.none = v := by rw [Array.getD_eq_getD_getElem?, hv] <;> rfl
  simp only [List.map_cons, List.map_nil, e1, e2]
  have ho2 : (s.heap.push { cls := .type "tuple", data := .seq #[u, v] }).get? it = some o := Heap.get?_push_of_some _ ho
  refine wpAny_bind (wpAny_field (s := { s with heap := s.heap.push { cls := .type "tuple", data := .seq #[u, v] } }) ho2 hd (x := last) rfl ?_)
  refine wpAny_bind (wpAny_setField (s := { s with heap := s.heap.push { cls := .type "tuple", data := .seq #[u, v] } }) ho2 hd (by simp) ?_)
  have ho3 := Heap.get?_update_self (Obj.mapFields (·.setIfInBounds 2 (Value.ref s.heap.objs.size))) ho2 (Obj.isFreed_of_fields (Obj.data_mapFields hd _))
  refine wpAny_bind (wpAny_letGo (wpAny_pure (hQ _ ⟨_, ho3, ?_, ?_⟩ ?_ ?_ fun b ob hb e => ?_)))
  · rw [Obj.cls_mapFields, hc]
  · rw [Obj.data_mapFields hd] <;> rfl
  · rw [Heap.get?_update_other _ _ (Nat.ne_of_lt lt)]
    exact Heap.get?_push_size _ rfl
  · rw [Heap.size_update, Heap.size_push]
  · rw [Heap.get?_update_other _ _ (Ne.symm hb)]
    exact Heap.get?_push_of_some _ e
theorem next_first {Q : Option Value → Shared → Prop} (x : IsCb s.heap it t 0 last i j) (ht : s.heap.IsTuple t items) (hne : t ≠ it) {u v : Value} (hu : items[i]? = some u) (hv : items[j]? = some v)
    (hQ : ∀ h', IsCb h' it t 1 (.ref s.heap.objs.size) i j → h'.get? s.heap.objs.size = some { cls := .type "tuple", data := .seq #[u, v] } → h'.objs.size = s.heap.objs.size + 1 →
      (∀ b o, b ≠ it → s.heap.get? b = some o → h'.get? b = some o) → Q (some (.ref s.heap.objs.size)) { s with heap := h' }) : wpAny (model prog w) A (pyNext (.ref it)) Q E s := by
  obtain ⟨o, ho, hc, hd⟩ := id x
  unfold pyNext
  refine wpAny_bind (wpAny_attempt (wpAny_callSpecial?_slot (name := Str.ofString "__next__") x.ty sNext (wpAny_call_entry sNext x.ty enNext ?_ (agNext _))))
  unfold Builtin.«itertools.combinations.__next__»
  wp_delta
  refine wpAny_bind (wpAny_of_eq (a := (Value.ref it, [])) rfl ?_)
  try dsimp only
  refine wpAny_bind (wpAny_field ho hd (x := .ref t) rfl ?_)
  refine wpAny_bind ?_
  unfold Builtin.Itertools.itNumbersFrom
  try dsimp only
  refine wpAny_bind (wpAny_load ho ?_)
  rw [hd]
  refine wpAny_pure ?_
  refine wpAny_bind ?_
  unfold Builtin.Itertools.itIntField
  refine wpAny_bind (wpAny_field ho hd (x := rawInt 0) rfl ?_)
  refine wpAny_pure ?_
  try dsimp only
  refine wpAny_bind (wpAny_setField ho hd (by simp) ?_)
  have ho1 := Heap.get?_update_self (Obj.mapFields (·.setIfInBounds 1 (rawInt 1))) ho (Obj.isFreed_of_fields (Obj.data_mapFields hd _))
  have x1 : IsCb (s.heap.update it (Obj.mapFields (·.setIfInBounds 1 (rawInt 1)))) it t 1 last i j := ⟨_, ho1, (Obj.cls_mapFields ..).trans hc, by rw [Obj.data_mapFields hd] <;> rfl⟩
  have ht1 : (s.heap.update it (Obj.mapFields (·.setIfInBounds 1 (rawInt 1)))).IsTuple t items := by
    obtain ⟨ot, hot, r⟩ := ht
    exact ⟨ot, by rw [Heap.get?_update_other _ _ (Ne.symm hne)]; exact hot, r⟩
  have sz : (s.heap.update it (Obj.mapFields (·.setIfInBounds 1 (rawInt 1)))).objs.size = s.heap.objs.size := by rw [Heap.size_update]
  show wpAny _ _ (cbHand it t [i, j]) _ _ _
  refine hand (s := { s with heap := s.heap.update it (Obj.mapFields (·.setIfInBounds 1 (rawInt 1))) }) x1 ht1 hne hu hv fun h' q1 q2 q3 q4 => ?_
  dsimp only at q1 q2 q3 q4 ⊢
  rw [sz] at q1 q2 q3 ⊢
  exact ⟨_, rfl, wpAny_pure (hQ h' q1 q2 q3 fun b ob hb e => q4 b ob hb (by rw [Heap.get?_update_other _ _ (Ne.symm hb)]; exact e))⟩
/-- the places behind two of n -/
def after (n i j : Nat) : Option (Nat × Nat) := if j + 1 < n then some (i, j + 1) else if i + 2 < n then some (i + 1, i + 2) else none
def nx (n : Nat) (ks : List Nat) : Option (List Nat) :=
  let r := ks.length
  match (List.range r).reverse.find? (fun k => ks.getD k 0 != k + n - r) with
  | none => none
  | some k => some (ks.take k ++ (List.range (r - k)).map (ks.getD k 0 + 1 + ·))
theorem nx_eq {n i j : Nat} (hij : i < j) (hj : j < n) : nx n [i, j] = (after n i j).map fun p => [p.1, p.2] := by
  have e : (List.range 2).reverse = [1, 0] := by decide
  unfold nx after
  simp only [List.length_cons, List.length_nil, Nat.zero_add, Nat.reduceAdd, e, List.find?_cons, List.getD_cons_succ, List.getD_cons_zero]
  by_cases h1 : j + 1 < n
  · rw [if_pos h1, show (j != 1 + n - 2) = true from by rw [bne_iff_ne]; omega]
    rfl
  · rw [if_neg h1, show (j != 1 + n - 2) = false from by rw [bne_eq_false_iff_eq]; omega]
    by_cases h2 : i + 2 < n
    · rw [if_pos h2, show (i != n - 2) = true from by rw [bne_iff_ne]; omega]
      rfl
    · rw [if_neg h2, show (i != n - 2) = false from by rw [bne_eq_false_iff_eq]; omega]
      rfl
theorem next_later {Q : Option Value → Shared → Prop} (x : IsCb s.heap it t 1 last i j) (ht : s.heap.IsTuple t items) (hne : t ≠ it) (hij : i < j) (hj : j < items.size) {i' j' : Nat} (hs : after items.size i j = some (i', j')) {u v : Value} (hu : items[i']? = some u) (hv : items[j']? = some v)
    (hQ : ∀ h', IsCb h' it t 1 (.ref s.heap.objs.size) i' j' → h'.get? s.heap.objs.size = some { cls := .type "tuple", data := .seq #[u, v] } → h'.objs.size = s.heap.objs.size + 1 →
      (∀ b o, b ≠ it → s.heap.get? b = some o → h'.get? b = some o) → Q (some (.ref s.heap.objs.size)) { s with heap := h' }) : wpAny (model prog w) A (pyNext (.ref it)) Q E s := by
  obtain ⟨o, ho, hc, hd⟩ := id x
  obtain ⟨ot, hot, htc, nt, htd⟩ := id ht
  unfold pyNext
  refine wpAny_bind (wpAny_attempt (wpAny_callSpecial?_slot (name := Str.ofString "__next__") x.ty sNext (wpAny_call_entry sNext x.ty enNext ?_ (agNext _))))
  unfold Builtin.«itertools.combinations.__next__»
  wp_delta
  refine wpAny_bind (wpAny_of_eq (a := (Value.ref it, [])) rfl ?_)
  try dsimp only
  refine wpAny_bind (wpAny_field ho hd (x := .ref t) rfl ?_)
  refine wpAny_bind ?_
  unfold Builtin.Itertools.itNumbersFrom
  try dsimp only
  refine wpAny_bind (wpAny_load ho ?_)
  rw [hd]
  refine wpAny_pure ?_
  refine wpAny_bind ?_
  unfold Builtin.Itertools.itIntField
  refine wpAny_bind (wpAny_field ho hd (x := rawInt 1) rfl ?_)
  refine wpAny_pure ?_
  try dsimp only
  refine wpAny_bind ?_
  unfold Builtin.Itertools.itPoolItems
  refine wpAny_bind (wpAny_seqItems hot htd ?_)
  refine wpAny_pure ?_
  show wpAny _ _ (match nx items.size [i, j] with
    | some ks => (Builtin.Itertools.itSetNumbersFrom (.ref it) 3 ks >>= fun _ => cbHand it t ks)
    | none => (setField (.ref it) 1 (rawInt 2) >>= fun _ => Builtin.Itertools.itStop)) _ _ _
  rw [nx_eq hij hj, hs]
  simp only [Option.map_some]
  refine wpAny_bind ?_
  unfold Builtin.Itertools.itSetNumbersFrom
  refine wpAny_updateFields ho hd ?_ (by simp [sizeLine])
  have ho1 := Heap.get?_update_self (Obj.mapFields fun fs => fs.extract 0 3 ++ (([i', j'] : List Nat).map fun (n : Nat) => rawInt n).toArray) ho (Obj.isFreed_of_fields (Obj.data_mapFields hd _))
  have x1 : IsCb (s.heap.update it (Obj.mapFields fun fs => fs.extract 0 3 ++ (([i', j'] : List Nat).map fun (n : Nat) => rawInt n).toArray)) it t 1 last i' j' := ⟨_, ho1, (Obj.cls_mapFields ..).trans hc, by rw [Obj.data_mapFields hd] <;> rfl⟩
  have ht1 : (s.heap.update it (Obj.mapFields fun fs => fs.extract 0 3 ++ (([i', j'] : List Nat).map fun (n : Nat) => rawInt n).toArray)).IsTuple t items := ⟨ot, by rw [Heap.get?_update_other _ _ (Ne.symm hne)]; exact hot, htc, nt, htd⟩
  have sz : (s.heap.update it (Obj.mapFields fun fs => fs.extract 0 3 ++ (([i', j'] : List Nat).map fun (n : Nat) => rawInt n).toArray)).objs.size = s.heap.objs.size := by rw [Heap.size_update]
  refine hand (s := { s with heap := s.heap.update it (Obj.mapFields fun fs => fs.extract 0 3 ++ (([i', j'] : List Nat).map fun (n : Nat) => rawInt n).toArray) }) x1 ht1 hne hu hv fun h' q1 q2 q3 q4 => ?_
  dsimp only at q1 q2 q3 q4 ⊢
  rw [sz] at q1 q2 q3 ⊢
  exact ⟨_, rfl, wpAny_pure (hQ h' q1 q2 q3 fun b ob hb e => q4 b ob hb (by rw [Heap.get?_update_other _ _ (Ne.symm hb)]; exact e))⟩
/-- no more -/
theorem stops {s1 : Shared} {Q : Option Value → Shared → Prop} (hh : A.handled = none) (eb : Heap.ExtBut it s.heap s1.heap) (e1 : s1 = { s with heap := s1.heap }) (hQ : ∀ h', Heap.ExtBut it s.heap h' → Q none { s with heap := h' }) :
    wpAny (model prog w) A.in1 (Builtin.Itertools.itStop : Sem Fin) (fun fin s' => ∃ v, fin = Fin.done (Flow.ret v) ∧ wpAny (model prog w) A (pure (some v)) Q E s')
      (fun e s' => wpAny (model prog w) A (do if ← isInstance e (.type "StopIteration") then pure none else throw e) Q E s') s1 := by
  unfold Builtin.Itertools.itStop
  refine wpAny_bind ?_
  simp only [newExc, newTuple]
  refine wpAny_bind (wpAny_newObj_type ?_ (by size_fits))
  refine wpAny_bind (m := firstArgMember _ _) (wpAny_of_eq (a := Value.none) (by simp only [firstArgMember] <;> rfl) ?_)
  refine wpAny_newObj_type ?_ (by size_fits)
  simp only [raiseNew]
  refine wpAny_bind (wpAny_handled ?_)
  rw [show A.in1.handled = none from hh]
  refine wpAny_bind (wpAny_pure (wpAny_throw ?_))
  refine wpAny_bind (wpAny_isInstance (T := "StopIteration") (b := true) ⟨_, Heap.get?_push_size _ rfl, rfl⟩ isSubtype_stop ?_)
  rw [e1]
  exact wpAny_pure (hQ _ ((eb.push _).push _))
theorem next_end {st : Int} {Q : Option Value → Shared → Prop} (hh : A.handled = none) (x : IsCb s.heap it t st last i j) (ht : s.heap.IsTuple t items) (hne : t ≠ it) (hs : st = 2 ∨ (st = 1 ∧ i < j ∧ j < items.size ∧ after items.size i j = none))
    (hQ : ∀ h', Heap.ExtBut it s.heap h' → Q none { s with heap := h' }) : wpAny (model prog w) A (pyNext (.ref it)) Q E s := by
  obtain ⟨o, ho, hc, hd⟩ := id x
  obtain ⟨ot, hot, htc, nt, htd⟩ := id ht
  unfold pyNext
  refine wpAny_bind (wpAny_attempt (wpAny_callSpecial?_slot (name := Str.ofString "__next__") x.ty sNext (wpAny_call_entry sNext x.ty enNext ?_ (agNext _))))
  unfold Builtin.«itertools.combinations.__next__»
  wp_delta
  refine wpAny_bind (wpAny_of_eq (a := (Value.ref it, [])) rfl ?_)
  try dsimp only
  refine wpAny_bind (wpAny_field ho hd (x := .ref t) rfl ?_)
  refine wpAny_bind ?_
  unfold Builtin.Itertools.itNumbersFrom
  try dsimp only
  refine wpAny_bind (wpAny_load ho ?_)
  rw [hd]
  refine wpAny_pure ?_
  refine wpAny_bind ?_
  unfold Builtin.Itertools.itIntField
  rcases hs with rfl | ⟨rfl, hij, hj, hs⟩
  · refine wpAny_bind (wpAny_field ho hd (x := rawInt 2) rfl ?_)
    refine wpAny_pure ?_
    try dsimp only
    refine wpAny_bind (wpAny_rule ?_)
    exact stops (s := s) (s1 := s) hh (fun b o _ e => e) rfl hQ
  · refine wpAny_bind (wpAny_field ho hd (x := rawInt 1) rfl ?_)
    refine wpAny_pure ?_
    try dsimp only
    refine wpAny_bind ?_
    unfold Builtin.Itertools.itPoolItems
    refine wpAny_bind (wpAny_seqItems hot htd ?_)
    refine wpAny_pure ?_
    show wpAny _ _ (match nx items.size [i, j] with
      | some ks => (Builtin.Itertools.itSetNumbersFrom (.ref it) 3 ks >>= fun _ => cbHand it t ks)
      | none => (setField (.ref it) 1 (rawInt 2) >>= fun _ => Builtin.Itertools.itStop)) _ _ _
    rw [nx_eq hij hj, hs]
    simp only [Option.map_none]
    refine wpAny_bind (wpAny_setField ho hd (by simp) ?_)
    exact stops (s := s) hh (fun b ob hb e => (Heap.get?_update_other _ _ (Ne.symm hb)).trans e) rfl hQ
theorem iter_cb {st : Int} {Q : Value → Shared → Prop} (x : IsCb s.heap it t st last i j) (h : Q (.ref it) s) : wpAny (model prog w) A (pyIter (.ref it)) Q E s := by
  refine wpAny_pyIter_slot x.ty sIter (wpAny_call_entry sIter x.ty enIter ?_ (agIter _))
  show wpAny _ _ (ret (Value.ref it)) _ _ s
  exact wpAny_pure ⟨_, rfl, "itertools.combinations", _, x.ty, sNext.lookup, h⟩
end
end VC
end

section
set_option Elab.async false
set_option linter.all false
set_option maxRecDepth 100000
set_option maxHeartbeats 1000000
/-! tuple(combinations(.., 2)): the pairs gathered -/
namespace VC
open PySem PySem.Spec PyProof.Rows RT
/-- the pairs of places below n, in their order -/
def pr2 (n : Nat) : List (Nat × Nat) := (List.range n).flatMap fun i => (List.range' (i + 1) (n - (i + 1))).map fun j => (i, j)
theorem pr2_ok : ∀ n, n ≤ 8 → ∀ m, m < (pr2 n).length → ((pr2 n).getD m (0, 0)).1 < ((pr2 n).getD m (0, 0)).2 ∧ ((pr2 n).getD m (0, 0)).2 < n ∧ after n ((pr2 n).getD m (0, 0)).1 ((pr2 n).getD m (0, 0)).2 = (pr2 n)[m + 1]? := by decide +kernel
theorem pr2_zero : ∀ n, n ≤ 8 → 2 ≤ n → (pr2 n)[0]? = some (0, 1) := by decide +kernel
theorem pr2_small : ∀ n, n < 2 → pr2 n = [] := by decide +kernel
theorem pr2_len : ∀ n, n ≤ 8 → (pr2 n).length ≤ 28 := by decide +kernel
theorem pr2_at {n m : Nat} {p : Nat × Nat} (hn : n ≤ 8) (h : (pr2 n)[m]? = some p) : p.1 < p.2 ∧ p.2 < n ∧ after n p.1 p.2 = (pr2 n)[m + 1]? := by
  have hm := (List.getElem?_eq_some_iff.mp h).1
  have q := pr2_ok n hn m hm
  rw [List.getD_eq_getElem?_getD, h] at q
  exact q
/-- where the walk stands behind m pairs -/
def CbSt (h : Heap) (a t : Addr) (n m : Nat) : Prop := (n < 2 ∧ ∃ last i j, IsCb h a t 2 last i j) ∨ (2 ≤ n ∧ ((m = 0 ∧ ∃ last, IsCb h a t 0 last 0 1) ∨ ∃ last p, 0 < m ∧ (pr2 n)[m - 1]? = some p ∧ IsCb h a t 1 last p.1 p.2))
theorem CbSt.at {h h' : Heap} {a t : Addr} {n m : Nat} (x : CbSt h a t n m) (e : ∀ o, h.get? a = some o → h'.get? a = some o) : CbSt h' a t n m := by
  rcases x with ⟨h1, l, i, j, x⟩ | ⟨h1, ⟨h2, l, x⟩ | ⟨l, p, h2, h3, x⟩⟩
  · exact .inl ⟨h1, l, i, j, x.at e⟩
  · exact .inr ⟨h1, .inl ⟨h2, l, x.at e⟩⟩
  · exact .inr ⟨h1, .inr ⟨l, p, h2, h3, x.at e⟩⟩
theorem CbSt.lt {h : Heap} {a t : Addr} {n m : Nat} (x : CbSt h a t n m) : a < h.objs.size := by
  rcases x with ⟨_, _, _, _, o, e, _⟩ | ⟨_, ⟨_, _, o, e, _⟩ | ⟨_, _, _, _, o, e, _⟩⟩ <;> exact Heap.lt_size e
theorem CbSt.ty {s : Shared} {a t : Addr} {n m : Nat} (x : CbSt s.heap a t n m) : s.TypeIs (.ref a) "itertools.combinations" := by
  rcases x with ⟨_, _, _, _, x⟩ | ⟨_, ⟨_, _, x⟩ | ⟨_, _, _, _, x⟩⟩ <;> exact x.ty
section
variable {prog : Program} {w : World} {A : Around} {E : Value → Shared → Prop} {s : Shared} {it t S : Addr} {items : Array Value} {n : Nat}
theorem st_iter {m : Nat} {Q : Value → Shared → Prop} (x : CbSt s.heap it t n m) (h : Q (.ref it) s) : wpAny (model prog w) A (pyIter (.ref it)) Q E s := by
  rcases x with ⟨_, _, _, _, x⟩ | ⟨_, ⟨_, _, x⟩ | ⟨_, _, _, _, x⟩⟩ <;> exact iter_cb x h
theorem st_item {m : Nat} {p : Nat × Nat} {Q : Option Value → Shared → Prop} (hn : n ≤ 8) (x : CbSt s.heap it t n m) (ht : s.heap.IsTuple t items) (hsz : items.size = n) (hne : t ≠ it) (hp : (pr2 n)[m]? = some p) {u v : Value} (hu : items[p.1]? = some u) (hv : items[p.2]? = some v)
    (hQ : ∀ h', CbSt h' it t n (m + 1) → h'.get? s.heap.objs.size = some { cls := .type "tuple", data := .seq #[u, v] } → h'.objs.size = s.heap.objs.size + 1 →
      (∀ b o, b ≠ it → s.heap.get? b = some o → h'.get? b = some o) → Q (some (.ref s.heap.objs.size)) { s with heap := h' }) : wpAny (model prog w) A (pyNext (.ref it)) Q E s := by
  subst hsz
  rcases x with ⟨h1, _⟩ | ⟨h1, ⟨rfl, l, x⟩ | ⟨l, q, h2, h3, x⟩⟩
  · rw [pr2_small _ h1] at hp
    cases hp
  · have z := pr2_zero _ hn h1
    rw [hp] at z
    cases z
    exact next_first x ht hne hu hv fun h' q1 q2 q3 q4 => hQ h' (.inr ⟨h1, .inr ⟨_, (0, 1), by omega, hp, q1⟩⟩) q2 q3 q4
  · obtain ⟨a1, a2, a3⟩ := pr2_at hn h3
    rw [show m - 1 + 1 = m by omega, hp] at a3
    exact next_later x ht hne a1 a2 a3 hu hv fun h' q1 q2 q3 q4 => hQ h' (.inr ⟨h1, .inr ⟨_, p, by omega, hp, q1⟩⟩) q2 q3 q4
theorem st_end {m : Nat} {Q : Option Value → Shared → Prop} (hn : n ≤ 8) (hh : A.handled = none) (x : CbSt s.heap it t n m) (ht : s.heap.IsTuple t items) (hsz : items.size = n) (hne : t ≠ it) (hp : (pr2 n).length ≤ m)
    (hQ : ∀ h', Heap.ExtBut it s.heap h' → Q none { s with heap := h' }) : wpAny (model prog w) A (pyNext (.ref it)) Q E s := by
  subst hsz
  rcases x with ⟨h1, l, i, j, x⟩ | ⟨h1, ⟨rfl, l, x⟩ | ⟨l, q, h2, h3, x⟩⟩
  · exact next_end hh x ht hne (.inl rfl) hQ
  · have z := pr2_zero _ hn h1
    have := (List.getElem?_eq_some_iff.mp z).1
    omega
  · obtain ⟨a1, a2, a3⟩ := pr2_at hn h3
    rw [List.getElem?_eq_none (by omega)] at a3
    exact next_end hh x ht hne (.inr ⟨rfl, a1, a2, a3⟩) hQ
/-- the pairs handed out so far lie at as -/
structure CbG (items : Array Value) (ps : List (Nat × Nat)) (lo : Addr) (h : Heap) (as : List Addr) : Prop where
  up : as.Pairwise (· < ·)
  hi : ∀ a ∈ as, lo < a
  at_ : ∀ (k : Nat) (a : Addr), as[k]? = some a → ∃ p u v, ps[k]? = some p ∧ items[p.1]? = some u ∧ items[p.2]? = some v ∧ h.get? a = some { cls := .type "tuple", data := .seq #[u, v] }
theorem CbG.inside {ps : List (Nat × Nat)} {lo : Addr} {h : Heap} {as : List Addr} (g : CbG items ps lo h as) {a : Addr} (ha : a ∈ as) : a < h.objs.size := by
  obtain ⟨k, hk⟩ := List.mem_iff_getElem?.mp ha
  obtain ⟨_, _, _, _, _, _, e⟩ := g.at_ k a hk
  exact Heap.lt_size e
theorem cb_loop {R : Result → Shared → Prop} {h1 : Heap} (hn : n ≤ 8) (hsz : items.size = n) (hh : A.handled = none) (hSI : it < S) (htS : t ≠ S) (hti : t ≠ it) (res : Value)
    (hR : ∀ h' tk acc c as, (∀ b o, b ≠ S → b ≠ it → h1.get? b = some o → h'.get? b = some o) → h'.get? S = some { cls := .type "list", dict := none, data := .seq acc c, slots := #[] } → as.length = (pr2 n).length → CbG items (pr2 n) S h' as → acc.toList = as.map Value.ref → R (.ok (.ret res)) { s with heap := h', toks := tk }) :
    ∀ (k m : Nat) (h : Heap) (tk c : Nat) (acc : Array Value) (as : List Addr), (pr2 n).length - m = k → m ≤ (pr2 n).length → CbSt h it t n m → h.IsTuple t items → (∀ b o, b ≠ S → b ≠ it → h1.get? b = some o → h.get? b = some o) →
      h.get? S = some { cls := .type "list", dict := none, data := .seq acc c, slots := #[] } → acc.toList = as.map Value.ref → as.length = m → CbG items (pr2 n) S h as →
      codeAny (model prog w) A (.builtin "list.extend.loop" ⟨[.ref S, .ref it, res], []⟩) R { s with heap := h, toks := tk } := by
  have hne : S ≠ it := Nat.ne_of_gt hSI
  have l28 := pr2_len n hn
  intro k
  induction k with
  | zero =>
    intro m h tk c acc as hk hm st ht keep hS hacc hal g
    refine codeAny_builtin F.entry_extend_loop ?_
    rw [Around.under_plainId F.plain_extend_loop _]
    show wpAny _ A.in1 (pyNext (.ref it) >>= _) _ _ _
    refine wpAny_bind (st_end (s := { s with heap := h, toks := tk }) (A := A.in1) hn hh st ht hsz hti (by omega) fun h' he => wpAny_pure (hR h' tk acc c as (fun b o b1 b2 e => he b o b2 (keep b o b1 b2 e)) (he S _ hne hS) (by omega) ⟨g.up, g.hi, fun q a hq => ?_⟩ hacc))
    obtain ⟨p, u, v, e1, e2, e3, e4⟩ := g.at_ q a hq
    exact ⟨p, u, v, e1, e2, e3, he a _ (Nat.ne_of_gt (Nat.lt_trans hSI (g.hi a (List.mem_of_getElem? hq)))) e4⟩
  | succ k ih =>
    intro m h tk c acc as hk hm st ht keep hS hacc hal g
    have hlt : m < (pr2 n).length := by omega
    have hp : (pr2 n)[m]? = some (pr2 n)[m] := List.getElem?_eq_getElem hlt
    obtain ⟨b1, b2, _⟩ := pr2_at hn hp
    have accz : acc.size = m := by rw [← Array.length_toList, hacc, List.length_map, hal]
    have hu : items[(pr2 n)[m].1]? = some items[(pr2 n)[m].1] := Array.getElem?_eq_getElem (by omega)
    have hv : items[(pr2 n)[m].2]? = some items[(pr2 n)[m].2] := Array.getElem?_eq_getElem (by omega)
    have hIs := st.lt
    refine codeAny_builtin F.entry_extend_loop ?_
    rw [Around.under_plainId F.plain_extend_loop _]
    show wpAny _ A.in1 (pyNext (.ref it) >>= _) _ _ _
    refine wpAny_bind (st_item (s := { s with heap := h, toks := tk }) hn st ht hsz hti hp hu hv fun h' st' hT hz kp => ?_)
    dsimp only at hT hz kp ⊢
    have hS' := kp S _ hne hS
    have hSl : S < h.objs.size := Heap.lt_size hS
    have up : ∀ b o, b ≠ S → h'.get? b = some o → (h'.update S (Obj.mapSeq (·.push (Value.ref h.objs.size)))).get? b = some o := fun b o hb e => by
      rw [Heap.get?_update_other _ _ (Ne.symm hb)]
      exact e
    show wpAny _ A.in1 (updateSeq S (·.push (Value.ref h.objs.size)) >>= _) _ _ _
    have gT := up _ _ (Nat.ne_of_gt hSl) hT
    have tT : (h'.update S (Obj.mapSeq (·.push (Value.ref h.objs.size)))).IsTuple t items := by
      obtain ⟨ot, hot, r⟩ := ht
      exact ⟨ot, up t ot htS (kp t ot hti hot), r⟩
    have g' : CbG items (pr2 n) S (h'.update S (Obj.mapSeq (·.push (Value.ref h.objs.size)))) (as ++ [h.objs.size]) := by
      refine ⟨List.pairwise_append.mpr ⟨g.up, List.pairwise_singleton _ _, fun a ha b hb => ?_⟩, fun a ha => ?_, fun q a hq => ?_⟩
      · rw [List.mem_singleton.mp hb]
        exact g.inside ha
      · rcases List.mem_append.mp ha with ha | ha
        · exact g.hi a ha
        · rw [List.mem_singleton.mp ha]
          exact hSl
      · rcases Nat.lt_trichotomy q as.length with c1 | c1 | c1
        · rw [List.getElem?_append_left c1] at hq
          obtain ⟨p, u, v, e1, e2, e3, e4⟩ := g.at_ q a hq
          have ab := g.hi a (List.mem_of_getElem? hq)
          exact ⟨p, u, v, e1, e2, e3, up a _ (Nat.ne_of_gt ab) (kp a _ (Nat.ne_of_gt (Nat.lt_trans hSI ab)) e4)⟩
        · subst c1
          have ea : h.objs.size = a := by simpa using hq
          subst ea
          exact ⟨_, _, _, by rw [hal]; exact hp, hu, hv, gT⟩
        · rw [List.getElem?_eq_none (by rw [List.length_append, List.length_singleton]; omega)] at hq
          cases hq
    refine wpAny_bind (wpAny_updateSeq hS' rfl (wpAny_pure ⟨plainId_quiet F.plain_extend_loop _, ih (m + 1) _ tk _ (acc.push (Value.ref h.objs.size)) (as ++ [h.objs.size]) (by omega) hlt (st'.at fun o e => up it o (Ne.symm hne) e) tT
      (fun b o c1 c2 e => up b o c1 (kp b o c2 (keep b o c1 c2 e))) (Heap.get?_update_self _ hS' rfl) (by rw [Array.toList_push, hacc, List.map_append] <;> rfl) (by rw [List.length_append, hal] <;> rfl) g'⟩) ?_)
    rw [accz, sizeLine_eq]
    omega
end
end VC
end

section
set_option Elab.async false
set_option linter.all false
set_option maxRecDepth 100000
set_option maxHeartbeats 1000000
/-! tuple(combinations(.., 2)): the tuple made -/
namespace VC
open PySem PySem.Spec PyProof.Rows RT
section
variable {prog : Program} {w : World} {A : Around} {E : Value → Shared → Prop} {s : Shared} {it t S : Addr} {items : Array Value} {n : Nat}
theorem cb_hint (hT : s.TypeIs (.ref it) "itertools.combinations") {Q : Bool → Shared → Prop} (h : Q true s) : wpAny (model prog w) A (Builtin.List.listLengthHint (.ref it)) Q E s := by
  unfold Builtin.List.listLengthHint
  refine wpAny_bind (wpAny_specialOf hT noLen ?_)
  show wpAny _ A (specialOf (Value.ref it) (Str.ofString "__length_hint__") >>= _) _ _ _
  refine wpAny_bind (wpAny_specialOf hT noHint ?_)
  exact wpAny_pure h
theorem cb_extend {R : Result → Shared → Prop} (hn : n ≤ 8) (hsz : items.size = n) (hh : A.handled = none) (x : CbSt s.heap it t n 0) (ht : s.heap.IsTuple t items) (hti : t ≠ it) (S : Addr) (hSi : it < S) (htS : t ≠ S) (res : Value) (c0 : Nat) (hS : s.heap.get? S = some { cls := .type "list", data := .seq #[] c0 })
    (hR : ∀ h' tk acc c as, (∀ b o, b ≠ S → b ≠ it → s.heap.get? b = some o → h'.get? b = some o) → h'.get? S = some { cls := .type "list", dict := none, data := .seq acc c, slots := #[] } → as.length = (pr2 n).length → CbG items (pr2 n) S h' as → acc.toList = as.map Value.ref → R (.ok (.ret res)) { s with heap := h', toks := tk }) :
    wpAny (model prog w) A.in1 (Builtin.List.listExtendWith (.ref S) (.ref it) res)
      (fun fin s' => match fin with | .done f => R (.ok f) s' | .again c' => c'.quiet = true ∧ codeAny (model prog w) A c' R s') (fun e s' => R (.error e) s') s := by
  have hne : S ≠ it := Nat.ne_of_gt hSi
  unfold Builtin.List.listExtendWith
  refine wpAny_bind (wpAny_typeOf x.ty ?_)
  have n1 : Builtin.List.listSameRef (.ref S) (.ref it) = false := by simp [Builtin.List.listSameRef, hne]
  have n2 : (Value.type "itertools.combinations" == Value.type "list") = false := by decide +kernel
  have n3 : (Value.type "itertools.combinations" == Value.type "tuple") = false := by decide +kernel
  simp only [n1, n2, n3, Bool.or_false, Bool.false_eq_true, if_false]
  refine wpAny_bind (st_iter x ?_)
  refine wpAny_bind (wpAny_holding (cb_hint x.ty ?_))
  refine wpAny_ite_split (fun _ => ?_) (fun q => absurd rfl q)
  refine wpAny_bind (wpAny_rule ?_)
  refine wpAny_bind ?_
  show wpAny _ _ (updateSeq S (fun xs => xs.push .none) >>= fun _ => updateSeq S (fun xs => xs.pop)) _ _ _
  refine wpAny_bind (wpAny_updateSeq hS rfl ?_)
  have hS2 := Heap.get?_update_self (Obj.mapSeq (fun xs => xs.push Value.none)) hS rfl
  refine wpAny_updateSeq (hz := by seq_fits) hS2 rfl ?_
  have hS3 := Heap.get?_update_self (Obj.mapSeq (fun xs => xs.pop)) hS2 rfl
  have oth : ∀ b o, b ≠ S → s.heap.get? b = some o → ((s.heap.update S (Obj.mapSeq (fun xs => xs.push Value.none))).update S (Obj.mapSeq (fun xs => xs.pop))).get? b = some o := fun b o hb e => by
    rw [Heap.get?_update_other _ _ (Ne.symm hb), Heap.get?_update_other _ _ (Ne.symm hb)]
    exact e
  have ht3 : ((s.heap.update S (Obj.mapSeq (fun xs => xs.push Value.none))).update S (Obj.mapSeq (fun xs => xs.pop))).IsTuple t items := by
    obtain ⟨ot, hot, r⟩ := ht
    exact ⟨ot, oth t ot htS hot, r⟩
  refine wpAny_pure ⟨plainId_quiet F.plain_extend_loop _, ?_⟩
  exact cb_loop (s := s) (h1 := s.heap) hn hsz hh hSi htS hti res hR (pr2 n).length 0 _ _ _ #[] [] rfl (Nat.zero_le _) (x.at fun o e => oth it o (Ne.symm hne) e) ht3 (fun b o b1 _ e => oth b o b1 e) hS3 rfl rfl ⟨List.Pairwise.nil, (fun a ha => nomatch ha), (fun q a hq => (by simp at hq))⟩
theorem CbG.low {ps : List (Nat × Nat)} {lo lo' : Addr} {h : Heap} {as : List Addr} (g : CbG items ps lo h as) (hl : lo' ≤ lo) : CbG items ps lo' h as := ⟨g.up, fun a ha => Nat.lt_of_le_of_lt hl (g.hi a ha), g.at_⟩
theorem cb_collect {R : List Value → Shared → Prop} (hn : n ≤ 8) (hsz : items.size = n) (hh : A.handled = none) (x : CbSt s.heap it t n 0) (ht : s.heap.IsTuple t items) (hti : t ≠ it)
    (hR : ∀ (h' : Heap) (tk : Nat) (as : List Addr), (∀ b o, b ≠ it → s.heap.get? b = some o → h'.get? b = some o) → as.length = (pr2 n).length → CbG items (pr2 n) s.heap.objs.size h' as → s.heap.objs.size < h'.objs.size → R (as.map Value.ref) { s with heap := h', toks := tk }) :
    wpAny (model prog w) A (collect (.ref it)) R E s := by
  have hil := x.lt
  obtain ⟨ot, hot, r⟩ := id ht
  have htl := Heap.lt_size hot
  unfold collect
  refine wpAny_bind (wpAny_runValue (codeAny_builtin F.entry_proto_collect ?_)); rw [Around.under_plainId F.plain_proto_collect _]
  show wpAny _ A.in1 (newList [] >>= fun z => again (.builtin "list.__iadd__" ⟨[z, .ref it], []⟩)) _ _ s
  refine wpAny_bind (wpAny_newObj_type ?_); refine wpAny_pure ⟨plainId_quiet F.plain_list_iadd _, codeAny_builtin F.entry_list_iadd ?_⟩
  rw [Around.under_plainId F.plain_list_iadd _]; show wpAny _ A.in1 (Builtin.List.listExtendWith (.ref s.heap.objs.size) (.ref it) (.ref s.heap.objs.size)) _ _ _
  have hS1 : (s.heap.push { cls := .type "list", data := .seq ([] : List Value).toArray }).get? s.heap.objs.size = some { cls := .type "list", data := .seq #[] } := Heap.get?_push_size _ rfl
  have key := cb_extend (prog := prog) (w := w) (A := A) (s := { s with heap := s.heap.push { cls := .type "list", data := .seq ([] : List Value).toArray } }) (n := n) (items := items) (it := it) (t := t)
    (R := fun (q : Result) (s' : Shared) => ∃ (h' : Heap) (tk : Nat) (acc : Array Value) (c : Nat) (as : List Addr), q = .ok (.ret (.ref s.heap.objs.size)) ∧ s' = { s with heap := h', toks := tk } ∧ (∀ b o, b ≠ it → s.heap.get? b = some o → h'.get? b = some o) ∧
      h'.get? s.heap.objs.size = some { cls := .type "list", dict := none, data := .seq acc c, slots := #[] } ∧ as.length = (pr2 n).length ∧ CbG items (pr2 n) s.heap.objs.size h' as ∧ acc.toList = as.map Value.ref)
    hn hsz hh (x.at fun o e => Heap.get?_push_of_some _ e) ⟨ot, Heap.get?_push_of_some _ hot, r⟩ hti s.heap.objs.size hil (Nat.ne_of_lt htl) (.ref s.heap.objs.size) 0 hS1
    (fun h' tk acc c as keep hS' hl g hacc => ⟨h', tk, acc, c, as, rfl, rfl, fun b o hb e => keep b o (Nat.ne_of_lt (Heap.lt_size e)) hb (Heap.get?_push_of_some _ e), hS', hl, g, hacc⟩)
  refine wpAny_mono key (fun fin s' y => ?_) fun e s' y => ?_
  · cases fin with
    | done f =>
      obtain ⟨h', tk, acc, c, as, e, rfl, keep, hS', hl, g, hacc⟩ := y
      cases e
      show wpAny _ A (load s.heap.objs.size >>= _) _ _ _
      refine wpAny_bind (wpAny_load hS' (wpAny_pure ?_))
      show R acc.toList _
      rw [hacc]
      exact hR h' tk as keep hl g (Heap.lt_size hS')
    | again c1 =>
      refine ⟨y.1, codeAny_mono y.2 fun q s2 z => ?_⟩
      obtain ⟨h', tk, acc, c, as, rfl, rfl, keep, hS', hl, g, hacc⟩ := z
      show wpAny _ A (load s.heap.objs.size >>= _) _ _ _
      refine wpAny_bind (wpAny_load hS' (wpAny_pure ?_))
      show R acc.toList _
      rw [hacc]
      exact hR h' tk as keep hl g (Heap.lt_size hS')
  · obtain ⟨_, _, _, _, _, e', _⟩ := y
    cases e'
theorem new_tuple_cb {Q1 : Value → Shared → Prop} (hn : n ≤ 8) (hsz : items.size = n) (hh : A.handled = none) (x : CbSt s.heap it t n 0) (ht : s.heap.IsTuple t items) (hti : t ≠ it)
    (hQ : ∀ (h' : Heap) (tk : Nat) (as : List Addr), (∀ b o, b ≠ it → s.heap.get? b = some o → h'.get? b = some o) → as.length = (pr2 n).length → CbG items (pr2 n) s.heap.objs.size h' as → s.heap.objs.size < h'.objs.size → Q1 (.ref h'.objs.size) { s with heap := h'.push { cls := .type "tuple", data := .seq (as.map Value.ref).toArray }, toks := tk }) :
    codeAny (model prog w) A (.call (.builtin "tuple.__new__") ⟨[.type "tuple", .ref it], []⟩) (wants Q1 E) s := by
  have l28 := pr2_len n hn
  refine codeAny_of_tree ?_
  show wpAny _ A.in1 (checkBuiltinCall "tuple.__new__" ⟨[.type "tuple", .ref it], []⟩ >>= fun _ => again (.builtin "tuple.__new__" ⟨[.type "tuple", .ref it], []⟩)) _ _ s
  refine wpAny_bind (wpAny_of_eq (F.newCall_tuple_1 _) (wpAny_pure ⟨plainId_quiet F.plain_tuple_new _, codeAny_builtin F.entry_tuple_new ?_⟩)); rw [Around.under_plainId F.plain_tuple_new _]
  have a1 := sub_tuple_self
  have a2 := init_tuple_lookup
  have a3 := madeHere_tuple
  have a4 : s.TypeIs (.ref it) "itertools.combinations" := x.ty
  have a5 : A.in1.handled = none := hh
  wp_walk using wpAny_typeOf a4, cb_collect (A := A.in1) hn hsz a5 x ht hti
  intro h' tk as keep hl g lt
  show wpAny _ _ (Builtin.Tuple.tupleExact (as.map Value.ref).toArray >>= fun v => ret v) _ _ _
  unfold Builtin.Tuple.tupleExact
  refine wpAny_bind (wpAny_newObj_type ?_ (by show (as.map Value.ref).toArray.size ≤ sizeLine; rw [List.size_toArray, List.length_map, hl, sizeLine_eq]; omega))
  exact wpAny_pure (hQ h' tk as keep hl g lt)
theorem call_tuple_cb {Q : Value → Shared → Prop} (hn : n ≤ 8) (hsz : items.size = n) (hh : A.handled = none) (x : CbSt s.heap it t n 0) (ht : s.heap.IsTuple t items) (hti : t ≠ it)
    (hQ : ∀ (h' : Heap) (tk : Nat) (as : List Addr), (∀ b o, b ≠ it → s.heap.get? b = some o → h'.get? b = some o) → as.length = (pr2 n).length → CbG items (pr2 n) s.heap.objs.size h' as → s.heap.objs.size < h'.objs.size → Q (.ref h'.objs.size) { s with heap := h'.push { cls := .type "tuple", data := .seq (as.map Value.ref).toArray }, toks := tk }) :
    wpAny (model prog w) A (call (.type "tuple") [.ref it]) Q E s := by
  refine callType_codes (Q₁ := fun obj s1 => s1.TypeIs obj "tuple" ∧ Q obj s1) F.called_tuple (F.typeCall_tuple_1 _) F.entry_object_init (new_tuple_cb (A := A.in1) hn hsz hh x ht hti fun h' tk as q1 q2 q3 q4 => ⟨⟨_, Heap.get?_push_size _ rfl, rfl⟩, hQ h' tk as q1 q2 q3 q4⟩) fun obj s1 y => ?_
  exact ⟨y.1, F.args_object_init_2 obj _, object_init_meets F.called_tuple.init.lookup F.called_tuple.made (by decide) prog w A.in1 _ s1 ⟨y.1, rfl, y.2⟩⟩
end
end VC
end

section
set_option Elab.async false
set_option linter.all false
set_option maxRecDepth 100000
set_option maxHeartbeats 1000000
/-! combinations(range(n), 2): the walk made -/
namespace VC
open PySem PySem.Spec PyProof.Rows RT L2
theorem cls_rest {a b : Value} : Builtin.Itertools.itClassAndRest "combinations" ⟨[.type "itertools.combinations", a, b], []⟩ = pure (.type "itertools.combinations", [a, b]) := by
  unfold Builtin.Itertools.itClassAndRest
  have e : ("itertools." ++ "combinations" : String) = "itertools.combinations" := by decide +kernel
  simp only [isType, e, called.sub, pure_bind, Bool.not_true, Bool.false_eq_true, if_false]
theorem bindN (a b : Value) : Builtin.Itertools.itBindNamed "combinations" ["iterable", "r"] 2 2 [a, b] [] = pure [some a, some b] := by first | rfl | kernel_rfl
theorem ssize (k : Tok) : Builtin.Itertools.itSsizeArg (.int 2 k) = pure 2 := by first | rfl | kernel_rfl
theorem noDict : typeHasDict (.type "itertools.combinations") = false := by first | rfl | kernel_rfl
section
variable {prog : Program} {w : World} {A : Around} {E : Value → Shared → Prop} {s : Shared} {r : Addr} {a b : Int} {t u v k : Tok} {n : Nat}
theorem new_cb {Q1 : Value → Shared → Prop} (hh : A.handled = none) (hr : IsRange s.heap r a b 1 t u v) (hsmall : Builtin.Range.small a b 1 = true) (hn : Builtin.Range.rangeSize a b 1 = n) (hn8 : n ≤ 8)
    (hQ : ∀ (h' : Heap) (tk : Nat) (acc : Array Value), (∀ b o, s.heap.get? b = some o → h'.get? b = some o) → ItemsOf (fun i x => ∃ t, x = .int (a + i * 1) t) acc n →
      Q1 (.ref (h'.objs.size + 1)) { s with heap := (h'.push { cls := .type "tuple", data := .seq acc }).push { cls := .type "itertools.combinations", data := cbData h'.objs.size (if 2 > n then 2 else 0) .none 0 1 }, toks := tk }) :
    codeAny (model prog w) A (.call (.builtin "itertools.combinations.__new__") ⟨[.type "itertools.combinations", .ref r, .int 2 k], []⟩) (wants Q1 E) s := by
  refine codeAny_of_tree ?_
  show wpAny _ A.in1 (checkBuiltinCall "itertools.combinations.__new__" ⟨[.type "itertools.combinations", .ref r, .int 2 k], []⟩ >>= fun _ => again (.builtin "itertools.combinations.__new__" ⟨[.type "itertools.combinations", .ref r, .int 2 k], []⟩)) _ _ s
  refine wpAny_bind (wpAny_of_eq (ncall _ _) (wpAny_pure ⟨plainId_quiet plNew _, codeAny_builtin enNew ?_⟩)); rw [Around.under_plainId plNew _]
  unfold Builtin.«itertools.combinations.__new__»
  refine wpAny_bind ?_
  wp_delta
  refine wpAny_bind (wpAny_of_eq cls_rest ?_)
  refine wpAny_bind (wpAny_of_eq (bindN _ _) ?_)
  refine wpAny_bind (wpAny_of_eq (ssize _) ?_)
  refine wpAny_bind (collect_range (A := A.in1) hh hr hsmall hn (by omega) fun h' tk acc keep hi => ?_)
  have az : acc.toList.length = n := by rw [Array.length_toList, hi.1]
  try dsimp only
  rw [if_neg (by decide), if_neg (by decide)]
  refine wpAny_bind (wpAny_newTuple ?_ (by rw [az, sizeLine_eq]; omega))
  refine wpAny_pure ?_
  try dsimp only
  rw [az]
  refine wpAny_bind ?_
  unfold Builtin.Itertools.itNewRecord
  rw [if_pos (by rw [noDict] <;> rfl)]
  refine wpAny_newObj_type ?_ (by show (List.toArray [Value.ref h'.objs.size, rawInt (if Int.toNat 2 > n then 2 else 0), Value.none, rawInt 0, rawInt 1]).size ≤ _; simp [sizeLine_eq])
  refine wpAny_pure ?_
  have e : acc.toList.toArray = acc := by simp
  rw [e]
  have q := hQ h' tk acc keep hi
  rw [← Heap.size_push h' { cls := .type "tuple", data := .seq acc }] at q
  exact q
theorem call_cb {Q : Value → Shared → Prop} (hh : A.handled = none) (hr : IsRange s.heap r a b 1 t u v) (hsmall : Builtin.Range.small a b 1 = true) (hn : Builtin.Range.rangeSize a b 1 = n) (hn8 : n ≤ 8)
    (hQ : ∀ (h' : Heap) (tk : Nat) (acc : Array Value), (∀ b o, s.heap.get? b = some o → h'.get? b = some o) → ItemsOf (fun i x => ∃ t, x = .int (a + i * 1) t) acc n →
      Q (.ref (h'.objs.size + 1)) { s with heap := (h'.push { cls := .type "tuple", data := .seq acc }).push { cls := .type "itertools.combinations", data := cbData h'.objs.size (if 2 > n then 2 else 0) .none 0 1 }, toks := tk }) :
    wpAny (model prog w) A (call (.type "itertools.combinations") [.ref r, .int 2 k]) Q E s := by
  refine callType_codes (Q₁ := fun obj s1 => s1.TypeIs obj "itertools.combinations" ∧ Q obj s1) called (tcall _ _) F.entry_object_init (new_cb (A := A.in1) hh hr hsmall hn hn8 fun h' tk acc q1 q2 => ⟨?_, hQ h' tk acc q1 q2⟩) fun obj s1 y => ?_
  · refine ⟨{ cls := .type "itertools.combinations", data := cbData h'.objs.size (if 2 > n then 2 else 0) .none 0 1 }, ?_, rfl⟩
    rw [← Heap.size_push h' { cls := .type "tuple", data := .seq acc }]
    exact Heap.get?_push_size _ rfl
  · exact ⟨y.1, F.args_object_init_3 obj _ _, object_init_meets called.init.lookup called.made (by decide +kernel) prog w A.in1 _ s1 ⟨y.1, rfl, y.2⟩⟩
end
end VC
end

section
set_option Elab.async false
set_option linter.all false
set_option maxRecDepth 100000
set_option maxHeartbeats 1000000
/-! tuple(combinations(range(n), 2)), as a rule -/
namespace VC
open PySem PySem.Spec PyProof.Rows RT L2
/-- the pairs as keys and values (putT's form) -/
def pk (n : Nat) : List (Key × V) := (pr2 n).map fun q => (.inl (q.1 : Int), .int (q.2 : Int))
theorem pk_at {n j : Nat} {q : Nat × Nat} (h : (pr2 n)[j]? = some q) : (pk n)[j]? = some (.inl (q.1 : Int), .int (q.2 : Int)) := by
  unfold pk
  rw [List.getElem?_map, h] <;> rfl
section
variable {X : Cx} {pins : List (Addr × Obj)} {σ : L2.St} {H : Hp} {s : Shared} {it : Addr} {n : Nat} {items : Array Value}
theorem laid {hh : Heap} {tk : Nat} {as : List Addr} (I : Inv X pins σ H s) (hf : FpOk X pins H it) (keep : ∀ b o, b ≠ it → s.heap.get? b = some o → hh.get? b = some o) (hn : n ≤ 8) (hl : as.length = (pr2 n).length)
    (hI : ∀ (i : Nat) (u : Value), items[i]? = some u → RelV (.int (i : Int)) u) (g : CbG items (pr2 n) s.heap.objs.size hh as) (hle : s.heap.objs.size ≤ hh.objs.size) :
    ∃ H' : Hp, (∀ b o, H b = some o → H' b = some o) ∧ H hh.objs.size = none ∧ (∀ t ∈ as, H t = none) ∧ hh.objs.size ∉ as ∧ H' hh.objs.size = some (.tup (as.map V.ref)) ∧ Paired (fun (t : Addr) (q : Key × V) => H' t = some (.tup [kV q.1, q.2])) as (pk n) ∧
      Inv X pins σ H' { s with heap := hh.push { cls := .type "tuple", data := .seq (as.map Value.ref).toArray }, toks := tk } := by
  have l28 := pr2_len n hn
  have lk : as.length = (pk n).length := by unfold pk; rw [List.length_map]; exact hl
  have nS : hh.objs.size ∉ as := fun z => Nat.lt_irrefl _ (g.inside z)
  have nd : as.Nodup := g.up.imp fun h => Nat.ne_of_lt h
  have new : ∀ t ∈ as, H t = none := fun t ht => I.hok.fresh (Nat.le_of_lt (g.hi t ht))
  have newS : H hh.objs.size = none := I.hok.fresh hle
  have atP := LiI.putT_at as (pk n) (upd H hh.objs.size (.tup (as.map V.ref))) lk nd
  have off : ∀ b, b ∉ as → b ≠ hh.objs.size → LiI.putT (upd H hh.objs.size (.tup (as.map V.ref))) as (pk n) b = H b := fun b h1 h2 => by
    rw [LiI.putT_off as (pk n) _ h1, upd_ne h2]
  have low : ∀ b o, s.heap.get? b = some o → b ∉ as ∧ b ≠ hh.objs.size := fun b o e => by
    have lt := Heap.lt_size e
    exact ⟨fun z => absurd (g.hi b z) (Nat.not_lt.mpr (Nat.le_of_lt lt)), Nat.ne_of_lt (Nat.lt_of_lt_of_le lt hle)⟩
  have kp : ∀ b u, H b = some u → LiI.putT (upd H hh.objs.size (.tup (as.map V.ref))) as (pk n) b = some u := fun b u e => by
    rw [off b (fun z => by rw [new b z] at e; cases e) (fun z => by rw [z, newS] at e; cases e)]
    exact e
  have eS : LiI.putT (upd H hh.objs.size (.tup (as.map V.ref))) as (pk n) hh.objs.size = some (.tup (as.map V.ref)) := by
    rw [LiI.putT_off as (pk n) _ nS, upd_same]
  have kh : ∀ b o, b ≠ it → s.heap.get? b = some o → (hh.push { cls := .type "tuple", data := .seq (as.map Value.ref).toArray }).get? b = some o := fun b o hb e => Heap.get?_push_of_some _ (keep b o hb e)
  refine ⟨LiI.putT (upd H hh.objs.size (.tup (as.map V.ref))) as (pk n), kp, newS, new, nS, eS, atP, ?_⟩
  obtain ⟨f0, f1, f2, f3, f4, f5⟩ := hf
  refine I.call' (ch := [it]) rfl ⟨fun b o q _ _ hx => kh b o (by simpa using hx) q, fun b o q _ _ hx => ⟨o.slots, kh b o (by simpa using hx) q⟩, fun b o q z _ => ?_, fun b o q hx => ⟨o, kh b o (by simpa using hx) q⟩, fun b xs q => kp b _ q, fun b o u q => kp b _ q, fun b ps q => ⟨#[], by rw [kp b _ q]; simp⟩⟩ (fun b u q => ?_) I.bare fun b z => ?_
  · obtain ⟨z1, z2⟩ := low b o q
    rw [off b z1 z2]
    exact z
  · by_cases hb : b ∈ as
    · obtain ⟨j, kx, e1, e2, e3⟩ := LiI.paired_ix atP hb
      rw [e3] at q
      cases q
      obtain ⟨p, u, v, p1, p2, p3, p4⟩ := g.at_ j b e1
      rw [pk_at p1] at e2
      cases e2
      exact ⟨(by show 2 ≤ sizeLine; rw [sizeLine_eq]; omega), [u, v], .cons (hI _ _ p2) (.cons (hI _ _ p3) .nil), ⟨_, Heap.get?_push_of_some _ p4, rfl, _, rfl⟩⟩
    · by_cases hb2 : b = hh.objs.size
      · rw [hb2] at q ⊢
        rw [eS] at q
        cases q
        exact ⟨by rw [List.length_map, hl, sizeLine_eq]; omega, as.map Value.ref, LiI.vals_refs as, ⟨_, Heap.get?_push_size _ rfl, rfl, _, rfl⟩⟩
      · rw [off b hb hb2] at q
        have nit : ∀ b u, H b = some u → b ≠ it := fun b u e z => by rw [z, f0] at e; cases e
        refine (I.hok b u q).stay (fun c v hc y => kh c v ?_ y) (fun c y => kp c _ y) fun c xs y => kp c _ y
        rcases hc with z | z
        · rw [z]; exact nit b u q
        · exact nit c _ z
  · have e : b = it := by simpa using z
    subst e
    exact ⟨f3, f1, f4, f5⟩
/-- tuple(combinations(range(n), 2)) -/
def tComb2 (te : L2.St → Hp → (Int → Int → Hp → Prop) → Prop) : TE := fun σ H Q => te σ H fun a b H1 => a = 0 ∧ 0 ≤ b ∧ b ≤ 8 ∧
  ∀ (H' : Hp) (p : Addr) (ts : List Addr), (∀ b o, H1 b = some o → H' b = some o) → H1 p = none → (∀ t ∈ ts, H1 t = none) → p ∉ ts → H' p = some (.tup (ts.map V.ref)) → Paired (fun (t : Addr) (q : Key × V) => H' t = some (.tup [kV q.1, q.2])) ts (pk b.toNat) → Q (.ref p) H'
theorem pe_comb2 {e : Expr} {te : L2.St → Hp → (Int → Int → Hp → Prop) → Prop} {x : Str} {p p2 p3 pos pos2 : Pos} {j : Nat} (hc : X.calm = true) (hg : Gl X "tuple") (hm : X.mg "tuple" = none) (hg2 : Gl X x) (hm2 : X.mg x = some (.type "itertools.combinations")) (he : PRg X e te)
    (hd : (x == ("__debug__" : Str)) = false := by decide)
    (hs : starEach [e, .Constant (.int 2) j p3] X.env = (false, eval e X.env) :: starEach [.Constant (.int 2) j p3] X.env := by rfl)
    (hs1 : starEach [.Constant (.int 2) j p3] X.env = (false, eval (.Constant (.int 2) j p3) X.env) :: starEach [] X.env := by rfl)
    (hp1 : (backTo pos2 (starEach [.Constant (.int 2) j p3] X.env)).any (·.1) = false := by rfl)
    (hs2 : starEach [.Call (.Name x p2) [e, .Constant (.int 2) j p3] [] pos2] X.env = (false, eval (.Call (.Name x p2) [e, .Constant (.int 2) j p3] [] pos2) X.env) :: starEach [] X.env := by rfl) :
    PE X (.Call (.Name "tuple" p) [.Call (.Name x p2) [e, .Constant (.int 2) j p3] [] pos2] [] pos) (tComb2 te) := by
  refine ⟨fun pins s σ H Q I h => ?_⟩
  refine Call_ (ld_blt I hg hm boot_tuple (PyProof.Rows.callWith_type1 (args_cons (Call_ (ld_glob I hg2 hm2 (PyProof.Rows.callWith_type1 (args_cons (thn (he pins s σ H _ I h) fun z s1 ⟨r, a, b, t, u, v, H1, ex, hr, I1, q⟩ => args_cons (wpAny_Constant_int (args_nil ?_)) hs1) hs) hs hp1) hd)) hs2) hs2 rfl))
  obtain ⟨rfl, hb0, hb8, q⟩ := q
  subst ex
  have hnat : ((b.toNat : Nat) : Int) = b := Int.toNat_of_nonneg hb0
  refine call_cb (n := b.toNat) (I1.ok.hd hc) hr (small_one (by decide) (by decide) (by omega) (by omega)) (by rw [rangeSize_nat]; simp) (by omega) fun h' tk acc keep hi => args_nil ?_
  have Ia : Inv X pins σ H1 { s1 with heap := h'.push { cls := .type "tuple", data := .seq acc }, toks := tk } := I1.kept fun c o e => Heap.get?_push_of_some _ (keep c o e)
  have hf := Ia.fpOk (H' := H1) (Nat.le_refl _) (Ia.hok.fresh (Nat.le_refl _))
  have ei : (h'.push { cls := .type "tuple", data := .seq acc }).objs.size = h'.objs.size + 1 := Heap.size_push ..
  have Ib : Inv X pins σ H1 { s1 with heap := (h'.push { cls := .type "tuple", data := .seq acc }).push { cls := .type "itertools.combinations", data := cbData h'.objs.size (if 2 > b.toNat then 2 else 0) .none 0 1 }, toks := tk } := Ia.kept (t' := tk) fun c o e => Heap.get?_push_of_some _ e
  change FpOk X pins H1 (h'.push { cls := .type "tuple", data := .seq acc }).objs.size at hf
  rw [ei] at hf
  have gIt : ((h'.push { cls := .type "tuple", data := .seq acc }).push { cls := .type "itertools.combinations", data := cbData h'.objs.size (if 2 > b.toNat then 2 else 0) .none 0 1 }).get? (h'.objs.size + 1) = some { cls := .type "itertools.combinations", data := cbData h'.objs.size (if 2 > b.toNat then 2 else 0) .none 0 1 } := by
    rw [← ei]
    exact Heap.get?_push_size _ rfl
  have st : CbSt ((h'.push { cls := .type "tuple", data := .seq acc }).push { cls := .type "itertools.combinations", data := cbData h'.objs.size (if 2 > b.toNat then 2 else 0) .none 0 1 }) (h'.objs.size + 1) h'.objs.size b.toNat 0 := by
    by_cases c : b.toNat < 2
    · exact .inl ⟨c, .none, 0, 1, _, gIt, rfl, by show cbData _ (if 2 > b.toNat then 2 else 0) _ _ _ = _; rw [if_pos c]⟩
    · exact .inr ⟨by omega, .inl ⟨rfl, .none, _, gIt, rfl, by show cbData _ (if 2 > b.toNat then 2 else 0) _ _ _ = _; rw [if_neg c]⟩⟩
  have ht : ((h'.push { cls := .type "tuple", data := .seq acc }).push { cls := .type "itertools.combinations", data := cbData h'.objs.size (if 2 > b.toNat then 2 else 0) .none 0 1 }).IsTuple h'.objs.size acc := ⟨_, Heap.get?_push_of_some _ (Heap.get?_push_size _ rfl), rfl, _, rfl⟩
  refine call_tuple_cb (s := { s1 with heap := (h'.push { cls := .type "tuple", data := .seq acc }).push { cls := .type "itertools.combinations", data := cbData h'.objs.size (if 2 > b.toNat then 2 else 0) .none 0 1 }, toks := tk }) (n := b.toNat) (items := acc) (by omega) hi.1 (I1.ok.hd hc) st ht (Nat.ne_of_lt (Nat.lt_succ_self _)) fun h2 tk2 as keep2 hl g lt2 => ?_
  have hle : ((h'.push { cls := .type "tuple", data := .seq acc }).push { cls := .type "itertools.combinations", data := cbData h'.objs.size (if 2 > b.toNat then 2 else 0) .none 0 1 }).objs.size ≤ h2.objs.size := by
    exact Nat.le_of_lt lt2
  have hI : ∀ (i : Nat) (u : Value), acc[i]? = some u → RelV (.int (i : Int)) u := fun i u hu => by
    obtain ⟨t, e⟩ := hi.2 i u hu
    rw [e]
    exact ⟨t, by simp⟩
  obtain ⟨H', k1, k2, k3, k4, k5, k6, J⟩ := laid (tk := tk2) Ib hf keep2 (by omega) hl hI g hle
  exact ⟨.ref _, H', J, rfl, q H' _ as k1 k2 k3 k4 k5 k6⟩
end
end VC
end

section
set_option Elab.async false
set_option linter.all false
set_option maxRecDepth 100000
set_option maxHeartbeats 1000000
namespace VS
open PySem PySem.Spec PyProof.Rows L2
/-! ## tuple(combinations(range(n), 2)) -/
def pairD (q : Nat × Nat) : D := .tup [.int (q.1 : Int), .int (q.2 : Int)]
def mComb2 (f : E D) : E D := fun env ρ => (f env ρ).bind fun x => match x.1 with
  | .int b => if 0 ≤ b ∧ b ≤ 8 then some (.tup ((VC.pr2 b.toNat).map pairD), x.2) else none
  | _ => none
theorem pairs_at {K : PySem.W.Frag} {S : Fp} {H : Hp} : ∀ {ts : List Addr} {ps : List (Nat × Nat)}, Paired (fun (t : Addr) (q : Key × V) => H t = some (.tup [kV q.1, q.2])) ts (ps.map fun q => (.inl (q.1 : Int), .int (q.2 : Int))) → Ats K S H (ts.map V.ref) (ps.map pairD)
  | [], [], _ => .nil
  | [], _ :: _, h => by cases h
  | _ :: _, [], h => by cases h
  | t :: ts, q :: ps, h => by
    cases h with
    | cons h1 h2 => exact .cons (.tup h1 (.cons (.int _) (.cons (.int _) .nil))) (pairs_at h2)
section
variable {X : Cx} {pos : Pos}
theorem m_comb2 {a : Expr} {fa : E D} {x : Str} {p p1 p2 p3 p4 pos2 : Pos} {j : Nat} (hc : X.calm = true) (hg : Gl X "tuple") (hm : X.mg "tuple" = none) (hgx : Gl X x) (hmx : X.mg x = some (.type "itertools.combinations")) (hgr : Gl X "range") (hmr : X.mg "range" = none) (ha : PM X a fa)
    (hd : (x == ("__debug__" : Str)) = false := by decide)
    (nb : starEach [a] X.env = (false, eval a X.env) :: starEach [] X.env := by rfl)
    (hs : starEach [.Call (.Name "range" p1) [a] [] p, .Constant (.int 2) j p3] X.env = (false, eval (.Call (.Name "range" p1) [a] [] p) X.env) :: starEach [.Constant (.int 2) j p3] X.env := by rfl)
    (hs1 : starEach [.Constant (.int 2) j p3] X.env = (false, eval (.Constant (.int 2) j p3) X.env) :: starEach [] X.env := by rfl)
    (hp1 : (backTo pos2 (starEach [.Constant (.int 2) j p3] X.env)).any (·.1) = false := by rfl)
    (hs2 : starEach [.Call (.Name x p2) [.Call (.Name "range" p1) [a] [] p, .Constant (.int 2) j p3] [] pos2] X.env = (false, eval (.Call (.Name x p2) [.Call (.Name "range" p1) [a] [] p, .Constant (.int 2) j p3] [] pos2) X.env) :: starEach [] X.env := by rfl) :
    PM X (.Call (.Name "tuple" p4) [.Call (.Name x p2) [.Call (.Name "range" p1) [a] [] p, .Constant (.int 2) j p3] [] pos2] [] pos) (mComb2 fa) :=
  ⟨fun F => PE.imp (VC.pe_comb2 hc hg hm hgx hmx (prg_1 hgr hmr (ha.pe F) nb) hd hs hs1 hp1 hs2) fun σ H Q ⟨env, ρ, d, ρ', r, hf, k⟩ => by
    unfold mComb2 at hf
    obtain ⟨⟨da, ρ1⟩, h1, hf⟩ := Option.bind_eq_some_iff.mp hf
    simp only at hf
    split at hf
    · rename_i b
      split at hf
      · rename_i hb
        cases hf
        refine ⟨env, ρ, _, _, r, h1, fun v H1 e1 w1 a1 => ?_⟩
        cases a1
        refine ⟨b, rfl, rfl, hb.1, hb.2, fun H' q ts kp hq hts hn hH pd => ?_⟩
        have s : Same H1 H' := kp
        exact k _ _ (e1.trans (Eff.of_same s)) (w1.same s) (.tup hH (pairs_at pd))
      · cases hf
    · cases hf⟩
end
end VS
end

section
set_option Elab.async false
set_option linter.all false
set_option maxRecDepth 100000
set_option maxHeartbeats 1000000
namespace VS
open PySem PySem.Spec PyProof.Rows L2

/-! ## sorted(..) of a set of nested tuples -/
mutual
/-- whole numbers and tuples of such -/
def pl : D → Bool
  | .int _ => true
  | .tup ds => pls ds
  | .non => false
  | .bl _ => false
  | .str _ => false
  | .lst _ => false
  | .dic _ => false
  | .st _ => false
def pls : List D → Bool
  | [] => true
  | d :: ds => pl d && pls ds
end
mutual
def unK : NestedKey → D
  | .none => .non
  | .num i => .int i
  | .text _ => .non
  | .tup ks => .tup (unKs ks)
def unKs : List NestedKey → List D
  | [] => []
  | k :: ks => unK k :: unKs ks
end
mutual
theorem unK_key : ∀ {d : D} {k : NestedKey}, pl d = true → keyN d = some k → unK k = d
  | .int i, k, _, h => by simp only [keyN, Option.some.injEq] at h; subst h; rfl
  | .tup ds, k, p, h => by
    simp only [keyN] at h
    obtain ⟨ks, hk, rfl⟩ := Option.map_eq_some_iff.mp h
    rw [unK, unKs_key (by simpa [pl] using p) hk]
  | .non, k, p, _ => by simp [pl] at p
  | .bl _, k, p, _ => by simp [pl] at p
  | .str _, k, p, _ => by simp [pl] at p
  | .lst _, k, p, _ => by simp [pl] at p
  | .dic _, k, p, _ => by simp [pl] at p
  | .st _, k, p, _ => by simp [pl] at p
theorem unKs_key : ∀ {ds : List D} {ks : List NestedKey}, pls ds = true → keysN ds = some ks → unKs ks = ds
  | [], ks, _, h => by simp only [keysN, Option.some.injEq] at h; subst h; rfl
  | d :: ds, ks, p, h => by
    simp only [pls, Bool.and_eq_true] at p
    simp only [keysN, Option.bind_eq_some_iff, Option.map_eq_some_iff] at h
    obtain ⟨k, hk, ks', hks, rfl⟩ := h
    rw [unKs, unK_key p.1 hk, unKs_key p.2 hks]
end
theorem unK_set {d : D} {k : NestedKey} (p : pl d = true) (h : setKey d = some k) : unK k = d := by
  unfold setKey at h
  split at h
  · obtain ⟨k', hk, h⟩ := Option.bind_eq_some_iff.mp h
    split at h
    · cases h; exact unK_key p hk
    · cases h
  · cases h
/-- d put into its place, once -/
def insUD (d : D) : List D → List D
  | [] => [d]
  | x :: l => if D.lt d x = true then d :: x :: l else if D.lt x d = true then x :: insUD d l else x :: l
def usortD (ds : List D) : List D := ds.foldl (fun l d => insUD d l) []
theorem mem_mid {d x y : D} {l : List D} (h : y ∈ x :: l) : y ∈ d :: x :: l := List.mem_cons_of_mem _ h
theorem mem_out {d x a : D} {l : List D} (h : a ∈ d :: l) : a ∈ d :: x :: l := by
  rcases List.mem_cons.mp h with e | h
  · rw [e]; exact List.mem_cons_self
  · exact List.mem_cons_of_mem _ (List.mem_cons_of_mem _ h)
theorem mem_pre {d a : D} {ds l : List D} (h : a ∈ d :: l) : a ∈ d :: ds ++ l := by
  rcases List.mem_cons.mp h with e | h
  · rw [e]; exact List.mem_append_left _ List.mem_cons_self
  · exact List.mem_append_right _ h
theorem mem_fold {d a : D} {ds l l' : List D} (me : ∀ y, y ∈ l' ↔ y = d ∨ y ∈ l) (h : a ∈ ds ++ l') : a ∈ d :: ds ++ l := by
  rcases List.mem_append.mp h with h | h
  · exact List.mem_append_left _ (List.mem_cons_of_mem _ h)
  · rcases (me a).mp h with e | h
    · rw [e]; exact List.mem_append_left _ List.mem_cons_self
    · exact List.mem_append_right _ h
theorem mem_insUD {d k : D} : ∀ {l : List D}, (∀ x ∈ l, D.ord x d = true) → (k ∈ insUD d l ↔ k = d ∨ k ∈ l)
  | [], _ => by simp [insUD]
  | x :: l, h => by
    unfold insUD
    split
    · simp
    · rename_i h1
      split
      · rw [List.mem_cons, List.mem_cons, mem_insUD fun y hy => h y (by simp [hy])]
        constructor
        · rintro (h | h | h)
          · exact .inr (.inl h)
          · exact .inl h
          · exact .inr (.inr h)
        · rintro (h | h | h)
          · exact .inr (.inl h)
          · exact .inl h
          · exact .inr (.inr h)
      · rename_i h2
        have e : x = d := le_anti (h x (by simp)) (by unfold D.le; simpa using h1) (by unfold D.le; simpa using h2)
        subst e
        simp
theorem insUD_up {d : D} : ∀ {l : List D}, OrdAll (d :: l) → l.Pairwise (fun a b => D.le a b = true) → l.Nodup → (insUD d l).Pairwise (fun a b => D.le a b = true) ∧ (insUD d l).Nodup
  | [], _, _, _ => by simp [insUD]
  | x :: l, o, h, nd => by
    obtain ⟨h1, h2⟩ := List.pairwise_cons.mp h
    obtain ⟨n1, n2⟩ := List.nodup_cons.mp nd
    have ox : ∀ y ∈ x :: l, D.ord y d = true := fun y hy => o y (by exact mem_mid hy) d (by simp)
    have oxy : ∀ y ∈ x :: l, D.ord d y = true := fun y hy => o d (by simp) y (by exact mem_mid hy)
    unfold insUD
    split
    · rename_i c
      have ldx : D.le d x = true := by
        rcases le_total (oxy x (by simp)) with z | z
        · exact z
        · exfalso
          unfold D.le at z
          rw [c] at z
          cases z
      have ld : ∀ y ∈ x :: l, D.le d y = true := fun y hy => by
        rcases List.mem_cons.mp hy with e | hy
        · rw [e]; exact ldx
        · exact le_trans (oxy x (by simp)) (o x (by simp) y (by simp [hy])) (oxy y (by simp [hy])) ldx (h1 y hy)
      refine ⟨List.pairwise_cons.mpr ⟨ld, h⟩, List.nodup_cons.mpr ⟨fun m => ?_, nd⟩⟩
      rcases List.mem_cons.mp m with e | m
      · subst e
        have := ldx
        unfold D.le at this
        rw [c] at this
        cases this
      · have e := le_anti (o x (by simp) d (by simp)) (h1 d m) ldx
        subst e
        have := ldx
        unfold D.le at this
        rw [c] at this
        cases this
    · rename_i c1
      split
      · rename_i c2
        have lxd : D.le x d = true := by unfold D.le; simpa using c1
        have ih := insUD_up (d := d) (l := l) (fun a ha b hb => o a (mem_out ha) b (mem_out hb)) h2 n2
        have me : ∀ y, y ∈ insUD d l ↔ y = d ∨ y ∈ l := fun y => mem_insUD fun z hz => ox z (by simp [hz])
        refine ⟨List.pairwise_cons.mpr ⟨fun y hy => ?_, ih.1⟩, List.nodup_cons.mpr ⟨fun m => ?_, ih.2⟩⟩
        · rcases (me y).mp hy with e | hy
          · rw [e]; exact lxd
          · exact h1 y hy
        · rcases (me x).mp m with e | m
          · subst e
            exact c1 c2
          · exact n1 m
      · exact ⟨h, nd⟩
theorem usortD_all : ∀ (ds l : List D), OrdAll (ds ++ l) → l.Pairwise (fun a b => D.le a b = true) → l.Nodup → (ds.foldl (fun l d => insUD d l) l).Pairwise (fun a b => D.le a b = true) ∧ (ds.foldl (fun l d => insUD d l) l).Nodup ∧ ∀ k, k ∈ ds.foldl (fun l d => insUD d l) l ↔ k ∈ ds ∨ k ∈ l
  | [], l, _, h, n => ⟨h, n, fun k => by simp⟩
  | d :: ds, l, o, h, n => by
    have me : ∀ y, y ∈ insUD d l ↔ y = d ∨ y ∈ l := fun y => mem_insUD fun z hz => o z (by simp [hz]) d (by simp)
    have u := insUD_up (d := d) (l := l) (fun a ha b hb => o a (by exact mem_pre ha) b (by exact mem_pre hb)) h n
    have ih := usortD_all ds (insUD d l) (fun a ha b hb => o a (mem_fold me ha) b (mem_fold me hb)) u.1 u.2
    refine ⟨ih.1, ih.2.1, fun k => ?_⟩
    rw [List.foldl_cons, ih.2.2 k, me]
    simp only [List.mem_cons]
    constructor
    · rintro (h | h | h)
      · exact .inl (.inr h)
      · exact .inl (.inl h)
      · exact .inr h
    · rintro ((h | h) | h)
      · exact .inr (.inl h)
      · exact .inl h
      · exact .inr (.inr h)
/-- what is asked of the members -/
def okU (ds : List D) : Bool := ds.all pl && (decide (ds.length ≤ 1000000) && ds.all (fun d => d.okN 50 && ds.all fun e => d.ord e) && ds.all (fun d => match d with | .tup (_ :: _) => true | _ => false))
theorem okU_sort {ds ws : List D} (h : okU ds = true) (hl : ws.length ≤ ds.length) (hw : ∀ w ∈ ws, w ∈ ds) : sortOk ws = true := by
  unfold okU at h
  unfold sortOk
  simp only [Bool.and_eq_true, Bool.or_eq_true, decide_eq_true_eq, List.all_eq_true] at h ⊢
  obtain ⟨_, ⟨h1, h2⟩, h3⟩ := h
  exact ⟨⟨by omega, fun d hd => ⟨(h2 d (hw d hd)).1, fun e he => (h2 d (hw d hd)).2 e (hw e he)⟩⟩, .inl fun d hd => h3 d (hw d hd)⟩
theorem perm_lift {α β : Type} {f : α → β} {xs ys : List β} (p : xs.Perm ys) : ∀ L : List α, ys = L.map f → ∃ L2 : List α, L2.Perm L ∧ xs = L2.map f := by
  induction p with
  | nil => intro L h; exact ⟨L, .refl _, h⟩
  | @cons x xs ys p ih =>
    intro L h
    cases L with
    | nil => cases h
    | cons a L =>
      rw [List.map_cons, List.cons.injEq] at h
      obtain ⟨L2, q, e⟩ := ih L h.2
      exact ⟨a :: L2, q.cons a, by rw [List.map_cons, h.1, e]⟩
  | swap x y l =>
    intro L h
    match L, h with
    | a :: b :: L, h =>
      simp only [List.map_cons, List.cons.injEq] at h
      exact ⟨b :: a :: L, .swap .., by simp only [List.map_cons]; rw [h.1, h.2.1, h.2.2]⟩
  | trans p q ih1 ih2 =>
    intro L h
    obtain ⟨L2, q2, e2⟩ := ih2 L h
    obtain ⟨L1, q1, e1⟩ := ih1 L2 e2
    exact ⟨L1, q1.trans q2, e1⟩
theorem ats_key {K : PySem.W.Frag} {S : Fp} {H : Hp} : ∀ {L : List (Addr × NestedKey)} {ds : List D}, Ats K S H (L.map fun p => V.ref p.1) ds → (ds.map setKey = L.map fun p => some p.2) → ds.all pl = true → ∀ p ∈ L, At K S H (.ref p.1) (unK p.2) ∧ unK p.2 ∈ ds
  | [], ds, _, _, _, p, hp => by cases hp
  | q :: L, ds, a, h, g, p, hp => by
    rw [List.map_cons] at a
    cases a with
    | @cons _ _ d ds a1 a2 =>
      simp only [List.map_cons, List.cons.injEq] at h
      simp only [List.all_cons, Bool.and_eq_true] at g
      rcases List.mem_cons.mp hp with e | hp
      · subst e
        rw [unK_set g.1 h.1]
        exact ⟨a1, by simp⟩
      · have z := ats_key a2 h.2 g.2 p hp
        exact ⟨z.1, List.mem_cons_of_mem _ z.2⟩
theorem list_ats {K : PySem.W.Frag} {S : Fp} {H : Hp} {f : Addr × NestedKey → V} {g : Addr × NestedKey → D} : ∀ {L : List (Addr × NestedKey)}, (∀ p ∈ L, At K S H (f p) (g p)) → Ats K S H (L.map f) (L.map g)
  | [], _ => .nil
  | p :: L, h => .cons (h p (by simp)) (list_ats fun q hq => h q (by simp [hq]))
theorem vals_refs : ∀ (L : List (Addr × NestedKey)), Vals (L.map fun p => V.ref p.1) (L.map fun p => Value.ref p.1)
  | [] => .nil
  | p :: L => .cons rfl (vals_refs L)
def rSortedK (X : Cx) : List V → Hp → VK → Prop := fun vs H Q => ∃ (a : Addr) (L L' : List (Addr × NestedKey)) (ds : List D), vs = [V.ref a] ∧ H a = some (KO (kitK X.prog X.w) a L) ∧ SubK L L' ∧ Ats X.K (fun _ => False) H (L'.map fun p => V.ref p.1) ds ∧ (ds.map setKey = L'.map fun p => some p.2) ∧ L.length ≤ ds.length ∧ okU ds = true ∧
  ∀ p xs, H p = none → Ats X.K (fun _ => False) H xs (usortD ds) → Q (.ref p) (upd H p (.lst xs))
theorem c_sortedK {X : Cx} (hc : X.calm = true) (hu : X.A.units + 64 < cLine) : CallR X (.builtin "sorted") (rSortedK X) := fun pins s σ H xs us Q I r ⟨a, L, L', ds, ev, ha, sb, at', ek, hlen, hok, k⟩ => by
  subst ev
  rw [Vals.ref1 r]
  have R : IsSetK (X.w.params.followText "set-order") s.heap a L := (I.hok a _ ha).1
  obtain ⟨es, ep, t, R⟩ := R
  have hplain : ds.all pl = true := by
    unfold okU at hok
    rw [Bool.and_eq_true] at hok
    exact hok.1
  have hord : OrdAll ds := (sortOk_spec (okU_sort hok (Nat.le_refl _) fun w hw => hw)).2.2.1
  obtain ⟨o, ho, hex, hd⟩ := R.ob
  have rows : es.toList.map (·.2) = L.map fun p => Value.ref p.1 := by
    rw [R.rows]
    unfold rowsK
    rw [List.map_map] <;> rfl
  refine sorted_by (fun K hK => collect_set (I.ok.hd hc) ⟨o, ho, hex.1, hd⟩ R.fits (by rw [R.size]; have := R.few; unfold scanBound; omega) R.tab.ris R.led fun s' out kp hsz hge hos pm => ?_) (by omega)
  rw [rows] at pm
  obtain ⟨L2, pL, eo⟩ := perm_lift pm L rfl
  subst eo
  have hin : ∀ p ∈ L2, At X.K (fun _ => False) H (.ref p.1) (unK p.2) ∧ unK p.2 ∈ ds := fun p hp => ats_key at' ek hplain p (sb.1 p (pL.mem_iff.mp hp))
  have a2 : Ats X.K (fun _ => False) H (L2.map fun p => V.ref p.1) (L2.map fun p => unK p.2) := list_ats fun p hp => (hin p hp).1
  have hsk : sortOk (L2.map fun p => unK p.2) = true := okU_sort hok (by rw [List.length_map, pL.length_eq]; exact hlen) fun w hw => by
    obtain ⟨p, hp, e⟩ := List.mem_map.mp hw
    rw [← e]
    exact (hin p hp).2
  obtain ⟨_, hpy, ho2, _⟩ := sortOk_spec hsk
  have hl : (L2.map fun p => V.ref p.1).length = (L2.map fun p => unK p.2).length := by simp
  have e2 : ((L2.map fun p => V.ref p.1).zip (L2.map fun p => unK p.2)).map Prod.snd = L2.map fun p => unK p.2 := List.map_snd_zip (by simp)
  have hfew : L2.length < 64 := by rw [pL.length_eq]; exact R.few
  refine hK _ _ ((L2.map fun p => V.ref p.1).zip (L2.map fun p => unK p.2)) (by rw [List.length_map]; exact Nat.le_trans (Nat.le_of_lt hfew) (by decide)) (each_rdv (vals_refs L2) hl) ?_ (by rw [e2]; exact hsk) fun out cs eo pm2 em hlo c h' hh' kp2 => ?_
  · refine (each_reads I a2 (vals_refs L2) fun d hd => (hpy d hd).imp fun p h => h.1).mono fun v b ⟨as, r⟩ => ⟨as, PyProof.Rows.Reads.keeps kp r⟩
  · have hn : H s'.heap.objs.size = none := I.hok.fresh hsz
    -- the order
    have nd : (L2.map fun p => unK p.2).Nodup := by
      have n1 : (L2.map (·.2)).Nodup := (pL.map (·.2)).nodup_iff.mpr R.nd
      have inj : ∀ p ∈ L2, ∀ q ∈ L2, unK p.2 = unK q.2 → p.2 = q.2 := fun p hp q hq e => by
        have key : ∀ p ∈ L2, setKey (unK p.2) = some p.2 := fun p hp => by
          have m : some p.2 ∈ ds.map setKey := by rw [ek]; exact List.mem_map.mpr ⟨p, sb.1 p (pL.mem_iff.mp hp), rfl⟩
          obtain ⟨z, hz, e⟩ := List.mem_map.mp m
          rw [unK_set (List.all_eq_true.mp hplain z hz) e]
          exact e
        have := key p hp
        rw [e, key q hq] at this
        exact (Option.some.inj this).symm
      rw [List.nodup_iff_pairwise_ne] at n1 ⊢
      rw [List.pairwise_map] at n1 ⊢
      exact n1.imp_of_mem fun {p q} hp hq n e => n (inj p hp q hq e)
    have uo := usortD_all ds [] (by rw [List.append_nil]; exact hord) .nil .nil
    have pz : (usortD ds).Perm (L2.map fun p => unK p.2) := (List.perm_ext_iff_of_nodup uo.2.1 nd).mpr fun d => by
      rw [uo.2.2 d]
      constructor
      · rintro (hd | hd)
        · obtain ⟨kk, hk⟩ : ∃ kk, setKey d = some kk := by
            have m : setKey d ∈ L'.map fun p => some p.2 := by rw [← ek]; exact List.mem_map.mpr ⟨d, hd, rfl⟩
            obtain ⟨p, _, e⟩ := List.mem_map.mp m
            exact ⟨_, e.symm⟩
          have m : some kk ∈ L'.map fun p => some p.2 := by rw [← ek, ← hk]; exact List.mem_map.mpr ⟨d, hd, rfl⟩
          obtain ⟨p, hp, e⟩ := List.mem_map.mp m
          obtain ⟨q, hq, e3⟩ := List.mem_map.mp (sb.2 p hp)
          refine List.mem_map.mpr ⟨q, pL.mem_iff.mpr hq, ?_⟩
          have e4 : q.2 = kk := e3.trans (Option.some.inj e)
          rw [e4]
          exact unK_set (List.all_eq_true.mp hplain d hd) hk
        · cases hd
      · intro hd
        obtain ⟨p, hp, e⟩ := List.mem_map.mp hd
        rw [← e]
        exact .inl (hin p hp).2
    have ei : isort (L2.map fun p => unK p.2) = usortD ds := isort_eq ho2 pz uo.1
    rw [e2, ei] at em
    have ac : Ats X.K (fun _ => False) H (cs.map Prod.fst) (usortD ds) := by
      rw [← em]
      exact zip_ats fun b hb => ats_zip a2 b (pm2.mem_iff.mp hb)
    have I1 := I.laid (h' := h') (o := .lst (cs.map Prod.fst)) (t' := s'.toks) (fun b o q => kp2 b o (kp b o q)) hsz ⟨by rw [List.length_map, ← eo.length]; exact hlo, out, c, rdv_vals eo, hh'⟩
    exact ⟨.ref _, upd H s'.heap.objs.size (.lst (cs.map Prod.fst)), ⟨I1.ok, hos.trans I1.os, (by rw [hge]; exact I1.bare), I1.base, I1.loc, I1.cell, I1.free, I1.freeC, I1.pin, I1.hok, I1.len⟩, rfl, k _ _ hn ac⟩
def mSortK (f : E (List D)) : E (List D) := fun env ρ => (f env ρ).bind fun x => if okU x.1 = true then some (usortD x.1, x.2) else none
theorem mf_sortedK {X : Cx} {e : Expr} {f : E (List D)} {p pos : Pos} (hc : X.calm = true) (hu : X.A.units + 64 < cLine) (hg : Gl X "sorted") (hm : X.mg "sorted" = none) (h : PMK X (kindK X hu) e f) (he : starEach [e] X.env = (false, eval e X.env) :: starEach [] X.env := by rfl) :
    PMF X (.Call (.Name "sorted" p) [e] [] pos) (mSortK f) :=
  ⟨fun F => PE.imp (pe_callB (c_sortedK hc hu) hg hm boot_sorted (pa_cons (h.pe F) pa_nil he) (by decide) (by decide) he rfl) fun σ H Q ⟨env, ρ, d, ρ', r, hf, k⟩ => by
    unfold mSortK at hf
    obtain ⟨⟨ds, ρ1⟩, hf2, hf⟩ := Option.bind_eq_some_iff.mp hf
    simp only at hf
    split at hf
    case isFalse => cases hf
    rename_i hok
    cases hf
    refine ⟨env, ρ, ds, _, r, hf2, fun p L H' ef w hn hp sr cn => ?_⟩
    obtain ⟨hle, L', sb, at', ek⟩ := cn
    refine ⟨p, L, L', ds, rfl, hp, sb, at', ek, hle, hok, fun p2 xs hp2 ac => ?_⟩
    have sm := same_new (o := .lst xs) hp2
    exact k p2 _ _ (ef.trans (Eff.of_same sm)) (w.same sm) (eff_new ef w hp2) upd_same (w.new hp2) ((ac.sub fun _ f => f.elim).kp (Kp.of_same sm))⟩
end VS
end

section
set_option Elab.async false
set_option linter.all false
set_option maxRecDepth 100000
set_option maxHeartbeats 1000000
namespace VS
open PySem PySem.Spec PyProof.Rows L2

/-! ## def f(a, b=None, **m) whose first row is b = m.get("..", b), called by position with all of a, b -/
structure KeepsR (P : Program) (w : World) (K : PySem.W.Frag) (mg : Str → Option Value) (base : Heap) (x : Str) (k : Nat) (g : List D → List D → Option (D × List D)) : Prop where
  ex : ∃ f, mg x = some (.ref f) ∧ PySem.W.keepIn K (.ref f) = true ∧ FnR P w K mg base CX0 k f (spM K false g)
structure DnR (K : PySem.W.Frag) (mg : Str → Option Value) (x : Str) (st : Stmt) (dvs : List V) : Prop where
  ex : ∃ f fd, mg x = some (.ref f) ∧ FunD K x x (defArgs st) (defBody st) (defScope st) dvs [] f fd
def tKwGet (n i : Nat) (key : Str) : TS := tAsg (tDGet2 (tVar n) (tC (.str key)) (tVar i)) (gName i)
section
variable {P : Program} {w : World} {K : PySem.W.Frag} {mg : Str → Option Value} {base : Heap}
theorem start_more {N : List Str} {vs : List V} {v : V} (h : vs.length < N.length) : L2.start N (vs ++ [v]) = (L2.start N vs).set vs.length (some v) := by
  unfold L2.start
  obtain ⟨m, hm⟩ : ∃ m, N.length - vs.length = m + 1 := ⟨N.length - vs.length - 1, by omega⟩
  have h2 : N.length - (vs ++ [v]).length = m := by rw [List.length_append]; show N.length - (vs.length + 1) = m; omega
  rw [h2, hm, List.map_append, List.replicate_succ, List.set_append_right _ _ (by simp)]
  simp
theorem fn_kwD {x qual : Str} {params : Arguments} {body rest : List Stmt} {first : Stmt} {scope : Scope} {dvs : List V} {kws : List (Str × V)} {f : Addr} {fd : FuncData} {N ps : List Str} {pd key : Str} {k i : Nat} {c : C} (F : FunD K x qual params body scope dvs kws f fd) (hd : dvs ≠ []) (S : FnScope N (ps ++ [pd]) scope) (hN : ps.length < N.length) (hbody : body = first :: rest) (hi : i < ps.length)
    (hb : ∀ (T : Addr) (kV doc pm : Value) (an : Option Addr) (cdv ct : Value) (us its : List Value), us.length = ps.length → its.length = dvs.length →
      ∃ kk, bindArgs (PySem.W.fnOf x qual params body scope (.ref T) kV doc pm an cdv ct) ⟨us, []⟩ = seqItems? (.ref T) >>= kk ∧ kk (some its.toArray) = ((alloc ({ cls := .type "dict", data := .dict #[] } : Obj) : Sem Addr) >>= fun d => pure (ps.zip us ++ [(pd, Value.ref d)])))
    (hs : ∀ (cdv : Value), PySem.W.codeIn K cdv qual = true → ∀ (A : Around) (outer : List Env) (s : Shared) (H : Hp) (E : XK), Room k (A.deeper (envOfC qual scope s.heap.objs.size f cdv)) →
      PS (cxOf CX0 P w K mg base N qual scope f cdv A outer s H E).nox first (tKwGet ps.length i key) ∧ PMSs (cxOf CX0 P w K mg base N qual scope f cdv A outer s H E).nox rest c) :
    FnR P w K mg base CX0 (k + 1) f (spM K false (gOf N.length ps.length false c)) := by
  subst hbody
  obtain ⟨oc, od, dV, kV, doc, pm, an, cdv, ct, osl, rfl, lk, hcd, hD, _⟩ := F.ex
  intro A outer s H us vs Q E hr e0 r hsp
  obtain ⟨R, G, ρ, ws, ds, d, ρ', hR, rfl, hrow, a, hg, hQ⟩ := hsp
  have hR : R = none := by cases R with
    | none => rfl
    | some _ => cases hR
  subst hR
  simp only [Option.map_none, Option.toList_none, List.nil_append] at r ⊢
  unfold gOf at hg
  split at hg
  case isFalse => cases hg
  rename_i hlen
  have hl : ws.length = ps.length := by rw [a.len, hlen]
  have hlu : us.length = ps.length := by rw [← r.length]; exact hl
  have hn : H s.heap.objs.size = Option.none := e0.hok.fresh (Nat.le_refl _)
  have KX : K.In s.heap := e0.mod.kin.keeps fun b o e => (e0.bs b o e).1
  refine StX.run_bnd lk hcd S hr e0 (G := fun xs H2 => ∃ p, H p = Option.none ∧ xs = ws ++ [V.ref p] ∧ H2 = upd H p (.dK [])) (fun A' Ex Q' h => ?_) fun s2 H2 xs ⟨p, hp, ex, eH⟩ hr' => ?_
  · rcases hD with ⟨e, _⟩ | ⟨_, T, o, its, n, rfl, lT, oT, rT⟩
    · exact absurd e hd
    · obtain ⟨kk, e1, e2⟩ := hb T kV doc pm an cdv ct us its hlu rT.length.symm
      rw [e1]
      refine wpAny_bind (wpAny_seqItems (KX _ _ lT) oT ?_)
      rw [e2]
      refine wpAny_bind (wpAny_alloc (wpAny_pure ?_))
      have e2 := StX.env0_laid (u := .dK []) (o := ({ cls := .type "dict", data := .dict #[] } : Obj)) e0 (dk_empty _ (StX.env0_big e0))
      have un := StX.un_laid (fs := frs outer) (s := s) (o := ({ cls := .type "dict", data := .dict #[] } : Obj)) (u := .dK []) hn
      have z := h _ _ (ws ++ [V.ref s.heap.objs.size]) (us ++ [Value.ref s.heap.objs.size]) e2 un rfl (fun e s' z => z) (r.append (.cons rfl .nil)) (by rw [List.length_append, List.length_append, hl] <;> rfl) ⟨_, hn, rfl, rfl⟩
      rw [List.zip_append hlu.symm] at z
      exact z
  · subst ex eH
    obtain ⟨q1, q2⟩ := hs cdv hcd A outer s2 (upd H p (.dK [])) E hr'
    refine ⟨_, (pss_cons q1 q2.ex).nox, ?_⟩
    have sm := same_new (o := .dK []) hp
    have hrow2 : RowIs K (fr none (upd H p (.dK [])) (fun _ => False)) (upd H p (.dK [])) ρ := ⟨fun r h => (by cases h), fun b h => (by cases h), fun b h => h.elim⟩
    have a2 : Ats K (fr none (upd H p (.dK [])) (fun _ => False)).SR (upd H p (.dK [])) ws ds := (a.kp (Kp.of_same sm)).sub fun b h => ⟨h.1, h.2⟩
    have r0 := rel_start (N := N) hrow2 a2 (by simp only [Option.isSome_none, Bool.false_eq_true, if_false]; omega)
    simp only [Option.map_none, Option.toList_none, List.nil_append, Option.isSome_none, Bool.false_eq_true, if_false, Nat.zero_add] at r0
    have r1 := r0.set ws.length (x := some (.ref p)) (s := .un) trivial rfl
    rw [← start_more (by omega)] at r1
    have eset : (List.map SV.dat ds ++ List.replicate (N.length - ds.length) SV.un).set ws.length SV.un = List.map SV.dat ds ++ List.replicate (N.length - ds.length) SV.un := by
      have e3 : ws.length = (List.map SV.dat ds).length := by rw [List.length_map, a.len]
      rw [List.set_append_right _ _ (by omega), e3, Nat.sub_self]
      obtain ⟨m, hm⟩ : ∃ m, N.length - ds.length = m + 1 := ⟨N.length - ds.length - 1, by omega⟩
      rw [hm, List.replicate_succ]
      rfl
    rw [eset] at r1
    have hwi : i < ws.length := by omega
    have gi : (L2.start N (ws ++ [V.ref p]))[i]? = some (some ws[i]) := by
      unfold L2.start
      rw [List.getElem?_append_left (by simp; omega), List.getElem?_map, List.getElem?_append_left hwi, List.getElem?_eq_getElem hwi] <;> rfl
    have gp : (L2.start N (ws ++ [V.ref p]))[ps.length]? = some (some (V.ref p)) := by
      unfold L2.start
      rw [List.getElem?_append_left (by simp; omega), List.getElem?_map, ← hl, List.getElem?_append_right (Nat.le_refl _), Nat.sub_self] <;> rfl
    have gset : (L2.start N (ws ++ [V.ref p])).set i (some ws[i]) = L2.start N (ws ++ [V.ref p]) := by
      refine List.ext_getElem? fun j => ?_
      rw [List.getElem?_set]
      split
      · rename_i e
        subst e
        split
        · exact gi.symm
        · rename_i hlt
          rw [List.getElem?_eq_none (by omega)] at gi
          cases gi
      · rfl
    refine ⟨_, gp, p, rfl, .inl ⟨[], .inl upd_same⟩, _, gi, none, .inl ⟨[], .inr key, .inl upd_same, rfl, rfl⟩, ?_⟩
    show ∃ F', tS K F' c _ ((L2.start N (ws ++ [V.ref p])).set i (some ws[i])) _
    rw [gset]
    simp only [Bool.false_eq_true, if_false, List.nil_append, Nat.zero_add] at hg
    have up : ∀ b o, H b = some o → (upd H p (.dK [])) b = some o := fun b o h => sm b o h
    split at hg
    · rename_i d' env1 ρ1 hc
      cases hg
      rw [← hlen] at hc
      exact ⟨_, _, ρ, _, _, _, r1, hc, fun v H' t ret => hQ v H' (fun b o h n => ret.base b o (up b o h) (by intro z; cases z)) ⟨fun r h => (by cases h), fun b h => (by cases h), hrow.2.2⟩ (by
        have := ret.val
        refine RetV.sub (fun b h => ?_) this
        have h1 : (upd H p (.dK [])) b = none := h.1
        cases q : H b with
        | none => rfl
        | some o => rw [up b o q] at h1; cases h1)⟩
    · rename_i env1 ρ1 hc
      cases hg
      rw [← hlen] at hc
      exact ⟨_, _, ρ, _, _, _, r1, hc, fun σ' H' t r' => hQ _ H' (fun b o h n => r'.base b o (up b o h) (by intro z; cases z)) ⟨fun r h => (by cases h), fun b h => (by cases h), hrow.2.2⟩ (RetV.imm rfl .non)⟩
    · cases hg
theorem DnR.keeps {x : Str} {st : Stmt} {first : Stmt} {rest : List Stmt} {dvs : List V} {N ps : List Str} {pd key : Str} {k i : Nat} {c : C} (d : DnR K mg x st dvs) (hd : dvs ≠ []) (S : FnScope N (ps ++ [pd]) (defScope st)) (hN : ps.length < N.length) (hbody : defBody st = first :: rest) (hi : i < ps.length)
    (hb : ∀ (T : Addr) (kV doc pm : Value) (an : Option Addr) (cdv ct : Value) (us its : List Value), us.length = ps.length → its.length = dvs.length →
      ∃ kk, bindArgs (PySem.W.fnOf x x (defArgs st) (defBody st) (defScope st) (.ref T) kV doc pm an cdv ct) ⟨us, []⟩ = seqItems? (.ref T) >>= kk ∧ kk (some its.toArray) = ((alloc ({ cls := .type "dict", data := .dict #[] } : Obj) : Sem Addr) >>= fun d => pure (ps.zip us ++ [(pd, Value.ref d)])))
    (hs : ∀ (f : Addr) (cdv : Value), PySem.W.codeIn K cdv x = true → ∀ (A : Around) (outer : List Env) (s : Shared) (H : Hp) (E : XK), Room k (A.deeper (envOfC x (defScope st) s.heap.objs.size f cdv)) →
      PS (cxOf CX0 P w K mg base N x (defScope st) f cdv A outer s H E).nox first (tKwGet ps.length i key) ∧ PMSs (cxOf CX0 P w K mg base N x (defScope st) f cdv A outer s H E).nox rest c) :
    KeepsR P w K mg base x (k + 1) (gOf N.length ps.length false c) := by
  obtain ⟨f, fd, hm, F⟩ := d.ex
  exact ⟨f, hm, F.kp, fn_kwD F hd S hN hbody hi hb fun cdv hcd A outer s H E hr => hs f cdv hcd A outer s H E hr⟩
end
section
variable {X : Cx} {x : Str} {j k : Nat} {e : Expr} {es : List Expr} {p pos : Pos} {g : List D → List D → Option (D × List D)} {fa : E (List D)}
theorem kcP (Fn : KeepsR X.prog X.w X.K X.mg X.base x j g) (hr : Room k X.A) (hjk : j ≤ k) (ha : PMA X (e :: es) fa) (hg : Gl X x := by rfl) (hdb : (x == ("__debug__" : Str)) = false := by decide) (he : starEach (e :: es) X.env = (false, eval e X.env) :: starEach es X.env := by rfl) (hpl : (backTo pos (starEach es X.env)).any (·.1) = false := by rfl) :
    PM X (.Call (.Name x p) (e :: es) [] pos) (mCall0 (g0 g) fa) := by
  obtain ⟨f, hm, hk, F⟩ := Fn.ex
  have pe : ∀ (E : XK) (_ : Passes CX0 X E) (t : TA), PA X (e :: es) t → PE X (.Call (.Name x p) (e :: es) [] pos) (fun σ H Q => t σ H fun vs H1 => spM X.K false g vs H1 Q E) := fun E hx t hp => by
    refine ⟨fun pins s σ H Q I h => ?_⟩
    refine wpAny_Call_Name_kw (ld_glob I hg hm ?_ hdb)
    refine PySem.W.callWith_K (h₀ := X.base) I.ok.mod.kin hk (thn (hp.run pos pins s σ H _ I h) fun us s1 ⟨vs, H1, I1, r, q⟩ => ⟨I1.kIn, ?_⟩) he hpl
    exact wpAny_call (run_fnR F (hr.mono hjk) hx I1 r q)
  refine ⟨fun F => PE.imp (pe _ pass0 _ (ha.pa F)) fun σ H Q ⟨env, ρ, d, ρ', r, hf, k⟩ => ?_⟩
  unfold mCall0 at hf
  obtain ⟨⟨ds, ρ1⟩, ha, hf⟩ := Option.bind_eq_some_iff.mp hf
  obtain ⟨z, hz, hf⟩ := Option.map_eq_some_iff.mp hf
  cases hf
  refine ⟨env, ρ, ds, _, r, ha, fun vs H1 e1 w1 a1 => ?_⟩
  exact call0_ok e1 w1 a1 hz fun v H' e2 w2 rv => k v H' (e1.trans e2) w2 ((rv.sub (sr_new w1)).at)
end
end VS
end

section
set_option Elab.async false
set_option linter.all false
set_option maxRecDepth 100000
set_option maxHeartbeats 1000000
namespace VS
open PySem PySem.Spec PyProof.Rows L2
section
variable {X : Cx}
/-- name = [.. for .. for ..], all in one row -/
theorem s_asgLc2 {i : Nat} {y : Str} {py : Pos} {elt tg iter tg1 iter1 : Expr} {ifs ifs1 : List Expr} {scope : Scope} {own : List (Str × Nat)} {own1 : List Nat} {pos spos : Pos} {it it1 : E (List D)} {g g1 : D → List SV → Option (List SV)} {ts ts1 : List Nat} {tt tt1 : E Bool} {el : E D} (hc : X.calm = true) (hN : X.N.Nodup) (hy : X.N[i]? = some y) (hyl : X.env.scope.names.lookup y = some .local)
    (hsw : swapsWith (.ListComp elt [⟨tg, iter, ifs, 0⟩, ⟨tg1, iter1, ifs1, 0⟩] scope pos) (some (.Name y py)) spos.line X.env = pure true) (hi : PMI X tg iter it) (ok : BlkOk X.N X.env.scope scope own) (hv : ∀ i ∈ own1, i ∈ own.map (·.2))
    (hg : ∀ (s : Shared) (H : Hp) (C : Addr) (cl : List (Str × Addr)) (fp : List Addr), PMG (X.blk s H scope (compEnvC scope cl C X.env) fp) tg g ts) (ht : ∀ (s : Shared) (H : Hp) (C : Addr) (cl : List (Str × Addr)) (fp : List Addr), PMTs (X.blk s H scope (compEnvC scope cl C X.env) fp) ifs tt)
    (hi1 : ∀ (s : Shared) (H : Hp) (C : Addr) (cl : List (Str × Addr)) (fp : List Addr), PMI (X.blk s H scope (compEnvC scope cl C X.env) fp) tg1 iter1 it1)
    (hg1 : ∀ (s : Shared) (H : Hp) (C : Addr) (cl : List (Str × Addr)) (fp : List Addr), PMG (X.blk s H scope (compEnvC scope cl C X.env) fp) tg1 g1 ts1) (ht1 : ∀ (s : Shared) (H : Hp) (C : Addr) (cl : List (Str × Addr)) (fp : List Addr), PMTs (X.blk s H scope (compEnvC scope cl C X.env) fp) ifs1 tt1)
    (he : ∀ (s : Shared) (H : Hp) (C : Addr) (cl : List (Str × Addr)) (fp : List Addr), PM (X.blk s H scope (compEnvC scope cl C X.env) fp) elt el) (hts : ∀ i ∈ ts, i ∈ own.map (·.2) := by decide) (hts1 : ∀ i ∈ ts1, i ∈ own1 := by decide) (hs : ∀ x, foldedSetIterable iter X.env x = pure x := by intro _; rfl) (hs1 : ∀ env x, foldedSetIterable iter1 env x = pure x := by intro _ _; rfl) :
    PMS X (.Assign [.Name y py] (.ListComp elt [⟨tg, iter, ifs, 0⟩, ⟨tg1, iter1, ifs1, 0⟩] scope pos) spos) (cAsg i (rL (mLc2 it (own.map (·.2)) g tt it1 own1 g1 tt1 el))) :=
  ⟨fun F => PS.imp (ps_setLc2 hc hN hy hyl hsw (hi.pi F) ok hv (fun s H C cl fp => (hg s H C cl fp).ex) (fun s H C cl fp => (ht s H C cl fp).ex) (fun s H C cl fp => (hi1 s H C cl fp).ex) (fun s H C cl fp => (hg1 s H C cl fp).ex) (fun s H C cl fp => (ht1 s H C cl fp).ex) (fun s H C cl fp => (he s H C cl fp).ex) hs hs1) fun D σ H ⟨env, ρ, o, env', ρ', r, hc, k⟩ => by
    unfold cAsg at hc
    obtain ⟨⟨s, ρ1⟩, ha, hc⟩ := Option.map_eq_some_iff.mp hc
    unfold rL at ha
    obtain ⟨⟨ds, ρ2⟩, hb, ha⟩ := Option.bind_eq_some_iff.mp ha
    split at ha
    · rename_i im
      cases ha; cases hc
      exact lc2_read hts hts1 ⟨env, ρ, ds, _, r, hb, fun p vs H' e w h0 h1 h2 a => k _ H' (r.row.tk e) (r.put (s := .lst ds) e w ⟨p, vs, rfl, h0, h1, h2, a, im⟩ i)⟩
    · cases ha⟩
/-- len(d), d a dict -/
def lenDD : List D → Option D
  | [.dic es] => some (.int es.length)
  | _ => none
theorem c_lenDic : CallR X (.builtin "len") (rDC X.K lenDD) := fun pins s σ H xs us Q I r ⟨S, ds, z, new, a, hg, k⟩ => by
  unfold lenDD at hg
  split at hg
  · cases a with
    | cons a b =>
      cases b
      cases a with
      | @dic a kvs es h hs q =>
        cases hg
        refine call_len_dT pins s σ H _ us Q I r ⟨a, kvs, rfl, h, ?_⟩
        rw [ents_len q]
        exact k _ H (Same.refl H) (.int _)
  · cases hg
end
end VS
end

section
set_option Elab.async false
set_option linter.all false
set_option maxRecDepth 100000
set_option maxHeartbeats 1000000
namespace PySem
open PySem.AutoSeq1
theorem list_addW (l : Addr) (items : Array Value) (n : Nat) (b : Addr) (items2 : Array Value) (n2 : Nat) (dd dd2 : Option Addr) (sl sl2 : Array (Option Value)) (hc0 : items.size + items2.size ≤ sizeLine) :
    Meets (Builtin.«list.__add__» ⟨[.ref l, .ref b], []⟩) (fun _ R s => s.heap.get? l = some { cls := .type "list", dict := dd, data := .seq items n, slots := sl } ∧ s.heap.get? b = some { cls := .type "list", dict := dd2, data := .seq items2 n2, slots := sl2 } ∧ R (.ok (.ret (Value.ref s.heap.objs.size))) { s with heap := s.heap.push { cls := Value.type "list", data := Data.seq (items ++ items2) }, toks := s.toks }) :=
  .of_wp fun prog w A R s h => by obtain ⟨hp, g, d, tk, os⟩ := s; obtain ⟨hl, hb, h⟩ := h; have f1 := idx_int; have f2 := sub_tuple_tuple; have f3 := sub_list_list; have f4 := sub_tuple_list; have f5 := sub_list_tuple; wp_walk using wpAny_loadPart' hl, wpAny_loadPart' hb; exact ⟨_, rfl, h⟩
end PySem
namespace VS
open PySem PySem.Spec PyProof.Rows L2
/-! ## lists joined that may hold lists: read, not owned -/
def rCatW (K : PySem.W.Frag) : R2 := fun x y H Q => ∃ l b xs zs, x = .ref l ∧ y = .ref b ∧ SqL K H l xs ∧ SqL K H b zs ∧ xs.length + zs.length ≤ sizeLine ∧ ∀ p, H p = none → Q (.ref p) (upd H p (.lst (xs ++ zs)))
section
variable {X : Cx}
theorem op_catW : OpR X (binaryOp .Add) (rCatW X.K) := by
  intro pins s σ H x y v u Q I rx ry h
  obtain ⟨l, b, xs, zs, rfl, rfl, hH, hB, hz, q⟩ := h
  cases rx
  cases ry
  obtain ⟨its, r, pl, hl⟩ := I.list hH
  obtain ⟨its2, r2, pl2, hl2⟩ := I.list hB
  obtain ⟨⟨cls, dd, data, sl⟩, n, ho, hc, hdd, hd⟩ := pl
  obtain ⟨⟨cls2, dd2, data2, sl2⟩, n2, ho2, hc2, hdd2, hd2⟩ := pl2
  simp only at hc hd hc2 hd2
  subst hc hd hc2 hd2
  have ea : its.toArray ++ its2.toArray = (its ++ its2).toArray := by simp
  have sz : its.toArray.size + its2.toArray.size ≤ sizeLine := by rw [List.size_toArray, List.size_toArray, ← r.length, ← r2.length]; exact hz
  refine concat_meets ⟨_, ho, rfl⟩ ⟨_, ho2, rfl⟩ noFill_list_add seq_list_add PySem.F.slot_list_add PySem.F.entry_list_add (PySem.F.args_list_add_2 _ _) (list_addW l its.toArray n b its2.toArray n2 dd dd2 sl sl2 sz) ⟨ho, ho2, ?_⟩
  rw [ea]
  exact ⟨.ref _, _, I.lnew (t' := s.toks) (r.append r2) (by rw [List.length_append]; omega), rfl, q _ (I.hok.fresh (Nat.le_refl _))⟩
def mCatW (a b : E D) : E (List D) := fun env ρ => (a env ρ).bind fun x => (b env x.2).bind fun y => match x.1, y.1 with
  | .lst ds, .lst es => if ds.length + es.length ≤ 1000000 then some (ds ++ es, y.2) else none
  | _, _ => none
theorem mf_catW {a b : Expr} {fa fb : E D} {pos : Pos} (ha : PM X a fa) (hb : PM X b fb) : PMF X (.BinOp a .Add b pos) (mCatW fa fb) :=
  ⟨fun F => PE.imp (pe_op op_catW (ha.pe F) (hb.pe F)) fun σ H Q ⟨env, ρ, d, ρ', r, hf, k⟩ => by
    unfold mCatW at hf
    obtain ⟨⟨da, ρ1⟩, ha, hf⟩ := Option.bind_eq_some_iff.mp hf
    obtain ⟨⟨db, ρ2⟩, hb, hf⟩ := Option.bind_eq_some_iff.mp hf
    simp only at hf
    split at hf
    case h_2 => cases hf
    rename_i ds es
    split at hf
    case isFalse => cases hf
    rename_i hl
    cases hf
    refine ⟨env, ρ, _, ρ1, r, ha, fun v H1 e1 w1 a1 => ⟨env, ρ1, _, _, r.eff e1 w1, hb, fun u H2 e2 w2 a2 => ?_⟩⟩
    have a1' := a1.kp (w1.kp e2)
    cases a1' with
    | @lst p vs _ h1 q1 =>
      cases a2 with
      | @lst p2 us _ h2 q2 =>
        refine ⟨p, p2, vs, us, rfl, rfl, h1.sq, h2.sq, by rw [q1.len, q2.len]; exact big hl, fun t ht => ?_⟩
        have sm := same_new (o := .lst (vs ++ us)) ht
        exact k t _ _ ((e1.trans e2).trans (Eff.of_same sm)) (w2.same sm) (eff_new (e1.trans e2) w2 ht) upd_same (w2.new ht) ((q1.app q2).kp (Kp.of_same sm))⟩
end
end VS
end

section
set_option Elab.async false
set_option linter.all false
set_option maxRecDepth 100000
set_option maxHeartbeats 1000000
namespace VS
open PySem PySem.Spec PyProof.Rows L2
/-! ## a tuple, once or more -/
theorem tuple_mul1 (l : Addr) (items : Array Value) (n : Nat) (dd : Option Addr) (sl : Array (Option Value)) (u : Tok) :
    Meets (Builtin.«tuple.__mul__» ⟨[.ref l, .int 1 u], []⟩) (fun _ R s => s.heap.get? l = some { cls := .type "tuple", dict := dd, data := .seq items n, slots := sl } ∧ R (.ok (.ret (Value.ref l))) s) :=
  .of_wp fun prog w A R s h => by
    obtain ⟨hp, g, d, tk, os⟩ := s
    obtain ⟨hl, h⟩ := h
    have f1 := AutoSeq1.idx_int
    have c0 : (decide ((1 : Int) < -(2 ^ 63)) || decide ((1 : Int) ≥ 2 ^ 63)) = false := by decide
    have c1 : (items.isEmpty || (1 : Int) == 1) = true := by simp
    wp_walk using wpAny_loadPart' hl
    repeat (first
      | (refine wpAny_ite_false (decide_eq_false (by rw [c0]; exact Bool.false_ne_true)) ?_; wp_walk using wpAny_loadPart' hl)
      | (refine wpAny_ite_true (decide_eq_true (by rw [c1])) ?_; wp_walk using wpAny_loadPart' hl))
    exact ⟨_, rfl, h⟩
section
variable {X : Cx}
def rOneT (K : PySem.W.Frag) : R2 := fun x y H Q => ∃ l xs, x = .ref l ∧ y = .int 1 ∧ SqT K H l xs ∧ Q (.ref l) H
theorem op_oneT : OpR X (binaryOp .Mult) (rOneT X.K) := by
  intro pins s σ H x y v u Q I rx ry h
  obtain ⟨l, xs, rfl, rfl, hT, q⟩ := h
  cases rx
  obtain ⟨t, rfl⟩ := ry
  obtain ⟨its, r, ⟨⟨cls, dd, data, sl⟩, ho, hc, n, hd⟩, hs⟩ := I.tuple hT
  simp only at hc hd
  subst hc hd
  refine wpAny_binaryOp_repeat_ref (T := "tuple") (U := "int") (by decide) ⟨_, ho, rfl⟩ (fun s' => typeIs_int s' 1 t) noFill_tuple_mul F.fills_int_mul F.slot_int_rmul repeat_tuple F.slot_int_index.lookup
    (call_meets F.slot_int_rmul (typeIs_int s 1 t) F.entry_int_rmul (F.args_int_rmul_2 _ _) (int_rmul_tuple 1 t l its.toArray n dd sl)
      ⟨ho, rfl, ⟨_, ho, rfl⟩, call_meets F.slot_tuple_mul ⟨_, ho, rfl⟩ F.entry_tuple_mul (F.args_tuple_mul_2 _ _) (tuple_mul1 l its.toArray n dd sl t) ⟨ho, ?_⟩⟩)
  exact ⟨.ref l, H, I, rfl, q⟩
def mulT : D → D → Option D
  | .tup ds, .int k => if 1 ≤ k ∧ k ≤ 1000 ∧ ds.length ≤ 1000 ∧ ds.isEmpty = false then some (.tup (List.replicate k.toNat ds).flatten) else none
  | _, _ => none
theorem o_mulT : OpR X (binaryOp .Mult) (rD X.K mulT) := fun pins s σ H x y v u Q I rx ry ⟨S, d, e, z, new, ad, ae, hg, k⟩ => by
  unfold mulT at hg
  split at hg
  · rename_i ds j
    split at hg
    · rename_i hl
      obtain ⟨h1, h2, h3, h4⟩ := hl
      cases hg
      cases ae
      cases ad with
      | @tup a vs _ ha q1 =>
        by_cases e1 : j = 1
        · subst e1
          refine op_oneT pins s σ H _ _ v u Q I rx ry ⟨a, vs, rfl, rfl, .of ha, ?_⟩
          have e2 : (List.replicate (1 : Int).toNat ds).flatten = ds := by simp
          rw [e2] at k
          exact k _ H (Same.refl H) (.tup ha q1)
        · have ne : vs ≠ [] := fun e => by
            subst e
            cases q1
            cases h4
          refine op_repT pins s σ H _ _ v u Q I rx ry ⟨a, j, vs, rfl, rfl, .of ha, ne, by omega, h2, by rw [q1.len]; exact h3, fun p hp => ?_⟩
          exact k _ _ (same_new hp) (.tup upd_same ((Ats.rep q1 j.toNat).kp (Kp.of_same (same_new hp))))
    · cases hg
  · cases hg
end
end VS
end

section
set_option Elab.async false
set_option linter.all false
set_option maxRecDepth 100000
namespace MM
open VS
/-! ### is_number -/
def c_is_number : C := (cSeq (cIf (mOr (mTest (mUn (isiD "bool") (mVar 0))) (mNot (mTest (mUn (isiD "int") (mVar 0))))) (cRet (rDt (mC (.bl false)))) cNil)
  (cRet (rDt (mChain leD leD (mVar 1) (mVar 0) (mVar 2)))))
def g_is_number : List D → List D → Option (D × List D) := gOf 3 3 false (c_is_number)
/-! ### is_hall -/
def c_is_hall : C := (cRet (rDt (mCall0 (g0 g_is_number) (mCons (mVar 1) (mCons (mC (.int 0)) (mCons (mOp subD (mVar 0) (mC (.int 1))) mNil))))))
def g_is_hall : List D → List D → Option (D × List D) := gOf 2 2 false (c_is_hall)
/-! ### is_tuple_of_halls -/
def c_is_tuple_of_halls : C := (cRet (rDt (mAndV (mUn (isiD "tuple") (mVar 1)) (mCall allD (mCons (mLst (mLc (mSeq (mVar 1)) [2] (gN 2) mYes (mCall0 (g0 g_is_hall) (mCons (mVar 0) (mCons (mVar 2) mNil))))) mNil)))))
def g_is_tuple_of_halls : List D → List D → Option (D × List D) := gOf 3 2 false (c_is_tuple_of_halls)
/-! ### is_map -/
def c_is_map : C := (cRet (rDt (mAndV (mCall0 (g0 g_is_tuple_of_halls) (mCons (mVar 0) (mCons (mVar 1) mNil))) (mOp eqD (mCall lenD (mCons (mVar 1) mNil)) (mVar 0)))))
def g_is_map : List D → List D → Option (D × List D) := gOf 2 2 false (c_is_map)
/-! ### are_maps -/
def c_are_maps : C := (cSeq (cIf (mOr (mNot (mTest (mUn (isiD "tuple") (mVar 1)))) (mNot (mTest (mChain leD leD (mC (.int 1)) (mCall lenD (mCons (mVar 1) mNil)) (mC (.int 6)))))) (cRet (rDt (mC (.bl false)))) cNil)
  (cRet (rDt (mCall allD (mCons (mLst (mLc (mSeq (mVar 1)) [2] (gN 2) mYes (mCall0 (g0 g_is_map) (mCons (mVar 0) (mCons (mVar 2) mNil))))) mNil)))))
def g_are_maps : List D → List D → Option (D × List D) := gOf 3 2 false (c_are_maps)
/-! ### is_ascending -/
def c_is_ascending : C := (cRet (rDt (mCall allD (mCons (mLst (mLc (mZip (mVar 0) (mCutT (mVar 0) (mPart (mC (.int 1))) mNoPart)) [1, 2] (gT 2 (gsCons (gN 1) (gsCons (gN 2) gsNil))) mYes (mOp ltA (mVar 1) (mVar 2)))) mNil))))
def g_is_ascending : List D → List D → Option (D × List D) := gOf 3 1 false (c_is_ascending)
/-! ### is_lot -/
def c_is_lot : C := (cRet (rDt (mAndV (mCall0 (g0 g_is_tuple_of_halls) (mCons (mVar 0) (mCons (mVar 1) mNil))) (mAndV (mOp gtD (mCall lenD (mCons (mVar 1) mNil)) (mC (.int 0))) (mCall0 (g0 g_is_ascending) (mCons (mVar 1) mNil))))))
def g_is_lot : List D → List D → Option (D × List D) := gOf 2 2 false (c_is_lot)
/-! ### is_tie -/
def c_is_tie : C := (cRet (rDt (mAndV (mCall0 (g0 g_is_lot) (mCons (mVar 0) (mCons (mVar 1) mNil))) (mOp eqD (mCall lenD (mCons (mVar 1) mNil)) (mC (.int 2))))))
def g_is_tie : List D → List D → Option (D × List D) := gOf 2 2 false (c_is_tie)
/-! ### is_net -/
def c_is_net : C := (cSeq (cIf (mOr (mNot (mTest (mUn (isiD "tuple") (mVar 1)))) (mNot (mTest (mCall allD (mCons (mLst (mLc (mSeq (mVar 1)) [2] (gN 2) mYes (mCall0 (g0 g_is_tie) (mCons (mVar 0) (mCons (mVar 2) mNil))))) mNil))))) (cRet (rDt (mC (.bl false)))) cNil)
  (cRet (rDt (mCall0 (g0 g_is_ascending) (mCons (mVar 1) mNil)))))
def g_is_net : List D → List D → Option (D × List D) := gOf 3 2 false (c_is_net)
/-! ### house_fault -/
def c_house_fault : C := (cSeq (cIf (mOr (mNot (mTest (mUn (isiD "tuple") (mVar 0)))) (mTest (mOp neD (mCall lenD (mCons (mVar 0) mNil)) (mC (.int 2))))) (cRet (rDt (mC (.str "whole")))) cNil)
  (cSeq (cUnpV 0 (gT 2 (gsCons (gD 1) (gsCons (gD 2) gsNil))))
  (cSeq (cIf (mNot (mTest (mCall0 (g0 g_is_number) (mCons (mVar 1) (mCons (mC (.int 1)) (mCons (mC (.int 8)) mNil)))))) (cRet (rDt (mC (.str "halls")))) cNil)
  (cSeq (cIf (mNot (mTest (mCall0 (g0 g_are_maps) (mCons (mVar 1) (mCons (mVar 2) mNil))))) (cRet (rDt (mC (.str "maps")))) cNil)
  (cRet (rDt (mC .non)))))))
def g_house_fault : List D → List D → Option (D × List D) := gOf 3 1 false (c_house_fault)
/-! ### check_house -/
def c_check_house : C := (cSeq (cAsg 1 (rDt (mCall0 (g0 g_house_fault) (mCons (mVar 0) mNil))))
  (cIf (mTest (mOp isNotD (mVar 1) (mC .non))) cNever cNil))
def g_check_house : List D → List D → Option (D × List D) := gOf 2 1 false (c_check_house)
/-! ### check_number_of_halls -/
def c_check_number_of_halls : C := (cIf (mNot (mTest (mCall0 (g0 g_is_number) (mCons (mVar 0) (mCons (mC (.int 1)) (mCons (mC (.int 8)) mNil)))))) cNever cNil)
def g_check_number_of_halls : List D → List D → Option (D × List D) := gOf 1 1 false (c_check_number_of_halls)
/-! ### check_net -/
def c_check_net : C := (cIf (mNot (mTest (mCall0 (g0 g_is_net) (mCons (mVar 0) (mCons (mVar 1) mNil))))) cNever cNil)
def g_check_net : List D → List D → Option (D × List D) := gOf 2 2 false (c_check_net)
/-! ### leads_to_ties -/
def c_leads_to_ties : C := (cSeq (cAsg 2 (rW (mSt (mSet gK (mSeq (mVar 0))))))
  (cRet (rDt (mCall allD (mCons (mLst (mLc (mSeq (mVar 0)) [3, 4] (gT 2 (gsCons (gN 3) (gsCons (gN 4) gsNil))) mYes (mOp inD (mCall tupleD (mCons (mLst (mCallF sortedF (mCons (mTup (mCons (mOp ixD (mVar 1) (mVar 3)) (mCons (mOp ixD (mVar 1) (mVar 4)) mNil))) mNil))) mNil)) (mVar 2)))) mNil)))))
def g_leads_to_ties : List D → List D → Option (D × List D) := gOf 5 2 false (c_leads_to_ties)
/-! ### keeps -/
def c_keeps : C := (cSeq (cDrop (mCall0 (g0 g_check_house) (mCons (mVar 0) mNil)))
  (cSeq (cDrop (mCall0 (g0 g_check_net) (mCons (mOp ixD (mVar 0) (mC (.int 0))) (mCons (mVar 1) mNil))))
  (cRet (rDt (mCall allD (mCons (mLst (mLc (mSeq (mOp ixD (mVar 0) (mC (.int 1)))) [2] (gN 2) mYes (mCall0 (g0 g_leads_to_ties) (mCons (mVar 1) (mCons (mVar 2) mNil))))) mNil))))))
def g_keeps : List D → List D → Option (D × List D) := gOf 3 2 false (c_keeps)
/-! ### wider_cliques -/
def c_wider_cliques : C := (cSeq (cAsg 3 (rW (mSt (mSet gK (mSeq (mVar 1))))))
  (cRet (rL (mLc2 (mSeq (mVar 2)) [4, 5] (gN 4) mYes (mRng2 (mCons (mOp addD (mOp ixD (mVar 4) (mUn negD (mC (.int 1)))) (mC (.int 1))) (mCons (mVar 0) mNil))) [5] (gN 5) (mTest (mCall allD (mCons (mLst (mLc (mSeq (mVar 4)) [6] (gN 6) mYes (mOp inD (mTup (mCons (mVar 6) (mCons (mVar 5) mNil))) (mVar 3)))) mNil))) (mOp addD (mVar 4) (mTup (mCons (mVar 5) mNil)))))))
def g_wider_cliques : List D → List D → Option (D × List D) := gOf 7 3 false (c_wider_cliques)
/-! ### greatest_clique -/
def c_greatest_clique (fuel : Nat) : C := (cSeq (cDrop (mCall0 (g0 g_check_number_of_halls) (mCons (mVar 0) mNil)))
  (cSeq (cDrop (mCall0 (g0 g_check_net) (mCons (mVar 0) (mCons (mVar 1) mNil))))
  (cSeq (cAsg 2 (rDt (mTup mNil)))
  (cSeq (cAsg 3 (rL (mLc (mRng1 (mCons (mVar 0) mNil)) [4] (gN 4) mYes (mTup (mCons (mVar 4) mNil)))))
  (cSeq (whGo (mTru (mVar 3)) (cSeq (cAsg 2 (rDt (mOp ixD (mVar 3) (mC (.int 0)))))
  (cAsg 3 (rL (mAsL (mCall0 (g0 g_wider_cliques) (mCons (mVar 0) (mCons (mVar 1) (mCons (mVar 3) mNil)))))))) fuel)
  (cRet (rDt (mVar 2))))))))
def g_greatest_clique : List D → List D → Option (D × List D) := gOf 5 2 false (c_greatest_clique 5000)
/-! ### least_numbers -/
def c_least_numbers (r : List D → List D → Option (D × List D)) : C := (cSeq (cAsg 4 (rDt (mCall lenD (mCons (mVar 3) mNil))))
  (cSeq (cIf (mTest (mOp eqD (mVar 4) (mVar 0))) (cRet (rDt (mVar 3))) cNil)
  (cSeq (cAsg 5 (rL (mLc (mSeq (mVar 1)) [8, 9] (gT 2 (gsCons (gN 8) (gsCons (gN 9) gsNil))) (mTest (mOp eqD (mVar 9) (mVar 4))) (mOp ixD (mVar 3) (mVar 8)))))
  (cSeq (cFor (iImm (mRng1 (mCons (mVar 2) mNil))) (gD 6) (cIf (mTest (mOp notInD (mVar 6) (mVar 5))) (cSeq (cAsg 7 (rDt (mCall0 (g0 r) (mCons (mVar 0) (mCons (mVar 1) (mCons (mVar 2) (mCons (mOp addD (mVar 3) (mTup (mCons (mVar 6) mNil))) mNil)))))))
  (cIf (mTest (mOp isNotD (mVar 7) (mC .non))) (cRet (rDt (mVar 7))) cNil)) cNil))
  (cRet (rDt (mC .non)))))))
def g_least_numbers_ : Nat → List D → List D → Option (D × List D)
  | 0 => fun _ _ => none
  | n + 1 => gOf 10 4 false (c_least_numbers (g_least_numbers_ n))
def g_least_numbers : List D → List D → Option (D × List D) := g_least_numbers_ 12
/-! ### colours -/
def c_colours (fuel : Nat) : C := (cSeq (cAsg 2 (rDt (mCall lenD (mCons (mCall0 (g0 g_greatest_clique) (mCons (mVar 0) (mCons (mVar 1) mNil))) mNil))))
  (cSeq (cAsg 3 (rDt (mCall0 (g0 g_least_numbers) (mCons (mVar 0) (mCons (mVar 1) (mCons (mVar 2) (mCons (mTup mNil) mNil)))))))
  (cSeq (whGo (mTest (mOp isD (mVar 3) (mC .non))) (cSeq (cAug 2 (fun i j => i + j) (mC (.int 1)))
  (cAsg 3 (rDt (mCall0 (g0 g_least_numbers) (mCons (mVar 0) (mCons (mVar 1) (mCons (mVar 2) (mCons (mTup mNil) mNil)))))))) fuel)
  (cRet (rDt (mVar 3))))))
def g_colours : List D → List D → Option (D × List D) := gOf 4 2 false (c_colours 5000)
/-! ### least_colours -/
def c_least_colours : C := (cRet (rDt (mLenI (mSet gI (mSeq (mCall0 (g0 g_colours) (mCons (mVar 0) (mCons (mVar 1) mNil))))))))
def g_least_colours : List D → List D → Option (D × List D) := gOf 2 2 false (c_least_colours)
/-! ### is_barring -/
def c_is_barring : C := (cSeq (cAsg 2 (rDt (mCall0 (g0 g_greatest_clique) (mCons (mVar 0) (mCons (mVar 1) mNil)))))
  (cRet (rDt (mAndV (mOp neD (mVar 1) (mTup mNil)) (mOp eqD (mCall lenD (mCons (mVar 2) mNil)) (mCall0 (g0 g_least_colours) (mCons (mVar 0) (mCons (mVar 1) mNil))))))))
def g_is_barring : List D → List D → Option (D × List D) := gOf 3 2 false (c_is_barring)
/-! ### _law_taken -/
def c__law_taken : C := (cSeq (cIf (mTest (mOp gtD (mRowIx 0 (mC (.int 3))) (mC (.int 0)))) (cSeq (cAsg 2 (rDt (mOp modD (mCall intD (mCons (mRowIx 0 (mC (.int 3))) mNil)) (mVar 1))))
  (cSeq (cRowSet 0 (mC (.int 3)) (mOp fdivD (mRowIx 0 (mC (.int 3))) (mVar 1)))
  (cRet (rDt (mVar 2))))) cNil)
  (cSeq (cRowSet 0 (mC (.int 1)) (mOp addD (mRowIx 0 (mC (.int 1))) (mC (.int 1))))
  (cSeq (cIf (mTest (mOp gtD (mRowIx 0 (mC (.int 1))) (mCall lenD (mCons (mRowIx 0 (mC (.int 0))) mNil)))) (cSeq (cRowSet 0 (mC (.int 2)) (mOp modD (mCall intD (mCons (mOp addD (mOp mulD (mRowIx 0 (mC (.int 2))) (mC (.int 48271))) (mC (.int 11))) mNil)) (mC (.int 2147483647))))
  (cRet (rDt (mOp modD (mCall intD (mCons (mOp fdivD (mRowIx 0 (mC (.int 2))) (mC (.int 7))) mNil)) (mVar 1))))) cNil)
  (cSeq (cAsg 3 (rDt (mOp ixD (mRowIx 0 (mC (.int 0))) (mOp subD (mRowIx 0 (mC (.int 1))) (mC (.int 1))))))
  (cSeq (cRowSet 0 (mC (.int 2)) (mOp modD (mCall intD (mCons (mOp addD (mOp addD (mOp mulD (mRowIx 0 (mC (.int 2))) (mC (.int 48271))) (mVar 3)) (mC (.int 11))) mNil)) (mC (.int 2147483647))))
  (cSeq (cIf (mTest (mOp geD (mVar 3) (mOp powD (mC (.int 10)) (mC (.int 18))))) (cRowSet 0 (mC (.int 3)) (mOp fdivD (mVar 3) (mVar 1))) cNil)
  (cRet (rDt (mOp modD (mCall intD (mCons (mVar 3) mNil)) (mVar 1))))))))))
def g__law_taken : List D → List D → Option (D × List D) := gOf 4 1 true (c__law_taken)
/-! ### _law_alike -/
def c__law_alike (r : List D → List D → Option (D × List D)) : C := (cSeq (cIf (mTest (mUn (isiTD ["tuple", "list"]) (mVar 1))) (cSeq (cIf (mOr (mNot (mTest (mUn (isiTD ["tuple", "list"]) (mVar 0)))) (mTest (mOp neD (mUn (isiD "list") (mVar 0)) (mUn (isiD "list") (mVar 1))))) (cRet (rDt (mC (.bl false)))) cNil)
  (cSeq (cIf (mTest (mOp neD (mCall lenD (mCons (mVar 0) mNil)) (mCall lenD (mCons (mVar 1) mNil)))) (cRet (rDt (mC (.bl false)))) cNil)
  (cRet (rDt (mOp eqD (mLst (mLc (mRng1 (mCons (mCall lenD (mCons (mVar 1) mNil)) mNil)) [2] (gN 2) (mNot (mTest (mCall0 (g0 r) (mCons (mOp ixD (mVar 0) (mVar 2)) (mCons (mOp ixD (mVar 1) (mVar 2)) mNil))))) (mVar 2))) (mLst (mSz mNil))))))) cNil)
  (cSeq (cIf (mOr (mTest (mOp isD (mVar 1) (mC .non))) (mTest (mUn (isiD "str") (mVar 1)))) (cRet (rDt (mAndV (mOp eqD (mVar 0) (mVar 1)) (mOp eqD (mUn (isiD "str") (mVar 0)) (mUn (isiD "str") (mVar 1)))))) cNil)
  (cRet (rDt (mAndV (mUn (isiD "int") (mVar 0)) (mAndV (mOp eqD (mUn (isiD "bool") (mVar 0)) (mUn (isiD "bool") (mVar 1))) (mOp eqD (mVar 0) (mVar 1))))))))
def g__law_alike_ : Nat → List D → List D → Option (D × List D)
  | 0 => fun _ _ => none
  | n + 1 => gOf 3 2 false (c__law_alike (g__law_alike_ n))
def g__law_alike : List D → List D → Option (D × List D) := g__law_alike_ 12
/-! ### _law_map -/
def c__law_map : C := (cSeq (cIf (mTest (mOp eqD (mCallR 0 g__law_taken (mCons (mC (.int 3)) mNil)) (mC (.int 0)))) (cRet (rDt (mCall tupleD (mCons (mLst (mLc (mRng1 (mCons (mVar 1) mNil)) [4] (gN 4) mYes (mCallR 0 g__law_taken (mCons (mVar 1) mNil)))) mNil)))) cNil)
  (cSeq (cAsg 2 (rL (mRng1 (mCons (mVar 1) mNil))))
  (cSeq (cFor (iImm (mRng1 (mCons (mOp addD (mC (.int 1)) (mCallR 0 g__law_taken (mCons (mC (.int 2)) mNil))) mNil))) (gD 3) (cSetL 2 (mCallR 0 g__law_taken (mCons (mVar 1) mNil)) (mCallR 0 g__law_taken (mCons (mVar 1) mNil))))
  (cRet (rDt (mCall tupleD (mCons (mVar 2) mNil)))))))
def g__law_map : List D → List D → Option (D × List D) := gOf 5 1 true (c__law_map)
/-! ### _law_turn -/
def c__law_turn (fuel : Nat) : C := (cSeq (cPar 2 3 (rDt (mTup mNil)) (rL (mRng1 (mCons (mVar 1) mNil))))
  (cSeq (whGo (mTest (mOp neD (mVar 3) (mLst (mSz mNil)))) (cPopCat 2 3 (mCallR 0 g__law_taken (mCons (mCall lenD (mCons (mVar 3) mNil)) mNil))) fuel)
  (cRet (rDt (mVar 2)))))
def g__law_turn : List D → List D → Option (D × List D) := gOf 4 1 true (c__law_turn 5000)
/-! ### _law_house -/
def c__law_house : C := (cSeq (cPar 2 3 (rDt (mOp addD (mC (.int 1)) (mCallR 0 g__law_taken (mCons (mVar 1) mNil)))) (rL (mSz mNil)))
  (cSeq (cFor (iImm (mRng1 (mCons (mOp addD (mC (.int 1)) (mCallR 0 g__law_taken (mCons (mC (.int 3)) mNil))) mNil))) (gD 4) (cApp 3 (mIf (mTest (mOp eqD (mCallR 0 g__law_taken (mCons (mC (.int 2)) mNil)) (mC (.int 0)))) (mCallR 0 g__law_turn (mCons (mVar 2) mNil)) (mCallR 0 g__law_map (mCons (mVar 2) mNil)))))
  (cRet (rDt (mTup (mCons (mVar 2) (mCons (mCall tupleD (mCons (mVar 3) mNil)) mNil)))))))
def g__law_house : List D → List D → Option (D × List D) := gOf 5 1 true (c__law_house)
/-! ### _law_ties -/
def c__law_ties : C := (cSeq (cAsg 1 (rDt (mTup mNil)))
  (cSeq (cFor (iImm (mRng1 (mCons (mVar 0) mNil))) (gD 2) (cAsg 1 (rDt (mOp addD (mVar 1) (mCall tupleD (mCons (mLst (mLc (mRng2 (mCons (mOp addD (mVar 2) (mC (.int 1))) (mCons (mVar 0) mNil))) [3] (gN 3) mYes (mTup (mCons (mVar 2) (mCons (mVar 3) mNil))))) mNil))))))
  (cRet (rDt (mVar 1)))))
def g__law_ties : List D → List D → Option (D × List D) := gOf 4 1 false (c__law_ties)
/-! ### _law_kept -/
def c__law_kept : C := (cSeq (cFor (iTup (mVar 0)) (gD 2) (cIf (mTest (mOp neD (mLst (mLc (mSeq (mVar 1)) [3] (gN 3) (mTest (mOp notInD (mCall tupleD (mCons (mLst (mCallF sortedF (mCons (mLst (mSz (mCons (mOp ixD (mVar 2) (mOp ixD (mVar 3) (mC (.int 0)))) (mCons (mOp ixD (mVar 2) (mOp ixD (mVar 3) (mC (.int 1)))) mNil)))) mNil))) mNil)) (mVar 1))) (mVar 3))) (mLst (mSz mNil)))) (cRet (rDt (mC (.bl false)))) cNil))
  (cRet (rDt (mC (.bl true)))))
def g__law_kept : List D → List D → Option (D × List D) := gOf 4 2 false (c__law_kept)
/-! ### _law_cliques -/
def c__law_cliques : C := (cSeq (cAsg 2 (rL (mSz (mCons (mTup mNil) mNil))))
  (cSeq (cFor (iImm (mRng1 (mCons (mVar 0) mNil))) (gD 3) (cAsg 2 (rL (mCat (mLv 2) (mLc (mSeq (mVar 2)) [4] (gN 4) (mTest (mOp eqD (mLst (mLc (mSeq (mVar 4)) [5] (gN 5) (mTest (mOp notInD (mTup (mCons (mVar 5) (mCons (mVar 3) mNil))) (mVar 1))) (mVar 5))) (mLst (mSz mNil)))) (mOp addD (mVar 4) (mTup (mCons (mVar 3) mNil))))))))
  (cRetV 2)))
def g__law_cliques : List D → List D → Option (D × List D) := gOf 6 2 false (c__law_cliques)
/-! ### _law_paint -/
def c__law_paint : C := (cSeq (cAsg 3 (rL (mSz (mCons (mTup mNil) mNil))))
  (cSeq (cFor (iImm (mRng1 (mCons (mVar 0) mNil))) (gD 4) (cSeq (cAsg 5 (rL (mSz mNil)))
  (cSeq (cFor (iVar 3) (gD 6) (cSeq (cAsg 7 (rL (mLc (mRng1 (mCons (mVar 4) mNil)) [8] (gN 8) (mTest (mOp inD (mTup (mCons (mVar 8) (mCons (mVar 4) mNil))) (mVar 1))) (mOp ixD (mVar 6) (mVar 8)))))
  (cAsg 5 (rL (mCat (mLv 5) (mLc (mRng1 (mCons (mVar 2) mNil)) [9] (gN 9) (mTest (mOp notInD (mVar 9) (mVar 7))) (mOp addD (mVar 6) (mTup (mCons (mVar 9) mNil)))))))))
  (cMove 3 5))))
  (cRet (rDt (mIf (mTest (mOp neD (mVar 3) (mLst (mSz mNil)))) (mCall minD (mCons (mVar 3) mNil)) (mC .non))))))
def g__law_paint : List D → List D → Option (D × List D) := gOf 10 3 false (c__law_paint)
/-! ### _law_fewest -/
def c__law_fewest (fuel : Nat) : C := (cSeq (cAsg 2 (rDt (mC (.int 1))))
  (cSeq (whGo (mTest (mOp isD (mCall0 (g0 g__law_paint) (mCons (mVar 0) (mCons (mVar 1) (mCons (mVar 2) mNil)))) (mC .non))) (cAsg 2 (rDt (mOp addD (mVar 2) (mC (.int 1))))) fuel)
  (cRet (rDt (mVar 2)))))
def g__law_fewest : List D → List D → Option (D × List D) := gOf 3 2 false (c__law_fewest 5000)
/-! ### _law_bars -/
def c__law_bars : C := (cRet (rDt (mAndV (mOp neD (mVar 1) (mTup mNil)) (mOp eqD (mCall maxD (mCons (mLst (mLc (mAsL (mCall0 (g0 g__law_cliques) (mCons (mVar 0) (mCons (mVar 1) mNil)))) [2] (gN 2) mYes (mCall lenD (mCons (mVar 2) mNil)))) mNil)) (mCall0 (g0 g__law_fewest) (mCons (mVar 0) (mCons (mVar 1) mNil)))))))
def g__law_bars : List D → List D → Option (D × List D) := gOf 3 2 false (c__law_bars)
/-! ### is_letter -/
def c_is_letter : C := (cRet (rDt (mCall0 (g0 g_is_number) (mCons (mVar 1) (mCons (mC (.int 0)) (mCons (mOp subD (mVar 0) (mC (.int 1))) mNil))))))
def g_is_letter : List D → List D → Option (D × List D) := gOf 2 2 false (c_is_letter)
/-! ### check_hall -/
def c_check_hall : C := (cIf (mNot (mTest (mCall0 (g0 g_is_hall) (mCons (mVar 0) (mCons (mVar 1) mNil))))) cNever cNil)
def g_check_hall : List D → List D → Option (D × List D) := gOf 2 2 false (c_check_hall)
/-! ### check_lot -/
def c_check_lot : C := (cIf (mNot (mTest (mCall0 (g0 g_is_lot) (mCons (mVar 0) (mCons (mVar 1) mNil))))) cNever cNil)
def g_check_lot : List D → List D → Option (D × List D) := gOf 2 2 false (c_check_lot)
/-! ### check_row -/
def c_check_row : C := (cSeq (cIf (mOr (mNot (mTest (mUn (isiD "tuple") (mVar 1)))) (mTest (mOp gtD (mCall lenD (mCons (mVar 1) mNil)) (mC (.int 100))))) cNever cNil)
  (cFor (iImm (mEnum (mVar 1))) (gT 2 (gsCons (gD 2) (gsCons (gD 3) gsNil))) (cIf (mNot (mTest (mCall0 (g0 g_is_letter) (mCons (mVar 0) (mCons (mVar 3) mNil))))) cNever cNil)))
def g_check_row : List D → List D → Option (D × List D) := gOf 4 2 false (c_check_row)
/-! ### image -/
def c_image : C := (cRet (rDt (mCall tupleD (mCons (mLst (mSortI (mSet gI (mLc (mSeq (mVar 1)) [2] (gN 2) mYes (mOp ixD (mVar 0) (mVar 2)))))) mNil))))
def g_image : List D → List D → Option (D × List D) := gOf 3 2 false (c_image)
/-! ### led -/
def c_led : C := (cSeq (cDrop (mCall0 (g0 g_check_house) (mCons (mVar 0) mNil)))
  (cSeq (cUnpV 0 (gT 2 (gsCons (gD 3) (gsCons (gD 4) gsNil))))
  (cSeq (cDrop (mCall0 (g0 g_check_lot) (mCons (mVar 3) (mCons (mVar 1) mNil))))
  (cSeq (cDrop (mCall0 (g0 g_check_row) (mCons (mCall lenD (mCons (mVar 4) mNil)) (mCons (mVar 2) mNil))))
  (cSeq (cAsg 5 (rDt (mVar 1)))
  (cSeq (cFor (iTup (mVar 2)) (gD 6) (cAsg 5 (rDt (mCall0 (g0 g_image) (mCons (mOp ixD (mVar 4) (mVar 6)) (mCons (mVar 5) mNil))))))
  (cRet (rDt (mVar 5)))))))))
def g_led : List D → List D → Option (D × List D) := gOf 7 3 false (c_led)
/-! ### map_of -/
def c_map_of : C := (cSeq (cDrop (mCall0 (g0 g_check_house) (mCons (mVar 0) mNil)))
  (cSeq (cUnpV 0 (gT 2 (gsCons (gD 2) (gsCons (gD 3) gsNil))))
  (cSeq (cDrop (mCall0 (g0 g_check_row) (mCons (mCall lenD (mCons (mVar 3) mNil)) (mCons (mVar 1) mNil))))
  (cSeq (cAsg 4 (rDt (mTupT (mRng1 (mCons (mVar 2) mNil)))))
  (cSeq (cFor (iTup (mVar 1)) (gD 5) (cAsg 4 (rDt (mCall tupleD (mCons (mLst (mLc (mSeq (mVar 4)) [6] (gN 6) mYes (mOp ixD (mOp ixD (mVar 3) (mVar 5)) (mVar 6)))) mNil)))))
  (cRet (rDt (mVar 4))))))))
def g_map_of : List D → List D → Option (D × List D) := gOf 7 2 false (c_map_of)
/-! ### rows_from -/
def c_rows_from (fuel : Nat) : C := (cSeq (cAsg 2 (rDt (mOp ixD (mVar 0) (mC (.int 1)))))
  (cSeq (cAsg 3 (rDi (mDisp1 (mVar 1) (mTup mNil))))
  (cSeq (cAsg 4 (rL (mSz (mCons (mVar 1) mNil))))
  (cSeq (cAsg 5 (rDt (mC (.int 0))))
  (cSeq (whGo (mTest (mOp ltA (mVar 5) (mCall lenD (mCons (mVar 4) mNil)))) (cSeq (cAsg 6 (rDt (mOp ixD (mVar 4) (mVar 5))))
  (cSeq (cAug 5 (fun i j => i + j) (mC (.int 1)))
  (cFor (iImm (mEnum (mVar 2))) (gT 2 (gsCons (gD 7) (gsCons (gD 8) gsNil))) (cSeq (cAsg 9 (rDt (mCall0 (g0 g_image) (mCons (mVar 8) (mCons (mVar 6) mNil)))))
  (cIf (mTest (mOp notInD (mVar 9) (mVar 3))) (cSeq (cPut 3 (mVar 9) (mOp addD (mOp dgetD (mVar 3) (mVar 6)) (mTup (mCons (mVar 7) mNil))))
  (cApp 4 (mVar 9))) cNil))))) fuel)
  (cRetV 3))))))
def g_rows_from : List D → List D → Option (D × List D) := gOf 10 2 false (c_rows_from 5000)
/-! ### rows_from_all -/
def c_rows_from_all : C := (cRet (rDi (mAsD (mCall0 (g0 g_rows_from) (mCons (mVar 0) (mCons (mTupT (mRng1 (mCons (mOp ixD (mVar 0) (mC (.int 0))) mNil))) mNil))))))
def g_rows_from_all : List D → List D → Option (D × List D) := gOf 1 1 false (c_rows_from_all)
/-! ### first_row_to -/
def c_first_row_to : C := (cSeq (cForI 0 (gT 2 (gsCons (gD 2) (gsCons (gD 3) gsNil))) (cIf (mTest (mOp eqD (mCall lenD (mCons (mVar 2) mNil)) (mVar 1))) (cRet (rDt (mVar 3))) cNil))
  (cRet (rDt (mC .non))))
def g_first_row_to : List D → List D → Option (D × List D) := gOf 4 2 false (c_first_row_to)
/-! ### fewest -/
def c_fewest : C := (cRet (rDt (mCall minD (mCons (mLst (mLcK 0 [1] (gN 1) mYes (mCall lenD (mCons (mVar 1) mNil)))) mNil))))
def g_fewest : List D → List D → Option (D × List D) := gOf 2 1 false (c_fewest)
/-! ### reset -/
def c_reset : C := (cSeq (cDrop (mCall0 (g0 g_check_house) (mCons (mVar 0) mNil)))
  (cRet (rDt (mCall0 (g0 g_first_row_to) (mCons (mDic (mAsD (mCall0 (g0 g_rows_from_all) (mCons (mVar 0) mNil)))) (mCons (mC (.int 1)) mNil))))))
def g_reset : List D → List D → Option (D × List D) := gOf 1 1 false (c_reset)
/-! ### has_reset -/
def c_has_reset : C := (cRet (rDt (mOp isNotD (mCall0 (g0 g_reset) (mCons (mVar 0) mNil)) (mC .non))))
def g_has_reset : List D → List D → Option (D × List D) := gOf 1 1 false (c_has_reset)
/-! ### lots -/
def c_lots : C := (cSeq (cDrop (mCall0 (g0 g_check_house) (mCons (mVar 0) mNil)))
  (cRet (rDt (mCall tupleD (mCons (mLst (mCallF sortedDF (mCons (mDic (mAsD (mCall0 (g0 g_rows_from_all) (mCons (mVar 0) mNil)))) mNil))) mNil)))))
def g_lots : List D → List D → Option (D × List D) := gOf 1 1 false (c_lots)
/-! ### resets_to -/
def c_resets_to : C := (cRet (rDt (mCall tupleD (mCons (mLst (mLc (mSeq (mCall0 (g0 g_lots) (mCons (mVar 0) mNil))) [1] (gN 1) (mTest (mOp eqD (mCall lenD (mCons (mVar 1) mNil)) (mC (.int 1)))) (mOp ixD (mVar 1) (mC (.int 0))))) mNil))))
def g_resets_to : List D → List D → Option (D × List D) := gOf 2 1 false (c_resets_to)
/-! ### rank -/
def c_rank : C := (cSeq (cDrop (mCall0 (g0 g_check_house) (mCons (mVar 0) mNil)))
  (cRet (rDt (mCall0 (g0 g_fewest) (mCons (mDic (mAsD (mCall0 (g0 g_rows_from_all) (mCons (mVar 0) mNil)))) mNil)))))
def g_rank : List D → List D → Option (D × List D) := gOf 1 1 false (c_rank)
/-! ### fewest_row -/
def c_fewest_row : C := (cSeq (cDrop (mCall0 (g0 g_check_house) (mCons (mVar 0) mNil)))
  (cSeq (cAsg 1 (rDi (mAsD (mCall0 (g0 g_rows_from_all) (mCons (mVar 0) mNil)))))
  (cRet (rDt (mCall0 (g0 g_first_row_to) (mCons (mVar 1) (mCons (mCall0 (g0 g_fewest) (mCons (mVar 1) mNil)) mNil)))))))
def g_fewest_row : List D → List D → Option (D × List D) := gOf 2 1 false (c_fewest_row)
/-! ### homing -/
def c_homing : C := (cSeq (cDrop (mCall0 (g0 g_check_house) (mCons (mVar 0) mNil)))
  (cSeq (cDrop (mCall0 (g0 g_check_lot) (mCons (mOp ixD (mVar 0) (mC (.int 0))) (mCons (mVar 1) mNil))))
  (cRet (rDt (mCall0 (g0 g_first_row_to) (mCons (mDic (mAsD (mCall0 (g0 g_rows_from) (mCons (mVar 0) (mCons (mVar 1) mNil))))) (mCons (mC (.int 1)) mNil)))))))
def g_homing : List D → List D → Option (D × List D) := gOf 2 2 false (c_homing)
/-! ### meeting -/
def c_meeting : C := (cSeq (cDrop (mCall0 (g0 g_check_house) (mCons (mVar 0) mNil)))
  (cSeq (cAsg 3 (rDt (mOp ixD (mVar 0) (mC (.int 0)))))
  (cSeq (cDrop (mCall0 (g0 g_check_hall) (mCons (mVar 3) (mCons (mVar 1) mNil))))
  (cSeq (cDrop (mCall0 (g0 g_check_hall) (mCons (mVar 3) (mCons (mVar 2) mNil))))
  (cRet (rDt (mCall0 (g0 g_first_row_to) (mCons (mDic (mAsD (mCall0 (g0 g_rows_from) (mCons (mVar 0) (mCons (mCall tupleD (mCons (mLst (mSortI (mSet gI (mCons (mVar 1) (mCons (mVar 2) mNil))))) mNil)) mNil))))) (mCons (mC (.int 1)) mNil)))))))))
def g_meeting : List D → List D → Option (D × List D) := gOf 4 3 false (c_meeting)
/-! ### _law_rows -/
def c__law_rows (fuel : Nat) : C := (cSeq (cPar 2 3 (rDi (mDisp1 (mVar 1) (mTup mNil))) (rL (mSz (mCons (mVar 1) mNil))))
  (cSeq (whGo (mTest (mOp neD (mVar 3) (mLst (mSz mNil)))) (cSeq (cAsg 4 (rL (mSz mNil)))
  (cSeq (cFor (iVar 3) (gD 5) (cFor (iImm (mRng1 (mCons (mCall lenD (mCons (mVar 0) mNil)) mNil))) (gD 6) (cSeq (cAsg 7 (rDt (mCall tupleD (mCons (mLst (mSortI (mSet gI (mSeq (mLst (mLc (mSeq (mVar 5)) [8] (gN 8) mYes (mOp ixD (mOp ixD (mVar 0) (mVar 6)) (mVar 8)))))))) mNil))))
  (cIf (mTest (mOp notInD (mVar 7) (mVar 2))) (cSeq (cPut 2 (mVar 7) (mOp addD (mOp dgetD (mVar 2) (mVar 5)) (mTup (mCons (mVar 6) mNil))))
  (cApp 4 (mVar 7))) cNil))))
  (cMove 3 4))) fuel)
  (cRetV 2)))
def g__law_rows : List D → List D → Option (D × List D) := gOf 9 2 false (c__law_rows 5000)
/-! ### _law_home -/
def c__law_home : C := (cSeq (cAsg 2 (rDi (mAsD (mCall0 (g0 g__law_rows) (mCons (mVar 0) (mCons (mVar 1) mNil))))))
  (cSeq (cAsg 3 (rL (mCallF sortedF (mCons (mLst (mLc (mCallF listDF (mCons (mVar 2) mNil)) [4] (gN 4) (mTest (mOp eqD (mCall lenD (mCons (mVar 4) mNil)) (mC (.int 1)))) (mTup (mCons (mCall lenD (mCons (mOp dgetD (mVar 2) (mVar 4)) mNil)) (mCons (mOp dgetD (mVar 2) (mVar 4)) mNil))))) mNil))))
  (cRet (rDt (mIf (mTest (mOp neD (mVar 3) (mLst (mSz mNil)))) (mOp ixD (mOp ixD (mVar 3) (mC (.int 0))) (mC (.int 1))) (mC .non))))))
def g__law_home : List D → List D → Option (D × List D) := gOf 5 2 false (c__law_home)
/-! ### whole_net -/
def c_whole_net : C := (cRet (rDt (mComb2 (mVar 0))))
def g_whole_net : List D → List D → Option (D × List D) := gOf 1 1 false (c_whole_net)
/-! ### bar_by -/
def c_bar_by : C := (cRet (rDt (mTup (mCons (mVar 1) (mCons (mCall0 (g0 g_greatest_clique) (mCons (mVar 0) (mCons (mVar 1) mNil))) (mCons (mCall0 (g0 g_colours) (mCons (mVar 0) (mCons (mVar 1) mNil))) mNil))))))
def g_bar_by : List D → List D → Option (D × List D) := gOf 2 2 false (c_bar_by)
/-! ### is_clique -/
def c_is_clique : C := (cSeq (cIf (mOr (mNot (mTest (mCall0 (g0 g_is_lot) (mCons (mVar 0) (mCons (mVar 2) mNil))))) (mTest (mOp ltA (mCall lenD (mCons (mVar 2) mNil)) (mC (.int 2))))) (cRet (rDt (mC (.bl false)))) cNil)
  (cSeq (cAsg 3 (rW (mSt (mSet gK (mSeq (mVar 1))))))
  (cRet (rDt (mCall allD (mCons (mLst (mLc2 (mEnum (mVar 2)) [4, 5, 6] (gT 2 (gsCons (gN 4) (gsCons (gN 5) gsNil))) mYes (mSeq (mCutT (mVar 2) (mPart (mOp addD (mVar 4) (mC (.int 1)))) mNoPart)) [6] (gN 6) mYes (mOp inD (mTup (mCons (mVar 5) (mCons (mVar 6) mNil))) (mVar 3)))) mNil))))))
def g_is_clique : List D → List D → Option (D × List D) := gOf 7 3 false (c_is_clique)
/-! ### are_colours -/
def c_are_colours : C := (cSeq (cIf (mOr (mNot (mTest (mUn (isiD "tuple") (mVar 3)))) (mTest (mOp neD (mCall lenD (mCons (mVar 3) mNil)) (mVar 0)))) (cRet (rDt (mC (.bl false)))) cNil)
  (cSeq (cIf (mNot (mTest (mCall allD (mCons (mLst (mLc (mSeq (mVar 3)) [4] (gN 4) mYes (mCall0 (g0 g_is_number) (mCons (mVar 4) (mCons (mC (.int 0)) (mCons (mOp subD (mVar 2) (mC (.int 1))) mNil)))))) mNil)))) (cRet (rDt (mC (.bl false)))) cNil)
  (cRet (rDt (mCall allD (mCons (mLst (mLc (mSeq (mVar 1)) [5, 6] (gT 2 (gsCons (gN 5) (gsCons (gN 6) gsNil))) mYes (mOp neD (mOp ixD (mVar 3) (mVar 5)) (mOp ixD (mVar 3) (mVar 6))))) mNil))))))
def g_are_colours : List D → List D → Option (D × List D) := gOf 7 4 false (c_are_colours)
/-! ### is_bar -/
def c_is_bar : C := (cSeq (cIf (mOr (mNot (mTest (mUn (isiD "tuple") (mVar 1)))) (mTest (mOp neD (mCall lenD (mCons (mVar 1) mNil)) (mC (.int 3))))) (cRet (rDt (mC (.bl false)))) cNil)
  (cSeq (cAsg 2 (rDt (mOp ixD (mVar 0) (mC (.int 0)))))
  (cSeq (cUnpV 1 (gT 3 (gsCons (gD 3) (gsCons (gD 4) (gsCons (gD 5) gsNil)))))
  (cSeq (cIf (mOr (mNot (mTest (mCall0 (g0 g_is_net) (mCons (mVar 2) (mCons (mVar 3) mNil))))) (mOr (mNot (mTest (mCall0 (g0 g_keeps) (mCons (mVar 0) (mCons (mVar 3) mNil))))) (mNot (mTest (mCall0 (g0 g_is_clique) (mCons (mVar 2) (mCons (mVar 3) (mCons (mVar 4) mNil)))))))) (cRet (rDt (mC (.bl false)))) cNil)
  (cRet (rDt (mCall0 (g0 g_are_colours) (mCons (mVar 2) (mCons (mVar 3) (mCons (mCall lenD (mCons (mVar 4) mNil)) (mCons (mVar 5) mNil)))))))))))
def g_is_bar : List D → List D → Option (D × List D) := gOf 6 2 false (c_is_bar)
/-! ### never_meet -/
def c_never_meet : C := (cSeq (cDrop (mCall0 (g0 g_check_house) (mCons (mVar 0) mNil)))
  (cSeq (cAsg 1 (rDt (mCall0 (g0 g_whole_net) (mCons (mOp ixD (mVar 0) (mC (.int 0))) mNil))))
  (cRet (rDt (mCall tupleD (mCons (mLst (mLc (mSeq (mVar 1)) [2, 3] (gT 2 (gsCons (gN 2) (gsCons (gN 3) gsNil))) (mTest (mOp isD (mCall0 (g0 g_meeting) (mCons (mVar 0) (mCons (mVar 2) (mCons (mVar 3) mNil)))) (mC .non))) (mTup (mCons (mVar 2) (mCons (mVar 3) mNil))))) mNil))))))
def g_never_meet : List D → List D → Option (D × List D) := gOf 4 1 false (c_never_meet)
/-! ### bar -/
def c_bar : C := (cSeq (cAsg 1 (rDt (mCall0 (g0 g_never_meet) (mCons (mVar 0) mNil))))
  (cSeq (cIf (mTest (mOp eqD (mVar 1) (mTup mNil))) (cRet (rDt (mC .non))) cNil)
  (cRet (rDt (mCall0 (g0 g_bar_by) (mCons (mOp ixD (mVar 0) (mC (.int 0))) (mCons (mVar 1) mNil)))))))
def g_bar : List D → List D → Option (D × List D) := gOf 2 1 false (c_bar)
/-! ### shows_bar -/
def c_shows_bar : C := (cSeq (cDrop (mCall0 (g0 g_check_house) (mCons (mVar 0) mNil)))
  (cSeq (cIf (mTest (mOp isD (mVar 1) (mC .non))) (cRet (rDt (mCall0 (g0 g_has_reset) (mCons (mVar 0) mNil)))) cNil)
  (cRet (rDt (mCall0 (g0 g_is_bar) (mCons (mVar 0) (mCons (mVar 1) mNil)))))))
def g_shows_bar : List D → List D → Option (D × List D) := gOf 2 2 false (c_shows_bar)
/-! ### _law_nets -/
def c__law_nets : C := (cSeq (cAsg 1 (rL (mSz (mCons (mTup mNil) mNil))))
  (cSeq (cFor (iTup (mCall0 (g0 g__law_ties) (mCons (mVar 0) mNil))) (gD 2) (cAsg 1 (rL (mCat (mLv 1) (mLc (mSeq (mVar 1)) [3] (gN 3) mYes (mOp addD (mVar 3) (mTup (mCons (mVar 2) mNil))))))))
  (cRet (rL (mCallF sortedF (mCons (mVar 1) mNil))))))
def g__law_nets : List D → List D → Option (D × List D) := gOf 4 1 false (c__law_nets)
/-! ### is_one_to_one -/
def c_is_one_to_one : C := (cRet (rDt (mOp eqD (mLenI (mSet gI (mSeq (mVar 0)))) (mCall lenD (mCons (mVar 0) mNil)))))
def g_is_one_to_one : List D → List D → Option (D × List D) := gOf 1 1 false (c_is_one_to_one)
/-! ### check_turns -/
def c_check_turns : C := (cSeq (cDrop (mCall0 (g0 g_check_house) (mCons (mVar 0) mNil)))
  (cIf (mNot (mTest (mCall allD (mCons (mLst (mLc (mSeq (mOp ixD (mVar 0) (mC (.int 1)))) [1] (gN 1) mYes (mCall0 (g0 g_is_one_to_one) (mCons (mVar 1) mNil)))) mNil)))) cNever cNil))
def g_check_turns : List D → List D → Option (D × List D) := gOf 2 1 false (c_check_turns)
/-! ### check_map -/
def c_check_map : C := (cIf (mNot (mTest (mCall0 (g0 g_is_map) (mCons (mVar 0) (mCons (mVar 1) mNil))))) cNever cNil)
def g_check_map : List D → List D → Option (D × List D) := gOf 2 2 false (c_check_map)
/-! ### is_reset_by -/
def c_is_reset_by : C := (cRet (rDt (mOp isNotD (mCall0 (g0 g_first_row_to) (mCons (mDic (mAsD (mCall0 (g0 g_rows_from_all) (mCons (mTup (mCons (mVar 0) (mCons (mVar 1) mNil))) mNil)))) (mCons (mC (.int 1)) mNil))) (mC .non))))
def g_is_reset_by : List D → List D → Option (D × List D) := gOf 2 2 false (c_is_reset_by)
/-! ### check_few_halls -/
def c_check_few_halls : C := (cIf (mTest (mOp gtD (mOp ixD (mVar 0) (mC (.int 0))) (mC (.int 5)))) cNever cNil)
def g_check_few_halls : List D → List D → Option (D × List D) := gOf 1 1 false (c_check_few_halls)
/-! ### all_maps -/
def c_all_maps : C := (cSeq (cAsg 1 (rL (mSz (mCons (mTup mNil) mNil))))
  (cSeq (cFor (iImm (mRng1 (mCons (mVar 0) mNil))) (gD 2) (cAsg 1 (rL (mLc2 (mSeq (mVar 1)) [3, 4] (gN 3) mYes (mRng1 (mCons (mVar 0) mNil)) [4] (gN 4) mYes (mOp addD (mVar 3) (mTup (mCons (mVar 4) mNil)))))))
  (cRetV 1)))
def g_all_maps : List D → List D → Option (D × List D) := gOf 5 1 false (c_all_maps)
/-! ### is_reset_with -/
def c_is_reset_with : C := (cSeq (cUnpV 0 (gT 2 (gsCons (gD 2) (gsCons (gD 3) gsNil))))
  (cRet (rDt (mCall0 (g0 g_is_reset_by) (mCons (mVar 2) (mCons (mOp addD (mVar 3) (mTup (mCons (mVar 1) mNil))) mNil))))))
def g_is_reset_with : List D → List D → Option (D × List D) := gOf 4 2 false (c_is_reset_with)
/-! ### count_resetting -/
def c_count_resetting : C := (cSeq (cDrop (mCall0 (g0 g_check_house) (mCons (mVar 0) mNil)))
  (cSeq (cDrop (mCall0 (g0 g_check_few_halls) (mCons (mVar 0) mNil)))
  (cRet (rDt (mCall lenD (mCons (mLst (mLc (mAsL (mCall0 (g0 g_all_maps) (mCons (mOp ixD (mVar 0) (mC (.int 0))) mNil))) [1] (gN 1) (mTest (mCall0 (g0 g_is_reset_with) (mCons (mVar 0) (mCons (mVar 1) mNil)))) (mVar 1))) mNil))))))
def g_count_resetting : List D → List D → Option (D × List D) := gOf 2 1 false (c_count_resetting)
/-! ### resisting_maps -/
def c_resisting_maps : C := (cSeq (cDrop (mCall0 (g0 g_check_turns) (mCons (mVar 0) mNil)))
  (cSeq (cDrop (mCall0 (g0 g_check_few_halls) (mCons (mVar 0) mNil)))
  (cRet (rDt (mCall tupleD (mCons (mLst (mLc (mAsL (mCall0 (g0 g_all_maps) (mCons (mOp ixD (mVar 0) (mC (.int 0))) mNil))) [1] (gN 1) (mAnd (mNot (mTest (mCall0 (g0 g_is_one_to_one) (mCons (mVar 1) mNil)))) (mNot (mTest (mCall0 (g0 g_is_reset_with) (mCons (mVar 0) (mCons (mVar 1) mNil)))))) (mVar 1))) mNil))))))
def g_resisting_maps : List D → List D → Option (D × List D) := gOf 2 1 false (c_resisting_maps)
/-! ### pair_lots -/
def c_pair_lots : C := (cSeq (cDrop (mCall0 (g0 g_check_turns) (mCons (mVar 0) mNil)))
  (cRet (rDt (mCall tupleD (mCons (mLst (mSortK (mSet gK (mLc (mSeq (mCall0 (g0 g_whole_net) (mCons (mOp ixD (mVar 0) (mC (.int 0))) mNil))) [1] (gN 1) mYes (mCall tupleD (mCons (mLst (mCallF sortedDF (mCons (mDic (mAsD (mCall0 (g0 g_rows_from) (mCons (mVar 0) (mCons (mVar 1) mNil))))) mNil))) mNil)))))) mNil)))))
def g_pair_lots : List D → List D → Option (D × List D) := gOf 2 1 false (c_pair_lots)
/-! ### kept_nets -/
def c_kept_nets : C := (cSeq (cAsg 1 (rL (mSz (mCons (mTup mNil) mNil))))
  (cSeq (cFor (iTup (mCall0 (g0 g_pair_lots) (mCons (mVar 0) mNil))) (gD 2) (cSeq (cAsg 1 (rL (mCat (mLv 1) (mLc (mSeq (mVar 1)) [3] (gN 3) mYes (mOp addD (mVar 3) (mVar 2))))))
  (cIf (mTest (mOp gtD (mCall lenD (mCons (mVar 1) mNil)) (mC (.int 4096)))) cNever cNil)))
  (cRet (rDt (mCall tupleD (mCons (mLst (mCallF sortedF (mCons (mLst (mLc (mSeq (mVar 1)) [3] (gN 3) mYes (mCall tupleD (mCons (mLst (mCallF sortedF (mCons (mVar 3) mNil))) mNil)))) mNil))) mNil))))))
def g_kept_nets : List D → List D → Option (D × List D) := gOf 4 1 false (c_kept_nets)
/-! ### is_barring_in_part -/
def c_is_barring_in_part : C := (cRet (rDt (mAndV (mOp neD (mVar 1) (mCall0 (g0 g_whole_net) (mCons (mVar 0) mNil))) (mCall0 (g0 g_is_barring) (mCons (mVar 0) (mCons (mVar 1) mNil))))))
def g_is_barring_in_part : List D → List D → Option (D × List D) := gOf 2 2 false (c_is_barring_in_part)
/-! ### barring_nets -/
def c_barring_nets : C := (cSeq (cAsg 1 (rDt (mCall0 (g0 g_kept_nets) (mCons (mVar 0) mNil))))
  (cRet (rDt (mCall tupleD (mCons (mLst (mLc (mSeq (mVar 1)) [2] (gN 2) (mTest (mCall0 (g0 g_is_barring_in_part) (mCons (mOp ixD (mVar 0) (mC (.int 0))) (mCons (mVar 2) mNil)))) (mVar 2))) mNil)))))
def g_barring_nets : List D → List D → Option (D × List D) := gOf 3 1 false (c_barring_nets)
/-! ### group_bar -/
def c_group_bar : C := (cSeq (cFor (iTup (mCall0 (g0 g_kept_nets) (mCons (mVar 0) mNil))) (gD 1) (cIf (mTest (mCall0 (g0 g_is_barring_in_part) (mCons (mOp ixD (mVar 0) (mC (.int 0))) (mCons (mVar 1) mNil)))) (cRet (rDt (mCall0 (g0 g_bar_by) (mCons (mOp ixD (mVar 0) (mC (.int 0))) (mCons (mVar 1) mNil))))) cNil))
  (cRet (rDt (mC .non))))
def g_group_bar : List D → List D → Option (D × List D) := gOf 2 1 false (c_group_bar)
/-! ### resets_with -/
def c_resets_with : C := (cSeq (cDrop (mCall0 (g0 g_check_house) (mCons (mVar 0) mNil)))
  (cSeq (cUnpV 0 (gT 2 (gsCons (gD 3) (gsCons (gD 4) gsNil))))
  (cSeq (cDrop (mCall0 (g0 g_check_map) (mCons (mVar 3) (mCons (mVar 1) mNil))))
  (cRet (rDt (mCall0 (g0 g_is_reset_by) (mCons (mVar 3) (mCons (mOp addD (mVar 4) (mTup (mCons (mVar 1) mNil))) mNil))))))))
def g_resets_with : List D → List D → Option (D × List D) := gOf 5 2 false (c_resets_with)
/-! ### resets_all -/
def c_resets_all : C := (cRet (rDt (mOp isD (mCall0 (g0 g_group_bar) (mCons (mVar 0) mNil)) (mC .non))))
def g_resets_all : List D → List D → Option (D × List D) := gOf 1 1 false (c_resets_all)
/-! ### with_hall -/
def c_with_hall : C := (cSeq (cAsg 2 (rL (mLc (mEnum (mVar 0)) [3, 4] (gT 2 (gsCons (gN 3) (gsCons (gN 4) gsNil))) mYes (mOp addD (mOp addD (mCutT (mVar 0) mNoPart (mPart (mVar 3))) (mTup (mCons (mOp addD (mVar 4) (mTup (mCons (mVar 1) mNil))) mNil))) (mCutT (mVar 0) (mPart (mOp addD (mVar 3) (mC (.int 1)))) mNoPart)))))
  (cRet (rL (mCat (mLv 2) (mSz (mCons (mOp addD (mVar 0) (mTup (mCons (mTup (mCons (mVar 1) mNil)) mNil))) mNil))))))
def g_with_hall : List D → List D → Option (D × List D) := gOf 5 2 false (c_with_hall)
/-! ### all_partings -/
def c_all_partings : C := (cSeq (cAsg 1 (rL (mSz (mCons (mTup mNil) mNil))))
  (cSeq (cFor (iImm (mRng1 (mCons (mVar 0) mNil))) (gD 2) (cAsg 1 (rL (mLc2 (mSeq (mVar 1)) [3, 4] (gN 3) mYes (mAsL (mCall0 (g0 g_with_hall) (mCons (mVar 3) (mCons (mVar 2) mNil)))) [4] (gN 4) mYes (mVar 4)))))
  (cRetV 1)))
def g_all_partings : List D → List D → Option (D × List D) := gOf 5 1 false (c_all_partings)
/-! ### leads_to_parts -/
def c_leads_to_parts : C := (cRet (rDt (mCall allD (mCons (mLst (mLc (mSeq (mVar 1)) [2] (gN 2) mYes (mOp inD (mCall0 (g0 g_image) (mCons (mVar 0) (mCons (mVar 2) mNil))) (mVar 1)))) mNil))))
def g_leads_to_parts : List D → List D → Option (D × List D) := gOf 3 2 false (c_leads_to_parts)
/-! ### partings_kept -/
def c_partings_kept : C := (cSeq (cAsg 1 (rL (mAsL (mCall0 (g0 g_all_partings) (mCons (mOp ixD (mVar 0) (mC (.int 0))) mNil)))))
  (cSeq (cFor (iTup (mOp ixD (mVar 0) (mC (.int 1)))) (gD 2) (cAsg 1 (rL (mLc (mSeq (mVar 1)) [3] (gN 3) (mTest (mCall0 (g0 g_leads_to_parts) (mCons (mVar 2) (mCons (mVar 3) mNil)))) (mVar 3)))))
  (cRetV 1)))
def g_partings_kept : List D → List D → Option (D × List D) := gOf 4 1 false (c_partings_kept)
/-! ### parts_of_colours -/
def c_parts_of_colours : C := (cRet (rDt (mCall tupleD (mCons (mLst (mSortK (mSet gK (mLc (mSeq (mVar 0)) [1] (gN 1) mYes (mCall tupleD (mCons (mLst (mLc (mEnum (mVar 0)) [2, 3] (gT 2 (gsCons (gN 2) (gsCons (gN 3) gsNil))) (mTest (mOp eqD (mVar 3) (mVar 1))) (mVar 2))) mNil)))))) mNil))))
def g_parts_of_colours : List D → List D → Option (D × List D) := gOf 4 1 false (c_parts_of_colours)
/-! ### section -/
def c_section : C := (cSeq (cAsg 1 (rDt (mCall0 (g0 g_group_bar) (mCons (mVar 0) mNil))))
  (cSeq (cIf (mTest (mOp isD (mVar 1) (mC .non))) (cRet (rDt (mC .non))) cNil)
  (cSeq (cUnpV 1 (gT 3 (gsCons (gD 2) (gsCons (gD 3) (gsCons (gD 4) gsNil)))))
  (cRet (rDt (mTup (mCons (mCall0 (g0 g_parts_of_colours) (mCons (mVar 4) mNil)) (mCons (mVar 3) mNil))))))))
def g_section : List D → List D → Option (D × List D) := gOf 5 1 false (c_section)
/-! ### is_transitive -/
def c_is_transitive : C := (cSeq (cDrop (mCall0 (g0 g_check_turns) (mCons (mVar 0) mNil)))
  (cRet (rDt (mOp eqD (mCall lenDD (mCons (mDic (mAsD (mCall0 (g0 g_rows_from) (mCons (mVar 0) (mCons (mTup (mCons (mC (.int 0)) mNil)) mNil))))) mNil)) (mOp ixD (mVar 0) (mC (.int 0)))))))
def g_is_transitive : List D → List D → Option (D × List D) := gOf 1 1 false (c_is_transitive)
/-! ### is_pairwise -/
def c_is_pairwise : C := (cRet (rDt (mOp ltA (mCall lenD (mCons (mCall0 (g0 g_pair_lots) (mCons (mVar 0) mNil)) mNil)) (mC (.int 2)))))
def g_is_pairwise : List D → List D → Option (D × List D) := gOf 1 1 false (c_is_pairwise)
/-! ### is_primitive -/
def c_is_primitive : C := (cSeq (cDrop (mCall0 (g0 g_check_turns) (mCons (mVar 0) mNil)))
  (cRet (rDt (mOp leD (mCall lenD (mCons (mLst (mAsL (mCall0 (g0 g_partings_kept) (mCons (mVar 0) mNil)))) mNil)) (mC (.int 2))))))
def g_is_primitive : List D → List D → Option (D × List D) := gOf 1 1 false (c_is_primitive)
/-! ### kept_partings -/
def c_kept_partings : C := (cSeq (cDrop (mCall0 (g0 g_check_turns) (mCons (mVar 0) mNil)))
  (cSeq (cAsg 1 (rL (mAsL (mCall0 (g0 g_partings_kept) (mCons (mVar 0) mNil)))))
  (cSeq (cIf (mTest (mOp gtD (mCall lenD (mCons (mVar 1) mNil)) (mC (.int 100)))) cNever cNil)
  (cRet (rDt (mCall tupleD (mCons (mLst (mCallF sortedF (mCons (mVar 1) mNil))) mNil)))))))
def g_kept_partings : List D → List D → Option (D × List D) := gOf 2 1 false (c_kept_partings)
/-! ### _law_circle -/
def c__law_circle : C := (cRet (rDt (mCall tupleD (mCons (mLst (mLc (mRng1 (mCons (mVar 0) mNil)) [2] (gN 2) mYes (mOp modD (mOp addD (mVar 2) (mVar 1)) (mVar 0)))) mNil))))
def g__law_circle : List D → List D → Option (D × List D) := gOf 3 2 false (c__law_circle)
/-! ### shows_group_bar -/
def c_shows_group_bar : C := (cSeq (cDrop (mCall0 (g0 g_check_turns) (mCons (mVar 0) mNil)))
  (cSeq (cIf (mTest (mOp isD (mVar 1) (mC .non))) (cRet (rDt (mCall0 (g0 g_resets_all) (mCons (mVar 0) mNil)))) cNil)
  (cRet (rDt (mAndV (mCall0 (g0 g_is_bar) (mCons (mVar 0) (mCons (mVar 1) mNil))) (mOp neD (mOp ixD (mVar 1) (mC (.int 0))) (mCall0 (g0 g_whole_net) (mCons (mOp ixD (mVar 0) (mC (.int 0))) mNil))))))))
def g_shows_group_bar : List D → List D → Option (D × List D) := gOf 2 2 false (c_shows_group_bar)
/-! ### _law_pick -/
def c__law_pick : C := (cRet (rDt (mOp ixD (mVar 1) (mCallR 0 g__law_taken (mCons (mCall lenD (mCons (mVar 1) mNil)) mNil)))))
def g__law_pick : List D → List D → Option (D × List D) := gOf 2 1 true (c__law_pick)
/-! ### _law_known_groups -/
def c__law_known_groups : C := (cSeq (cAsg 1 (rL (mSz (mCons (mTup (mCons (mC (.int 1)) (mCons (mTup (mCons (mTup (mCons (mC (.int 0)) mNil)) mNil)) mNil))) (mCons (mTup (mCons (mC (.int 2)) (mCons (mTup (mCons (mTup (mCons (mC (.int 1)) (mCons (mC (.int 0)) mNil))) mNil)) mNil))) (mCons (mTup (mCons (mC (.int 2)) (mCons (mTup (mCons (mTup (mCons (mC (.int 0)) (mCons (mC (.int 1)) mNil))) mNil)) mNil))) (mCons (mTup (mCons (mC (.int 3)) (mCons (mTup (mCons (mTup (mCons (mC (.int 1)) (mCons (mC (.int 2)) (mCons (mC (.int 0)) mNil)))) mNil)) mNil))) mNil)))))))
  (cSeq (cAsg 1 (rL (mCat (mLv 1) (mSz (mCons (mTup (mCons (mC (.int 3)) (mCons (mTup (mCons (mTup (mCons (mC (.int 1)) (mCons (mC (.int 0)) (mCons (mC (.int 2)) mNil)))) mNil)) mNil))) (mCons (mTup (mCons (mC (.int 4)) (mCons (mTup (mCons (mCall0 (g0 g__law_circle) (mCons (mC (.int 4)) (mCons (mC (.int 1)) mNil))) mNil)) mNil))) mNil))))))
  (cSeq (cAsg 1 (rL (mCat (mLv 1) (mSz (mCons (mTup (mCons (mC (.int 4)) (mCons (mTup (mCons (mTup (mCons (mC (.int 1)) (mCons (mC (.int 0)) (mCons (mC (.int 3)) (mCons (mC (.int 2)) mNil))))) (mCons (mTup (mCons (mC (.int 2)) (mCons (mC (.int 3)) (mCons (mC (.int 0)) (mCons (mC (.int 1)) mNil))))) mNil))) mNil))) (mCons (mTup (mCons (mC (.int 4)) (mCons (mTup (mCons (mTup (mCons (mC (.int 1)) (mCons (mC (.int 2)) (mCons (mC (.int 0)) (mCons (mC (.int 3)) mNil))))) (mCons (mTup (mCons (mC (.int 1)) (mCons (mC (.int 0)) (mCons (mC (.int 3)) (mCons (mC (.int 2)) mNil))))) mNil))) mNil))) mNil))))))
  (cSeq (cAsg 1 (rL (mCat (mLv 1) (mSz (mCons (mTup (mCons (mC (.int 4)) (mCons (mTup (mCons (mCall0 (g0 g__law_circle) (mCons (mC (.int 4)) (mCons (mC (.int 1)) mNil))) (mCons (mTup (mCons (mC (.int 0)) (mCons (mC (.int 3)) (mCons (mC (.int 2)) (mCons (mC (.int 1)) mNil))))) mNil))) mNil))) mNil)))))
  (cSeq (cAsg 1 (rL (mCat (mLv 1) (mSz (mCons (mTup (mCons (mC (.int 5)) (mCons (mTup (mCons (mCall0 (g0 g__law_circle) (mCons (mC (.int 5)) (mCons (mC (.int 1)) mNil))) mNil)) mNil))) (mCons (mTup (mCons (mC (.int 5)) (mCons (mTup (mCons (mCall0 (g0 g__law_circle) (mCons (mC (.int 5)) (mCons (mC (.int 1)) mNil))) (mCons (mTup (mCons (mC (.int 0)) (mCons (mC (.int 4)) (mCons (mC (.int 3)) (mCons (mC (.int 2)) (mCons (mC (.int 1)) mNil)))))) mNil))) mNil))) mNil))))))
  (cSeq (cAsg 1 (rL (mCat (mLv 1) (mSz (mCons (mTup (mCons (mC (.int 5)) (mCons (mTup (mCons (mCall0 (g0 g__law_circle) (mCons (mC (.int 5)) (mCons (mC (.int 1)) mNil))) (mCons (mTup (mCons (mC (.int 0)) (mCons (mC (.int 2)) (mCons (mC (.int 4)) (mCons (mC (.int 1)) (mCons (mC (.int 3)) mNil)))))) mNil))) mNil))) mNil)))))
  (cSeq (cAsg 1 (rL (mCat (mLv 1) (mSz (mCons (mTup (mCons (mC (.int 6)) (mCons (mTup (mCons (mCall0 (g0 g__law_circle) (mCons (mC (.int 6)) (mCons (mC (.int 1)) mNil))) (mCons (mTup (mCons (mC (.int 0)) (mCons (mC (.int 5)) (mCons (mC (.int 4)) (mCons (mC (.int 3)) (mCons (mC (.int 2)) (mCons (mC (.int 1)) mNil))))))) mNil))) mNil))) (mCons (mTup (mCons (mC (.int 6)) (mCons (mTup (mCons (mTup (mCons (mC (.int 1)) (mCons (mC (.int 2)) (mCons (mC (.int 0)) (mCons (mC (.int 4)) (mCons (mC (.int 5)) (mCons (mC (.int 3)) mNil))))))) (mCons (mTup (mCons (mC (.int 3)) (mCons (mC (.int 4)) (mCons (mC (.int 5)) (mCons (mC (.int 0)) (mCons (mC (.int 1)) (mCons (mC (.int 2)) mNil))))))) mNil))) mNil))) mNil))))))
  (cSeq (cAsg 1 (rL (mCat (mLv 1) (mSz (mCons (mTup (mCons (mC (.int 6)) (mCons (mTup (mCons (mTup (mCons (mC (.int 1)) (mCons (mC (.int 2)) (mCons (mC (.int 3)) (mCons (mC (.int 4)) (mCons (mC (.int 0)) (mCons (mC (.int 5)) mNil))))))) (mCons (mTup (mCons (mC (.int 5)) (mCons (mC (.int 4)) (mCons (mC (.int 2)) (mCons (mC (.int 3)) (mCons (mC (.int 1)) (mCons (mC (.int 0)) mNil))))))) mNil))) mNil))) (mCons (mTup (mCons (mC (.int 7)) (mCons (mTup (mCons (mCall0 (g0 g__law_circle) (mCons (mC (.int 7)) (mCons (mC (.int 1)) mNil))) (mCons (mTup (mCons (mC (.int 0)) (mCons (mC (.int 2)) (mCons (mC (.int 4)) (mCons (mC (.int 6)) (mCons (mC (.int 1)) (mCons (mC (.int 3)) (mCons (mC (.int 5)) mNil)))))))) mNil))) mNil))) mNil))))))
  (cSeq (cAsg 1 (rL (mCat (mLv 1) (mSz (mCons (mTup (mCons (mC (.int 8)) (mCons (mTup (mCons (mCall0 (g0 g__law_circle) (mCons (mC (.int 8)) (mCons (mC (.int 1)) mNil))) (mCons (mTup (mCons (mC (.int 0)) (mCons (mC (.int 7)) (mCons (mC (.int 6)) (mCons (mC (.int 5)) (mCons (mC (.int 4)) (mCons (mC (.int 3)) (mCons (mC (.int 2)) (mCons (mC (.int 1)) mNil))))))))) mNil))) mNil))) (mCons (mTup (mCons (mC (.int 7)) (mCons (mTup (mCons (mCall0 (g0 g__law_circle) (mCons (mC (.int 7)) (mCons (mC (.int 1)) mNil))) mNil)) mNil))) mNil))))))
  (cRet (rL (mLc (mSeq (mVar 1)) [2] (gN 2) (mTest (mOp leD (mOp ixD (mVar 2) (mC (.int 0))) (mVar 0))) (mVar 2)))))))))))))
def g__law_known_groups : List D → List D → Option (D × List D) := gOf 3 1 false (c__law_known_groups)
/-! ### _law_group -/
def c__law_group : C := (cSeq (cIf (mTest (mOp eqD (mCallR 0 g__law_taken (mCons (mC (.int 3)) mNil)) (mC (.int 0)))) (cSeq (cAsg 2 (rDt (mOp addD (mC (.int 1)) (mCallR 0 g__law_taken (mCons (mCall minD (mCons (mVar 1) (mCons (mC (.int 5)) mNil))) mNil)))))
  (cRet (rDt (mTup (mCons (mVar 2) (mCons (mCall tupleD (mCons (mLst (mLc (mRng1 (mCons (mOp addD (mC (.int 1)) (mCallR 0 g__law_taken (mCons (mC (.int 2)) mNil))) mNil)) [9] (gN 9) mYes (mCallR 0 g__law_turn (mCons (mVar 2) mNil)))) mNil)) mNil)))))) cNil)
  (cSeq (cUnp (gT 2 (gsCons (gD 2) (gsCons (gD 3) gsNil))) (mCallR 0 g__law_pick (mCons (mLst (mAsL (mCall0 (g0 g__law_known_groups) (mCons (mVar 1) mNil)))) mNil)))
  (cSeq (cAsg 4 (rDt (mCallR 0 g__law_turn (mCons (mVar 2) mNil))))
  (cSeq (cAsg 5 (rL (mSz mNil)))
  (cSeq (cFor (iTup (mVar 3)) (gD 6) (cSeq (cAsg 7 (rL (mRep (mSz (mCons (mC (.int 0)) mNil)) (mVar 2))))
  (cSeq (cFor (iImm (mRng1 (mCons (mVar 2) mNil))) (gD 8) (cSetL 7 (mOp ixD (mVar 4) (mVar 8)) (mOp ixD (mVar 4) (mOp ixD (mVar 6) (mVar 8)))))
  (cApp 5 (mCall tupleD (mCons (mVar 7) mNil))))))
  (cRet (rDt (mTup (mCons (mVar 2) (mCons (mCall tupleD (mCons (mVar 5) mNil)) mNil))))))))))
def g__law_group : List D → List D → Option (D × List D) := gOf 10 1 true (c__law_group)
/-! ### _law_is_bar -/
def c__law_is_bar : C := (cSeq (cUnpV 2 (gT 3 (gsCons (gD 3) (gsCons (gD 4) (gsCons (gD 5) gsNil)))))
  (cSeq (cIf (mOr (mNot (mTest (mCall0 (g0 g__law_kept) (mCons (mVar 1) (mCons (mVar 3) mNil))))) (mOr (mTest (mOp ltA (mCall lenD (mCons (mVar 4) mNil)) (mC (.int 2)))) (mTest (mOp neD (mLst (mLc (mSeq (mVar 5)) [7] (gN 7) (mNot (mTest (mChain leD ltA (mC (.int 0)) (mVar 7) (mCall lenD (mCons (mVar 4) mNil))))) (mVar 7))) (mLst (mSz mNil)))))) (cRet (rDt (mC (.bl false)))) cNil)
  (cSeq (cFor (iImm (mRng1 (mCons (mCall lenD (mCons (mVar 4) mNil)) mNil))) (gD 6) (cIf (mTest (mOp neD (mLst (mLc (mSeq (mCutT (mVar 4) mNoPart (mPart (mVar 6)))) [8] (gN 8) (mTest (mOp notInD (mCall tupleD (mCons (mLst (mCallF sortedF (mCons (mLst (mSz (mCons (mVar 8) (mCons (mOp ixD (mVar 4) (mVar 6)) mNil)))) mNil))) mNil)) (mVar 3))) (mVar 8))) (mLst (mSz mNil)))) (cRet (rDt (mC (.bl false)))) cNil))
  (cRet (rDt (mOp eqD (mLst (mLc (mSeq (mVar 3)) [9] (gN 9) (mTest (mOp eqD (mOp ixD (mVar 5) (mOp ixD (mVar 9) (mC (.int 0)))) (mOp ixD (mVar 5) (mOp ixD (mVar 9) (mC (.int 1)))))) (mVar 9))) (mLst (mSz mNil))))))))
def g__law_is_bar : List D → List D → Option (D × List D) := gOf 10 3 false (c__law_is_bar)
/-! ### _law_bent -/
def c__law_bent : C := (cSeq (cUnpV 2 (gT 3 (gsCons (gD 3) (gsCons (gD 4) (gsCons (gD 5) gsNil)))))
  (cSeq (cAsg 6 (rDt (mCallR 0 g__law_taken (mCons (mC (.int 4)) mNil))))
  (cSeq (cIf (mTest (mOp eqD (mVar 6) (mC (.int 0)))) (cAsg 3 (rDt (mCall tupleD (mCons (mLst (mLc (mSeq (mCall0 (g0 g__law_ties) (mCons (mVar 1) mNil))) [8] (gN 8) (mTest (mOp eqD (mOp inD (mVar 8) (mVar 3)) (mOp gtD (mCallR 0 g__law_taken (mCons (mC (.int 6)) mNil)) (mC (.int 0))))) (mVar 8))) mNil)))) (cIf (mTest (mOp eqD (mVar 6) (mC (.int 1)))) (cAsg 4 (rDt (mCall tupleD (mCons (mLst (mSortI (mSet gI (mSeq (mOp addD (mCutT (mVar 4) (mPart (mC (.int 1))) mNoPart) (mTup (mCons (mCallR 0 g__law_taken (mCons (mVar 1) mNil)) mNil))))))) mNil)))) (cIf (mTest (mOp eqD (mVar 6) (mC (.int 2)))) (cSeq (cAsg 7 (rDt (mCallR 0 g__law_taken (mCons (mVar 1) mNil))))
  (cAsg 5 (rDt (mOp addD (mOp addD (mCutT (mVar 5) mNoPart (mPart (mVar 7))) (mTup (mCons (mCallR 0 g__law_taken (mCons (mVar 1) mNil)) mNil))) (mCutT (mVar 5) (mPart (mOp addD (mVar 7) (mC (.int 1)))) mNoPart))))) (cUnp (gT 3 (gsCons (gD 3) (gsCons (gD 4) (gsCons (gD 5) gsNil)))) (mTup (mCons (mCall0 (g0 g__law_ties) (mCons (mVar 1) mNil)) (mCons (mTupT (mRng1 (mCons (mVar 1) mNil))) (mCons (mTupT (mRng1 (mCons (mVar 1) mNil))) mNil))))))))
  (cRet (rDt (mTup (mCons (mVar 3) (mCons (mVar 4) (mCons (mVar 5) mNil)))))))))
def g__law_bent : List D → List D → Option (D × List D) := gOf 9 2 true (c__law_bent)
end MM
end

section
set_option Elab.async false
set_option linter.all false
set_option maxRecDepth 100000
set_option maxHeartbeats 2000000
namespace K13
open PySem PySem.Spec PyProof.Rows L2 VS MM
/-- the names that the defs lean on -/
structure Bi (mg : Str → Option Value) : Prop where
  all : mg "all" = none
  len : mg "len" = none
  isinstance : mg "isinstance" = none
  tuple : mg "tuple" = none
  sorted : mg "sorted" = none
  range : mg "range" = none
  enumerate : mg "enumerate" = none
  min : mg "min" = none
  set : mg "set" = none
  int : mg "int" = none
  zip : mg "zip" = none
  bool : mg "bool" = none
  MOST_HALLS : ∃ t, mg "MOST_HALLS" = some (.int 8 t)
  MOST_LETTERS : ∃ t, mg "MOST_LETTERS" = some (.int 6 t)
  MOST_CALLS : ∃ t, mg "MOST_CALLS" = some (.int 100 t)
  MOST_HALLS_COUNTED : ∃ t, mg "MOST_HALLS_COUNTED" = some (.int 5 t)
  MOST_NETS : ∃ t, mg "MOST_NETS" = some (.int 4096 t)
  MOST_PARTINGS : ∃ t, mg "MOST_PARTINGS" = some (.int 100 t)
  combinations : mg "combinations" = some (.type "itertools.combinations")
section
variable {P : Program} {w : World} {K : PySem.W.Frag} {mg : Str → Option Value} {base : Heap}
/-! ### is_number -/
abbrev n_is_number : List Str := ["value", "least", "most"]
abbrev a_is_number : List Str := ["value", "least", "most"]
theorem sc_is_number : FnScope n_is_number a_is_number (defScope (top 16)) := ⟨rfl, rfl, rfl, by decide +kernel, rfl, by decide +kernel, by decide +kernel⟩
theorem keep_is_number (b : Bi mg) (d : Dn K mg "is_number" (top 16)) : Keeps P w K mg base "is_number" a_is_number false 1 g_is_number :=
  d.keeps sc_is_number 3 rfl (by decide) (fun _ _ _ _ _ _ us hl => match us, hl with | [_, _, _], _ => rfl) fun f cdv hcd A outer s H E hr =>
  (s_cons (s_if (PMW.t (mw_or (mt_val (m_isi (mv 0) rfl b.isinstance rfl b.bool (by decide +kernel))) (mw_or1 (mt_not (mt_val (m_isi (mv 0) rfl b.isinstance rfl b.int (by decide +kernel))))))) (s_one (s_ret (r_dat m_bl))) s_nil)
  (s_one (s_ret (r_dat (m_chain o_le o_le (mv 1) (mv 0) (mv 2))))))
/-! ### is_hall -/
abbrev n_is_hall : List Str := ["halls", "value"]
abbrev a_is_hall : List Str := ["halls", "value"]
theorem sc_is_hall : FnScope n_is_hall a_is_hall (defScope (top 17)) := ⟨rfl, rfl, rfl, by decide +kernel, rfl, by decide +kernel, by decide +kernel⟩
theorem keep_is_hall (b : Bi mg) (d : Dn K mg "is_hall" (top 17)) (k_is_number : Keeps P w K mg base "is_number" a_is_number false 1 g_is_number) : Keeps P w K mg base "is_hall" a_is_hall false 2 g_is_hall :=
  d.keeps sc_is_hall 2 rfl (by decide) (fun _ _ _ _ _ _ us hl => match us, hl with | [_, _], _ => rfl) fun f cdv hcd A outer s H E hr =>
  (s_one (s_ret (r_dat (kc k_is_number hr (by decide) (ma_cons (mv 1) (ma_cons m_int (ma_cons (m_op o_sub (mv 0) m_int) ma_nil)))))))
/-! ### is_letter -/
abbrev n_is_letter : List Str := ["letters", "value"]
abbrev a_is_letter : List Str := ["letters", "value"]
theorem sc_is_letter : FnScope n_is_letter a_is_letter (defScope (top 18)) := ⟨rfl, rfl, rfl, by decide +kernel, rfl, by decide +kernel, by decide +kernel⟩
theorem keep_is_letter (b : Bi mg) (d : Dn K mg "is_letter" (top 18)) (k_is_number : Keeps P w K mg base "is_number" a_is_number false 1 g_is_number) : Keeps P w K mg base "is_letter" a_is_letter false 2 g_is_letter :=
  d.keeps sc_is_letter 2 rfl (by decide) (fun _ _ _ _ _ _ us hl => match us, hl with | [_, _], _ => rfl) fun f cdv hcd A outer s H E hr =>
  (s_one (s_ret (r_dat (kc k_is_number hr (by decide) (ma_cons (mv 1) (ma_cons m_int (ma_cons (m_op o_sub (mv 0) m_int) ma_nil)))))))
/-! ### is_tuple_of_halls -/
abbrev n_is_tuple_of_halls : List Str := ["halls", "value", "hall"]
abbrev a_is_tuple_of_halls : List Str := ["halls", "value"]
theorem sc_is_tuple_of_halls : FnScope n_is_tuple_of_halls a_is_tuple_of_halls (defScope (top 19)) := ⟨rfl, rfl, rfl, by decide +kernel, rfl, by decide +kernel, by decide +kernel⟩
theorem keep_is_tuple_of_halls (b : Bi mg) (d : Dn K mg "is_tuple_of_halls" (top 19)) (k_is_hall : Keeps P w K mg base "is_hall" a_is_hall false 2 g_is_hall) : Keeps P w K mg base "is_tuple_of_halls" a_is_tuple_of_halls false 3 g_is_tuple_of_halls :=
  d.keeps sc_is_tuple_of_halls 2 rfl (by decide) (fun _ _ _ _ _ _ us hl => match us, hl with | [_, _], _ => rfl) fun f cdv hcd A outer s H E hr =>
  (s_one (s_ret (r_dat (m_and (m_isi (mv 1) rfl b.isinstance rfl b.tuple (by decide +kernel)) (m_one (m_callB (c_all rfl) rfl b.all boot_all (ma_cons (PMF.m (mf_lc (own := [("hall", 2)]) rfl sc_is_tuple_of_halls.nd (mi_seq (mv 1)) (by refine blkOk_by ?_; kernel_rfl) (fun _ _ _ _ _ => (mg_name (i := 2) sc_is_tuple_of_halls.nd rfl (by first | exact Or.inl rfl | exact Or.inr rfl))) (fun _ _ _ _ _ => mts_nil) (fun _ _ _ _ _ => (kc k_is_hall hr (by decide) (ma_cons (mv 0) (ma_cons (mv 2) ma_nil)))))) ma_nil)))))))
/-! ### is_map -/
abbrev n_is_map : List Str := ["halls", "value"]
abbrev a_is_map : List Str := ["halls", "value"]
theorem sc_is_map : FnScope n_is_map a_is_map (defScope (top 20)) := ⟨rfl, rfl, rfl, by decide +kernel, rfl, by decide +kernel, by decide +kernel⟩
theorem keep_is_map (b : Bi mg) (d : Dn K mg "is_map" (top 20)) (k_is_tuple_of_halls : Keeps P w K mg base "is_tuple_of_halls" a_is_tuple_of_halls false 3 g_is_tuple_of_halls) : Keeps P w K mg base "is_map" a_is_map false 4 g_is_map :=
  d.keeps sc_is_map 2 rfl (by decide) (fun _ _ _ _ _ _ us hl => match us, hl with | [_, _], _ => rfl) fun f cdv hcd A outer s H E hr =>
  (s_one (s_ret (r_dat (m_and (kc k_is_tuple_of_halls hr (by decide) (ma_cons (mv 0) (ma_cons (mv 1) ma_nil))) (m_one (m_cmp (o_eq hr.units) (m_callB c_len rfl b.len boot_len (ma_cons (mv 1) ma_nil)) (mv 0)))))))
/-! ### are_maps -/
abbrev n_are_maps : List Str := ["halls", "value", "places"]
abbrev a_are_maps : List Str := ["halls", "value"]
theorem sc_are_maps : FnScope n_are_maps a_are_maps (defScope (top 21)) := ⟨rfl, rfl, rfl, by decide +kernel, rfl, by decide +kernel, by decide +kernel⟩
theorem keep_are_maps (b : Bi mg) (d : Dn K mg "are_maps" (top 21)) (k_is_map : Keeps P w K mg base "is_map" a_is_map false 4 g_is_map) : Keeps P w K mg base "are_maps" a_are_maps false 5 g_are_maps :=
  d.keeps sc_are_maps 2 rfl (by decide) (fun _ _ _ _ _ _ us hl => match us, hl with | [_, _], _ => rfl) fun f cdv hcd A outer s H E hr =>
  (s_cons (s_if (PMW.t (mw_or (mt_not (mt_val (m_isi (mv 1) rfl b.isinstance rfl b.tuple (by decide +kernel)))) (mw_or1 (mt_not (mt_chain o_le o_le m_int (m_callB c_len rfl b.len boot_len (ma_cons (mv 1) ma_nil)) (m_glob rfl b.MOST_LETTERS.choose_spec)))))) (s_one (s_ret (r_dat m_bl))) s_nil)
  (s_one (s_ret (r_dat (m_callB (c_all rfl) rfl b.all boot_all (ma_cons (PMF.m (mf_lc (own := [("places", 2)]) rfl sc_are_maps.nd (mi_seq (mv 1)) (by refine blkOk_by ?_; kernel_rfl) (fun _ _ _ _ _ => (mg_name (i := 2) sc_are_maps.nd rfl (by first | exact Or.inl rfl | exact Or.inr rfl))) (fun _ _ _ _ _ => mts_nil) (fun _ _ _ _ _ => (kc k_is_map hr (by decide) (ma_cons (mv 0) (ma_cons (mv 2) ma_nil)))))) ma_nil))))))
/-! ### is_ascending -/
abbrev n_is_ascending : List Str := ["values", "low", "high"]
abbrev a_is_ascending : List Str := ["values"]
theorem sc_is_ascending : FnScope n_is_ascending a_is_ascending (defScope (top 22)) := ⟨rfl, rfl, rfl, by decide +kernel, rfl, by decide +kernel, by decide +kernel⟩
theorem keep_is_ascending (b : Bi mg) (d : Dn K mg "is_ascending" (top 22)) : Keeps P w K mg base "is_ascending" a_is_ascending false 1 g_is_ascending :=
  d.keeps sc_is_ascending 1 rfl (by decide) (fun _ _ _ _ _ _ us hl => match us, hl with | [_], _ => rfl) fun f cdv hcd A outer s H E hr =>
  (s_one (s_ret (r_dat (m_callB (c_all rfl) rfl b.all boot_all (ma_cons (PMF.m (mf_lc (own := [("low", 1), ("high", 2)]) rfl sc_is_ascending.nd (mi_zip rfl b.zip (mv 0) (m_cutT (mv 0) (mo_some m_int) mo_none)) (by refine blkOk_by ?_; kernel_rfl) (fun _ _ _ _ _ => (mg_tup rfl (mgs_cons (mg_name (i := 1) sc_is_ascending.nd rfl (by first | exact Or.inl rfl | exact Or.inr rfl)) (mgs_cons (mg_name (i := 2) sc_is_ascending.nd rfl (by first | exact Or.inl rfl | exact Or.inr rfl)) mgs_nil)))) (fun _ _ _ _ _ => mts_nil) (fun _ _ _ _ _ => (m_cmp (o_ltA hr.units) (mv 1) (mv 2))))) ma_nil)))))
/-! ### is_lot -/
abbrev n_is_lot : List Str := ["halls", "value"]
abbrev a_is_lot : List Str := ["halls", "value"]
theorem sc_is_lot : FnScope n_is_lot a_is_lot (defScope (top 23)) := ⟨rfl, rfl, rfl, by decide +kernel, rfl, by decide +kernel, by decide +kernel⟩
theorem keep_is_lot (b : Bi mg) (d : Dn K mg "is_lot" (top 23)) (k_is_ascending : Keeps P w K mg base "is_ascending" a_is_ascending false 1 g_is_ascending) (k_is_tuple_of_halls : Keeps P w K mg base "is_tuple_of_halls" a_is_tuple_of_halls false 3 g_is_tuple_of_halls) : Keeps P w K mg base "is_lot" a_is_lot false 4 g_is_lot :=
  d.keeps sc_is_lot 2 rfl (by decide) (fun _ _ _ _ _ _ us hl => match us, hl with | [_, _], _ => rfl) fun f cdv hcd A outer s H E hr =>
  (s_one (s_ret (r_dat (m_and (kc k_is_tuple_of_halls hr (by decide) (ma_cons (mv 0) (ma_cons (mv 1) ma_nil))) (m_and (m_cmp o_gt (m_callB c_len rfl b.len boot_len (ma_cons (mv 1) ma_nil)) m_int) (m_one (kc k_is_ascending hr (by decide) (ma_cons (mv 1) ma_nil))))))))
/-! ### is_tie -/
abbrev n_is_tie : List Str := ["halls", "value"]
abbrev a_is_tie : List Str := ["halls", "value"]
theorem sc_is_tie : FnScope n_is_tie a_is_tie (defScope (top 24)) := ⟨rfl, rfl, rfl, by decide +kernel, rfl, by decide +kernel, by decide +kernel⟩
theorem keep_is_tie (b : Bi mg) (d : Dn K mg "is_tie" (top 24)) (k_is_lot : Keeps P w K mg base "is_lot" a_is_lot false 4 g_is_lot) : Keeps P w K mg base "is_tie" a_is_tie false 5 g_is_tie :=
  d.keeps sc_is_tie 2 rfl (by decide) (fun _ _ _ _ _ _ us hl => match us, hl with | [_, _], _ => rfl) fun f cdv hcd A outer s H E hr =>
  (s_one (s_ret (r_dat (m_and (kc k_is_lot hr (by decide) (ma_cons (mv 0) (ma_cons (mv 1) ma_nil))) (m_one (m_cmp (o_eq hr.units) (m_callB c_len rfl b.len boot_len (ma_cons (mv 1) ma_nil)) m_int))))))
/-! ### is_net -/
abbrev n_is_net : List Str := ["halls", "value", "tie"]
abbrev a_is_net : List Str := ["halls", "value"]
theorem sc_is_net : FnScope n_is_net a_is_net (defScope (top 25)) := ⟨rfl, rfl, rfl, by decide +kernel, rfl, by decide +kernel, by decide +kernel⟩
theorem keep_is_net (b : Bi mg) (d : Dn K mg "is_net" (top 25)) (k_is_tie : Keeps P w K mg base "is_tie" a_is_tie false 5 g_is_tie) (k_is_ascending : Keeps P w K mg base "is_ascending" a_is_ascending false 1 g_is_ascending) : Keeps P w K mg base "is_net" a_is_net false 6 g_is_net :=
  d.keeps sc_is_net 2 rfl (by decide) (fun _ _ _ _ _ _ us hl => match us, hl with | [_, _], _ => rfl) fun f cdv hcd A outer s H E hr =>
  (s_cons (s_if (PMW.t (mw_or (mt_not (mt_val (m_isi (mv 1) rfl b.isinstance rfl b.tuple (by decide +kernel)))) (mw_or1 (mt_not (mt_val (m_callB (c_all rfl) rfl b.all boot_all (ma_cons (PMF.m (mf_lc (own := [("tie", 2)]) rfl sc_is_net.nd (mi_seq (mv 1)) (by refine blkOk_by ?_; kernel_rfl) (fun _ _ _ _ _ => (mg_name (i := 2) sc_is_net.nd rfl (by first | exact Or.inl rfl | exact Or.inr rfl))) (fun _ _ _ _ _ => mts_nil) (fun _ _ _ _ _ => (kc k_is_tie hr (by decide) (ma_cons (mv 0) (ma_cons (mv 2) ma_nil)))))) ma_nil))))))) (s_one (s_ret (r_dat m_bl))) s_nil)
  (s_one (s_ret (r_dat (kc k_is_ascending hr (by decide) (ma_cons (mv 1) ma_nil))))))
/-! ### is_one_to_one -/
abbrev n_is_one_to_one : List Str := ["places"]
abbrev a_is_one_to_one : List Str := ["places"]
theorem sc_is_one_to_one : FnScope n_is_one_to_one a_is_one_to_one (defScope (top 26)) := ⟨rfl, rfl, rfl, by decide +kernel, rfl, by decide +kernel, by decide +kernel⟩
theorem keep_is_one_to_one (b : Bi mg) (d : Dn K mg "is_one_to_one" (top 26)) : Keeps P w K mg base "is_one_to_one" a_is_one_to_one false 1 g_is_one_to_one :=
  d.keeps sc_is_one_to_one 1 rfl (by decide) (fun _ _ _ _ _ _ us hl => match us, hl with | [_], _ => rfl) fun f cdv hcd A outer s H E hr =>
  (s_one (s_ret (r_dat (m_cmp (o_eq hr.units) (m_lenI rfl b.len (mk_set (kindI _) rfl rfl b.set (mv 0))) (m_callB c_len rfl b.len boot_len (ma_cons (mv 0) ma_nil))))))
/-! ### house_fault -/
abbrev n_house_fault : List Str := ["value", "halls", "maps"]
abbrev a_house_fault : List Str := ["value"]
theorem sc_house_fault : FnScope n_house_fault a_house_fault (defScope (top 27)) := ⟨rfl, rfl, rfl, by decide +kernel, rfl, by decide +kernel, by decide +kernel⟩
theorem keep_house_fault (b : Bi mg) (d : Dn K mg "house_fault" (top 27)) (k_is_number : Keeps P w K mg base "is_number" a_is_number false 1 g_is_number) (k_are_maps : Keeps P w K mg base "are_maps" a_are_maps false 5 g_are_maps) : Keeps P w K mg base "house_fault" a_house_fault false 6 g_house_fault :=
  d.keeps sc_house_fault 1 rfl (by decide) (fun _ _ _ _ _ _ us hl => match us, hl with | [_], _ => rfl) fun f cdv hcd A outer s H E hr =>
  (s_cons (s_if (PMW.t (mw_or (mt_not (mt_val (m_isi (mv 0) rfl b.isinstance rfl b.tuple (by decide +kernel)))) (mw_or1 (mt_cmp (o_ne hr.units) (m_callB c_len rfl b.len boot_len (ma_cons (mv 0) ma_nil)) m_int)))) (s_one (s_ret (r_dat m_str))) s_nil)
  (s_cons (s_unpV (i := 0) rfl (by first | exact Or.inl rfl | exact Or.inr (Or.inl rfl) | exact Or.inr (Or.inr rfl)) (gs_tup rfl (gss_cons (gs_name (i := 1) sc_house_fault.nd rfl (by first | exact Or.inl rfl | exact Or.inr rfl)) (gss_cons (gs_name (i := 2) sc_house_fault.nd rfl (by first | exact Or.inl rfl | exact Or.inr rfl)) gss_nil))))
  (s_cons (s_if (mt_not (mt_val (kc k_is_number hr (by decide) (ma_cons (mv 1) (ma_cons m_int (ma_cons (m_glob rfl b.MOST_HALLS.choose_spec) ma_nil)))))) (s_one (s_ret (r_dat m_str))) s_nil)
  (s_cons (s_if (mt_not (mt_val (kc k_are_maps hr (by decide) (ma_cons (mv 1) (ma_cons (mv 2) ma_nil))))) (s_one (s_ret (r_dat m_str))) s_nil)
  (s_one (s_ret (r_dat m_non)))))))
/-! ### check_house -/
abbrev n_check_house : List Str := ["value", "fault"]
abbrev a_check_house : List Str := ["value"]
theorem sc_check_house : FnScope n_check_house a_check_house (defScope (top 28)) := ⟨rfl, rfl, rfl, by decide +kernel, rfl, by decide +kernel, by decide +kernel⟩
theorem keep_check_house (b : Bi mg) (d : Dn K mg "check_house" (top 28)) (k_house_fault : Keeps P w K mg base "house_fault" a_house_fault false 6 g_house_fault) : Keeps P w K mg base "check_house" a_check_house false 7 g_check_house :=
  d.keeps sc_check_house 1 rfl (by decide) (fun _ _ _ _ _ _ us hl => match us, hl with | [_], _ => rfl) fun f cdv hcd A outer s H E hr =>
  (s_cons (s_asg (i := 1) sc_check_house.nd rfl (by first | exact Or.inl rfl | exact Or.inr rfl) (r_dat (kc k_house_fault hr (by decide) (ma_cons (mv 0) ma_nil))))
  (s_one (s_if (mt_cmp o_isNot (mv 1) m_non) (s_one s_never) s_nil)))
/-! ### check_turns -/
abbrev n_check_turns : List Str := ["value", "places"]
abbrev a_check_turns : List Str := ["value"]
theorem sc_check_turns : FnScope n_check_turns a_check_turns (defScope (top 29)) := ⟨rfl, rfl, rfl, by decide +kernel, rfl, by decide +kernel, by decide +kernel⟩
theorem keep_check_turns (b : Bi mg) (d : Dn K mg "check_turns" (top 29)) (k_check_house : Keeps P w K mg base "check_house" a_check_house false 7 g_check_house) (k_is_one_to_one : Keeps P w K mg base "is_one_to_one" a_is_one_to_one false 1 g_is_one_to_one) : Keeps P w K mg base "check_turns" a_check_turns false 8 g_check_turns :=
  d.keeps sc_check_turns 1 rfl (by decide) (fun _ _ _ _ _ _ us hl => match us, hl with | [_], _ => rfl) fun f cdv hcd A outer s H E hr =>
  (s_cons (s_drop (kc k_check_house hr (by decide) (ma_cons (mv 0) ma_nil)))
  (s_one (s_if (mt_not (mt_val (m_callB (c_all rfl) rfl b.all boot_all (ma_cons (PMF.m (mf_lc (own := [("places", 1)]) rfl sc_check_turns.nd (mi_seq (m_ix x_ix (mv 0) m_int)) (by refine blkOk_by ?_; kernel_rfl) (fun _ _ _ _ _ => (mg_name (i := 1) sc_check_turns.nd rfl (by first | exact Or.inl rfl | exact Or.inr rfl))) (fun _ _ _ _ _ => mts_nil) (fun _ _ _ _ _ => (kc k_is_one_to_one hr (by decide) (ma_cons (mv 1) ma_nil))))) ma_nil)))) (s_one s_never) s_nil)))
/-! ### check_number_of_halls -/
abbrev n_check_number_of_halls : List Str := ["value"]
abbrev a_check_number_of_halls : List Str := ["value"]
theorem sc_check_number_of_halls : FnScope n_check_number_of_halls a_check_number_of_halls (defScope (top 30)) := ⟨rfl, rfl, rfl, by decide +kernel, rfl, by decide +kernel, by decide +kernel⟩
theorem keep_check_number_of_halls (b : Bi mg) (d : Dn K mg "check_number_of_halls" (top 30)) (k_is_number : Keeps P w K mg base "is_number" a_is_number false 1 g_is_number) : Keeps P w K mg base "check_number_of_halls" a_check_number_of_halls false 2 g_check_number_of_halls :=
  d.keeps sc_check_number_of_halls 1 rfl (by decide) (fun _ _ _ _ _ _ us hl => match us, hl with | [_], _ => rfl) fun f cdv hcd A outer s H E hr =>
  (s_one (s_if (mt_not (mt_val (kc k_is_number hr (by decide) (ma_cons (mv 0) (ma_cons m_int (ma_cons (m_glob rfl b.MOST_HALLS.choose_spec) ma_nil)))))) (s_one s_never) s_nil))
/-! ### check_hall -/
abbrev n_check_hall : List Str := ["halls", "value"]
abbrev a_check_hall : List Str := ["halls", "value"]
theorem sc_check_hall : FnScope n_check_hall a_check_hall (defScope (top 31)) := ⟨rfl, rfl, rfl, by decide +kernel, rfl, by decide +kernel, by decide +kernel⟩
theorem keep_check_hall (b : Bi mg) (d : Dn K mg "check_hall" (top 31)) (k_is_hall : Keeps P w K mg base "is_hall" a_is_hall false 2 g_is_hall) : Keeps P w K mg base "check_hall" a_check_hall false 3 g_check_hall :=
  d.keeps sc_check_hall 2 rfl (by decide) (fun _ _ _ _ _ _ us hl => match us, hl with | [_, _], _ => rfl) fun f cdv hcd A outer s H E hr =>
  (s_one (s_if (mt_not (mt_val (kc k_is_hall hr (by decide) (ma_cons (mv 0) (ma_cons (mv 1) ma_nil))))) (s_one s_never) s_nil))
/-! ### check_lot -/
abbrev n_check_lot : List Str := ["halls", "value"]
abbrev a_check_lot : List Str := ["halls", "value"]
theorem sc_check_lot : FnScope n_check_lot a_check_lot (defScope (top 32)) := ⟨rfl, rfl, rfl, by decide +kernel, rfl, by decide +kernel, by decide +kernel⟩
theorem keep_check_lot (b : Bi mg) (d : Dn K mg "check_lot" (top 32)) (k_is_lot : Keeps P w K mg base "is_lot" a_is_lot false 4 g_is_lot) : Keeps P w K mg base "check_lot" a_check_lot false 5 g_check_lot :=
  d.keeps sc_check_lot 2 rfl (by decide) (fun _ _ _ _ _ _ us hl => match us, hl with | [_, _], _ => rfl) fun f cdv hcd A outer s H E hr =>
  (s_one (s_if (mt_not (mt_val (kc k_is_lot hr (by decide) (ma_cons (mv 0) (ma_cons (mv 1) ma_nil))))) (s_one s_never) s_nil))
/-! ### check_map -/
abbrev n_check_map : List Str := ["halls", "value"]
abbrev a_check_map : List Str := ["halls", "value"]
theorem sc_check_map : FnScope n_check_map a_check_map (defScope (top 33)) := ⟨rfl, rfl, rfl, by decide +kernel, rfl, by decide +kernel, by decide +kernel⟩
theorem keep_check_map (b : Bi mg) (d : Dn K mg "check_map" (top 33)) (k_is_map : Keeps P w K mg base "is_map" a_is_map false 4 g_is_map) : Keeps P w K mg base "check_map" a_check_map false 5 g_check_map :=
  d.keeps sc_check_map 2 rfl (by decide) (fun _ _ _ _ _ _ us hl => match us, hl with | [_, _], _ => rfl) fun f cdv hcd A outer s H E hr =>
  (s_one (s_if (mt_not (mt_val (kc k_is_map hr (by decide) (ma_cons (mv 0) (ma_cons (mv 1) ma_nil))))) (s_one s_never) s_nil))
/-! ### check_net -/
abbrev n_check_net : List Str := ["halls", "value"]
abbrev a_check_net : List Str := ["halls", "value"]
theorem sc_check_net : FnScope n_check_net a_check_net (defScope (top 34)) := ⟨rfl, rfl, rfl, by decide +kernel, rfl, by decide +kernel, by decide +kernel⟩
theorem keep_check_net (b : Bi mg) (d : Dn K mg "check_net" (top 34)) (k_is_net : Keeps P w K mg base "is_net" a_is_net false 6 g_is_net) : Keeps P w K mg base "check_net" a_check_net false 7 g_check_net :=
  d.keeps sc_check_net 2 rfl (by decide) (fun _ _ _ _ _ _ us hl => match us, hl with | [_, _], _ => rfl) fun f cdv hcd A outer s H E hr =>
  (s_one (s_if (mt_not (mt_val (kc k_is_net hr (by decide) (ma_cons (mv 0) (ma_cons (mv 1) ma_nil))))) (s_one s_never) s_nil))
/-! ### check_row -/
abbrev n_check_row : List Str := ["letters", "value", "index", "letter"]
abbrev a_check_row : List Str := ["letters", "value"]
theorem sc_check_row : FnScope n_check_row a_check_row (defScope (top 35)) := ⟨rfl, rfl, rfl, by decide +kernel, rfl, by decide +kernel, by decide +kernel⟩
theorem keep_check_row (b : Bi mg) (d : Dn K mg "check_row" (top 35)) (k_is_letter : Keeps P w K mg base "is_letter" a_is_letter false 2 g_is_letter) : Keeps P w K mg base "check_row" a_check_row false 3 g_check_row :=
  d.keeps sc_check_row 2 rfl (by decide) (fun _ _ _ _ _ _ us hl => match us, hl with | [_, _], _ => rfl) fun f cdv hcd A outer s H E hr =>
  (s_cons (s_if (PMW.t (mw_or (mt_not (mt_val (m_isi (mv 1) rfl b.isinstance rfl b.tuple (by decide +kernel)))) (mw_or1 (mt_cmp o_gt (m_callB c_len rfl b.len boot_len (ma_cons (mv 1) ma_nil)) (m_glob rfl b.MOST_CALLS.choose_spec))))) (s_one s_never) s_nil)
  (s_one (s_for rfl (i_enum rfl b.enumerate (mv 1)) (gs_tup rfl (gss_cons (gs_name (i := 2) sc_check_row.nd rfl (by first | exact Or.inl rfl | exact Or.inr rfl)) (gss_cons (gs_name (i := 3) sc_check_row.nd rfl (by first | exact Or.inl rfl | exact Or.inr rfl)) gss_nil))) (s_one (s_if (mt_not (mt_val (kc k_is_letter hr (by decide) (ma_cons (mv 0) (ma_cons (mv 3) ma_nil))))) (s_one s_never) s_nil)) PassesOwn.never)))
/-! ### image -/
abbrev n_image : List Str := ["places", "lot", "hall"]
abbrev a_image : List Str := ["places", "lot"]
theorem sc_image : FnScope n_image a_image (defScope (top 37)) := ⟨rfl, rfl, rfl, by decide +kernel, rfl, by decide +kernel, by decide +kernel⟩
theorem keep_image (b : Bi mg) (d : Dn K mg "image" (top 37)) : Keeps P w K mg base "image" a_image false 1 g_image :=
  d.keeps sc_image 2 rfl (by decide) (fun _ _ _ _ _ _ us hl => match us, hl with | [_, _], _ => rfl) fun f cdv hcd A outer s H E hr =>
  (s_one (s_ret (r_dat (m_callTy c_tuple rfl b.tuple boot_tuple (ma_cons (PMF.m (mf_sortedI rfl rfl b.sorted (mk_sc (own := [("hall", 2)]) (kindI _) rfl sc_image.nd (mi_seq (mv 1)) (by refine blkOk_by ?_; kernel_rfl) (fun _ _ _ _ _ => (mg_name (i := 2) sc_image.nd rfl (by first | exact Or.inl rfl | exact Or.inr rfl))) (fun _ _ _ _ _ => mts_nil) (fun _ _ _ _ _ => (m_ix x_ix (mv 0) (mv 2)))) (he := rfl) (hlen := mSet_len))) ma_nil)))))
/-! ### led -/
abbrev n_led : List Str := ["house", "lot", "row", "halls", "maps", "here", "letter"]
abbrev a_led : List Str := ["house", "lot", "row"]
theorem sc_led : FnScope n_led a_led (defScope (top 38)) := ⟨rfl, rfl, rfl, by decide +kernel, rfl, by decide +kernel, by decide +kernel⟩
theorem keep_led (b : Bi mg) (d : Dn K mg "led" (top 38)) (k_check_house : Keeps P w K mg base "check_house" a_check_house false 7 g_check_house) (k_check_lot : Keeps P w K mg base "check_lot" a_check_lot false 5 g_check_lot) (k_check_row : Keeps P w K mg base "check_row" a_check_row false 3 g_check_row) (k_image : Keeps P w K mg base "image" a_image false 1 g_image) : Keeps P w K mg base "led" a_led false 8 g_led :=
  d.keeps sc_led 3 rfl (by decide) (fun _ _ _ _ _ _ us hl => match us, hl with | [_, _, _], _ => rfl) fun f cdv hcd A outer s H E hr =>
  (s_cons (s_drop (kc k_check_house hr (by decide) (ma_cons (mv 0) ma_nil)))
  (s_cons (s_unpV (i := 0) rfl (by first | exact Or.inl rfl | exact Or.inr (Or.inl rfl) | exact Or.inr (Or.inr rfl)) (gs_tup rfl (gss_cons (gs_name (i := 3) sc_led.nd rfl (by first | exact Or.inl rfl | exact Or.inr rfl)) (gss_cons (gs_name (i := 4) sc_led.nd rfl (by first | exact Or.inl rfl | exact Or.inr rfl)) gss_nil))))
  (s_cons (s_drop (kc k_check_lot hr (by decide) (ma_cons (mv 3) (ma_cons (mv 1) ma_nil))))
  (s_cons (s_drop (kc k_check_row hr (by decide) (ma_cons (m_callB c_len rfl b.len boot_len (ma_cons (mv 4) ma_nil)) (ma_cons (mv 2) ma_nil))))
  (s_cons (s_asg (i := 5) sc_led.nd rfl (by first | exact Or.inl rfl | exact Or.inr rfl) (r_dat (mv 1)))
  (s_cons (s_for rfl (i_tup (mv 2)) (gs_name (i := 6) sc_led.nd rfl (by first | exact Or.inl rfl | exact Or.inr rfl)) (s_one (s_asg (i := 5) sc_led.nd rfl (by first | exact Or.inl rfl | exact Or.inr rfl) (r_dat (kc k_image hr (by decide) (ma_cons (m_ix x_ix (mv 4) (mv 6)) (ma_cons (mv 5) ma_nil)))))) PassesOwn.never)
  (s_one (s_ret (r_dat (mv 5))))))))))
/-! ### map_of -/
abbrev n_map_of : List Str := ["house", "row", "halls", "maps", "places", "letter", "hall"]
abbrev a_map_of : List Str := ["house", "row"]
theorem sc_map_of : FnScope n_map_of a_map_of (defScope (top 39)) := ⟨rfl, rfl, rfl, by decide +kernel, rfl, by decide +kernel, by decide +kernel⟩
theorem keep_map_of (b : Bi mg) (d : Dn K mg "map_of" (top 39)) (k_check_house : Keeps P w K mg base "check_house" a_check_house false 7 g_check_house) (k_check_row : Keeps P w K mg base "check_row" a_check_row false 3 g_check_row) : Keeps P w K mg base "map_of" a_map_of false 8 g_map_of :=
  d.keeps sc_map_of 2 rfl (by decide) (fun _ _ _ _ _ _ us hl => match us, hl with | [_, _], _ => rfl) fun f cdv hcd A outer s H E hr =>
  (s_cons (s_drop (kc k_check_house hr (by decide) (ma_cons (mv 0) ma_nil)))
  (s_cons (s_unpV (i := 0) rfl (by first | exact Or.inl rfl | exact Or.inr (Or.inl rfl) | exact Or.inr (Or.inr rfl)) (gs_tup rfl (gss_cons (gs_name (i := 2) sc_map_of.nd rfl (by first | exact Or.inl rfl | exact Or.inr rfl)) (gss_cons (gs_name (i := 3) sc_map_of.nd rfl (by first | exact Or.inl rfl | exact Or.inr rfl)) gss_nil))))
  (s_cons (s_drop (kc k_check_row hr (by decide) (ma_cons (m_callB c_len rfl b.len boot_len (ma_cons (mv 3) ma_nil)) (ma_cons (mv 1) ma_nil))))
  (s_cons (s_asg (i := 4) sc_map_of.nd rfl (by first | exact Or.inl rfl | exact Or.inr rfl) (r_dat (m_tupRg1 rfl rfl b.tuple rfl b.range (mv 2))))
  (s_cons (s_for rfl (i_tup (mv 1)) (gs_name (i := 5) sc_map_of.nd rfl (by first | exact Or.inl rfl | exact Or.inr rfl)) (s_one (s_asg (i := 4) sc_map_of.nd rfl (by first | exact Or.inl rfl | exact Or.inr rfl) (r_dat (m_callTy c_tuple rfl b.tuple boot_tuple (ma_cons (PMF.m (mf_lc (own := [("hall", 6)]) rfl sc_map_of.nd (mi_seq (mv 4)) (by refine blkOk_by ?_; kernel_rfl) (fun _ _ _ _ _ => (mg_name (i := 6) sc_map_of.nd rfl (by first | exact Or.inl rfl | exact Or.inr rfl))) (fun _ _ _ _ _ => mts_nil) (fun _ _ _ _ _ => (m_ix x_ix (m_ix x_ix (mv 3) (mv 5)) (mv 6))))) ma_nil))))) PassesOwn.never)
  (s_one (s_ret (r_dat (mv 4)))))))))
/-! ### rows_from -/
abbrev n_rows_from : List Str := ["house", "lot", "maps", "rows", "reached", "at", "here", "letter", "places", "there"]
abbrev a_rows_from : List Str := ["house", "lot"]
theorem sc_rows_from : FnScope n_rows_from a_rows_from (defScope (top 41)) := ⟨rfl, rfl, rfl, by decide +kernel, rfl, by decide +kernel, by decide +kernel⟩
theorem keep_rows_from (b : Bi mg) (d : Dn K mg "rows_from" (top 41)) (k_image : Keeps P w K mg base "image" a_image false 1 g_image) : Keeps P w K mg base "rows_from" a_rows_from false 2 g_rows_from :=
  d.keeps sc_rows_from 2 rfl (by decide) (fun _ _ _ _ _ _ us hl => match us, hl with | [_, _], _ => rfl) fun f cdv hcd A outer s H E hr =>
  (s_cons (s_asg (i := 2) sc_rows_from.nd rfl (by first | exact Or.inl rfl | exact Or.inr rfl) (r_dat (m_ix x_ix (mv 0) m_int)))
  (s_cons (s_asg (i := 3) sc_rows_from.nd rfl (by first | exact Or.inl rfl | exact Or.inr rfl) (r_dic (md_disp1 (u2 hr) (mv 1) (m_tup ma_nil))))
  (s_cons (s_asg (i := 4) sc_rows_from.nd rfl (by first | exact Or.inl rfl | exact Or.inr rfl) (r_lst (mf_lst (ma_cons (mv 1) ma_nil))))
  (s_cons (s_asg (i := 5) sc_rows_from.nd rfl (by first | exact Or.inl rfl | exact Or.inr rfl) (r_dat m_int))
  (s_cons (s_while 5000 (mt_cmp (o_ltA hr.units) (mv 5) (m_callB c_len rfl b.len boot_len (ma_cons (mv 4) ma_nil))) (s_cons (s_asg (i := 6) sc_rows_from.nd rfl (by first | exact Or.inl rfl | exact Or.inr rfl) (r_dat (m_ix x_ix (mv 4) (mv 5))))
  (s_cons (s_aug (i := 5) sc_rows_from.nd rfl (by first | exact Or.inl rfl | exact Or.inr rfl) m_int ip_add)
  (s_one (s_for rfl (i_enum rfl b.enumerate (mv 2)) (gs_tup rfl (gss_cons (gs_name (i := 7) sc_rows_from.nd rfl (by first | exact Or.inl rfl | exact Or.inr rfl)) (gss_cons (gs_name (i := 8) sc_rows_from.nd rfl (by first | exact Or.inl rfl | exact Or.inr rfl)) gss_nil))) (s_cons (s_asg (i := 9) sc_rows_from.nd rfl (by first | exact Or.inl rfl | exact Or.inr rfl) (r_dat (kc k_image hr (by decide) (ma_cons (mv 8) (ma_cons (mv 6) ma_nil)))))
  (s_one (s_if (mt_cmp (o_notIn (u65 hr)) (mv 9) (mv 3)) (s_cons (s_put1 (i := 3) (u1 hr) rfl (by first | exact Or.inl rfl | exact Or.inr (Or.inl rfl) | exact Or.inr (Or.inr rfl)) (mv 9) (m_op o_add (m_dget (u1 hr) (mv 3) (mv 6)) (m_tup (ma_cons (mv 7) ma_nil))))
  (s_one (s_app1 (i := 4) rfl (by first | exact Or.inl rfl | exact Or.inr (Or.inl rfl) | exact Or.inr (Or.inr rfl)) (mv 9)))) s_nil))) PassesOwn.never)))) PassesOwn.never)
  (s_one (s_retV (i := 3) rfl (by first | exact Or.inl rfl | exact Or.inr (Or.inl rfl) | exact Or.inr (Or.inr rfl)))))))))
/-! ### rows_from_all -/
abbrev n_rows_from_all : List Str := ["house"]
abbrev a_rows_from_all : List Str := ["house"]
theorem sc_rows_from_all : FnScope n_rows_from_all a_rows_from_all (defScope (top 42)) := ⟨rfl, rfl, rfl, by decide +kernel, rfl, by decide +kernel, by decide +kernel⟩
theorem keep_rows_from_all (b : Bi mg) (d : Dn K mg "rows_from_all" (top 42)) (k_rows_from : Keeps P w K mg base "rows_from" a_rows_from false 2 g_rows_from) : Keeps P w K mg base "rows_from_all" a_rows_from_all false 3 g_rows_from_all :=
  d.keeps sc_rows_from_all 1 rfl (by decide) (fun _ _ _ _ _ _ us hl => match us, hl with | [_], _ => rfl) fun f cdv hcd A outer s H E hr =>
  (s_one (s_ret (r_dic (kcD k_rows_from hr (by decide) (ma_cons (mv 0) (ma_cons (m_tupRg1 rfl rfl b.tuple rfl b.range (m_ix x_ix (mv 0) m_int)) ma_nil))))))
/-! ### first_row_to -/
abbrev n_first_row_to : List Str := ["rows", "many", "lot", "row"]
abbrev a_first_row_to : List Str := ["rows", "many"]
theorem sc_first_row_to : FnScope n_first_row_to a_first_row_to (defScope (top 43)) := ⟨rfl, rfl, rfl, by decide +kernel, rfl, by decide +kernel, by decide +kernel⟩
theorem keep_first_row_to (b : Bi mg) (d : Dn K mg "first_row_to" (top 43)) : Keeps P w K mg base "first_row_to" a_first_row_to false 1 g_first_row_to :=
  d.keeps sc_first_row_to 2 rfl (by decide) (fun _ _ _ _ _ _ us hl => match us, hl with | [_, _], _ => rfl) fun f cdv hcd A outer s H E hr =>
  (s_cons (s_forI (i := 0) rfl rfl (by first | exact Or.inl rfl | exact Or.inr (Or.inl rfl) | exact Or.inr (Or.inr rfl)) (gs_tup rfl (gss_cons (gs_name (i := 2) sc_first_row_to.nd rfl (by first | exact Or.inl rfl | exact Or.inr rfl)) (gss_cons (gs_name (i := 3) sc_first_row_to.nd rfl (by first | exact Or.inl rfl | exact Or.inr rfl)) gss_nil))) (s_one (s_if (mt_cmp (o_eq hr.units) (m_callB c_len rfl b.len boot_len (ma_cons (mv 2) ma_nil)) (mv 1)) (s_one (s_ret (r_dat (mv 3)))) s_nil)) PassesOwn.never)
  (s_one (s_ret (r_dat m_non))))
/-! ### fewest -/
abbrev n_fewest : List Str := ["rows", "lot"]
abbrev a_fewest : List Str := ["rows"]
theorem sc_fewest : FnScope n_fewest a_fewest (defScope (top 44)) := ⟨rfl, rfl, rfl, by decide +kernel, rfl, by decide +kernel, by decide +kernel⟩
theorem keep_fewest (b : Bi mg) (d : Dn K mg "fewest" (top 44)) : Keeps P w K mg base "fewest" a_fewest false 1 g_fewest :=
  d.keeps sc_fewest 1 rfl (by decide) (fun _ _ _ _ _ _ us hl => match us, hl with | [_], _ => rfl) fun f cdv hcd A outer s H E hr =>
  (s_one (s_ret (r_dat (m_callB (c_min rfl hr.units) rfl b.min boot_min (ma_cons (PMF.m (mf_lcK (i := 0) (own := [("lot", 1)]) rfl sc_fewest.nd rfl (by first | exact Or.inl rfl | exact Or.inr (Or.inl rfl) | exact Or.inr (Or.inr rfl)) (by refine blkOk_by ?_; kernel_rfl) (fun _ _ _ _ _ => (mg_name (i := 1) sc_fewest.nd rfl (by first | exact Or.inl rfl | exact Or.inr rfl))) (fun _ _ _ _ _ => mts_nil) (fun _ _ _ _ _ => (m_callB c_len rfl b.len boot_len (ma_cons (mv 1) ma_nil))))) ma_nil)))))
/-! ### is_reset_by -/
abbrev n_is_reset_by : List Str := ["halls", "maps"]
abbrev a_is_reset_by : List Str := ["halls", "maps"]
theorem sc_is_reset_by : FnScope n_is_reset_by a_is_reset_by (defScope (top 45)) := ⟨rfl, rfl, rfl, by decide +kernel, rfl, by decide +kernel, by decide +kernel⟩
theorem keep_is_reset_by (b : Bi mg) (d : Dn K mg "is_reset_by" (top 45)) (k_first_row_to : Keeps P w K mg base "first_row_to" a_first_row_to false 1 g_first_row_to) (k_rows_from_all : Keeps P w K mg base "rows_from_all" a_rows_from_all false 3 g_rows_from_all) : Keeps P w K mg base "is_reset_by" a_is_reset_by false 4 g_is_reset_by :=
  d.keeps sc_is_reset_by 2 rfl (by decide) (fun _ _ _ _ _ _ us hl => match us, hl with | [_, _], _ => rfl) fun f cdv hcd A outer s H E hr =>
  (s_one (s_ret (r_dat (m_cmp o_isNot (kc k_first_row_to hr (by decide) (ma_cons (PMD.m (kcD k_rows_from_all hr (by decide) (ma_cons (m_tup (ma_cons (mv 0) (ma_cons (mv 1) ma_nil))) ma_nil))) (ma_cons m_int ma_nil))) m_non))))
/-! ### reset -/
abbrev n_reset : List Str := ["house"]
abbrev a_reset : List Str := ["house"]
theorem sc_reset : FnScope n_reset a_reset (defScope (top 46)) := ⟨rfl, rfl, rfl, by decide +kernel, rfl, by decide +kernel, by decide +kernel⟩
theorem keep_reset (b : Bi mg) (d : Dn K mg "reset" (top 46)) (k_check_house : Keeps P w K mg base "check_house" a_check_house false 7 g_check_house) (k_first_row_to : Keeps P w K mg base "first_row_to" a_first_row_to false 1 g_first_row_to) (k_rows_from_all : Keeps P w K mg base "rows_from_all" a_rows_from_all false 3 g_rows_from_all) : Keeps P w K mg base "reset" a_reset false 8 g_reset :=
  d.keeps sc_reset 1 rfl (by decide) (fun _ _ _ _ _ _ us hl => match us, hl with | [_], _ => rfl) fun f cdv hcd A outer s H E hr =>
  (s_cons (s_drop (kc k_check_house hr (by decide) (ma_cons (mv 0) ma_nil)))
  (s_one (s_ret (r_dat (kc k_first_row_to hr (by decide) (ma_cons (PMD.m (kcD k_rows_from_all hr (by decide) (ma_cons (mv 0) ma_nil))) (ma_cons m_int ma_nil)))))))
/-! ### has_reset -/
abbrev n_has_reset : List Str := ["house"]
abbrev a_has_reset : List Str := ["house"]
theorem sc_has_reset : FnScope n_has_reset a_has_reset (defScope (top 47)) := ⟨rfl, rfl, rfl, by decide +kernel, rfl, by decide +kernel, by decide +kernel⟩
theorem keep_has_reset (b : Bi mg) (d : Dn K mg "has_reset" (top 47)) (k_reset : Keeps P w K mg base "reset" a_reset false 8 g_reset) : Keeps P w K mg base "has_reset" a_has_reset false 9 g_has_reset :=
  d.keeps sc_has_reset 1 rfl (by decide) (fun _ _ _ _ _ _ us hl => match us, hl with | [_], _ => rfl) fun f cdv hcd A outer s H E hr =>
  (s_one (s_ret (r_dat (m_cmp o_isNot (kc k_reset hr (by decide) (ma_cons (mv 0) ma_nil)) m_non))))
/-! ### lots -/
abbrev n_lots : List Str := ["house"]
abbrev a_lots : List Str := ["house"]
theorem sc_lots : FnScope n_lots a_lots (defScope (top 49)) := ⟨rfl, rfl, rfl, by decide +kernel, rfl, by decide +kernel, by decide +kernel⟩
theorem keep_lots (b : Bi mg) (d : Dn K mg "lots" (top 49)) (k_check_house : Keeps P w K mg base "check_house" a_check_house false 7 g_check_house) (k_rows_from_all : Keeps P w K mg base "rows_from_all" a_rows_from_all false 3 g_rows_from_all) : Keeps P w K mg base "lots" a_lots false 8 g_lots :=
  d.keeps sc_lots 1 rfl (by decide) (fun _ _ _ _ _ _ us hl => match us, hl with | [_], _ => rfl) fun f cdv hcd A outer s H E hr =>
  (s_cons (s_drop (kc k_check_house hr (by decide) (ma_cons (mv 0) ma_nil)))
  (s_one (s_ret (r_dat (m_callTy c_tuple rfl b.tuple boot_tuple (ma_cons (PMF.m (mf_callB (c_sortedD rfl hr.units) rfl b.sorted boot_sorted (ma_cons (PMD.m (kcD k_rows_from_all hr (by decide) (ma_cons (mv 0) ma_nil))) ma_nil))) ma_nil))))))
/-! ### resets_to -/
abbrev n_resets_to : List Str := ["house", "lot"]
abbrev a_resets_to : List Str := ["house"]
theorem sc_resets_to : FnScope n_resets_to a_resets_to (defScope (top 48)) := ⟨rfl, rfl, rfl, by decide +kernel, rfl, by decide +kernel, by decide +kernel⟩
theorem keep_resets_to (b : Bi mg) (d : Dn K mg "resets_to" (top 48)) (k_lots : Keeps P w K mg base "lots" a_lots false 8 g_lots) : Keeps P w K mg base "resets_to" a_resets_to false 9 g_resets_to :=
  d.keeps sc_resets_to 1 rfl (by decide) (fun _ _ _ _ _ _ us hl => match us, hl with | [_], _ => rfl) fun f cdv hcd A outer s H E hr =>
  (s_one (s_ret (r_dat (m_callTy c_tuple rfl b.tuple boot_tuple (ma_cons (PMF.m (mf_lc (own := [("lot", 1)]) rfl sc_resets_to.nd (mi_seq (kc k_lots hr (by decide) (ma_cons (mv 0) ma_nil))) (by refine blkOk_by ?_; kernel_rfl) (fun _ _ _ _ _ => (mg_name (i := 1) sc_resets_to.nd rfl (by first | exact Or.inl rfl | exact Or.inr rfl))) (fun _ _ _ _ _ => (mts_one (mt_cmp (o_eq hr.units) (m_callB c_len rfl b.len boot_len (ma_cons (mv 1) ma_nil)) m_int))) (fun _ _ _ _ _ => (m_ix x_ix (mv 1) m_int)))) ma_nil)))))
/-! ### rank -/
abbrev n_rank : List Str := ["house"]
abbrev a_rank : List Str := ["house"]
theorem sc_rank : FnScope n_rank a_rank (defScope (top 50)) := ⟨rfl, rfl, rfl, by decide +kernel, rfl, by decide +kernel, by decide +kernel⟩
theorem keep_rank (b : Bi mg) (d : Dn K mg "rank" (top 50)) (k_check_house : Keeps P w K mg base "check_house" a_check_house false 7 g_check_house) (k_fewest : Keeps P w K mg base "fewest" a_fewest false 1 g_fewest) (k_rows_from_all : Keeps P w K mg base "rows_from_all" a_rows_from_all false 3 g_rows_from_all) : Keeps P w K mg base "rank" a_rank false 8 g_rank :=
  d.keeps sc_rank 1 rfl (by decide) (fun _ _ _ _ _ _ us hl => match us, hl with | [_], _ => rfl) fun f cdv hcd A outer s H E hr =>
  (s_cons (s_drop (kc k_check_house hr (by decide) (ma_cons (mv 0) ma_nil)))
  (s_one (s_ret (r_dat (kc k_fewest hr (by decide) (ma_cons (PMD.m (kcD k_rows_from_all hr (by decide) (ma_cons (mv 0) ma_nil))) ma_nil))))))
/-! ### fewest_row -/
abbrev n_fewest_row : List Str := ["house", "rows"]
abbrev a_fewest_row : List Str := ["house"]
theorem sc_fewest_row : FnScope n_fewest_row a_fewest_row (defScope (top 51)) := ⟨rfl, rfl, rfl, by decide +kernel, rfl, by decide +kernel, by decide +kernel⟩
theorem keep_fewest_row (b : Bi mg) (d : Dn K mg "fewest_row" (top 51)) (k_check_house : Keeps P w K mg base "check_house" a_check_house false 7 g_check_house) (k_rows_from_all : Keeps P w K mg base "rows_from_all" a_rows_from_all false 3 g_rows_from_all) (k_first_row_to : Keeps P w K mg base "first_row_to" a_first_row_to false 1 g_first_row_to) (k_fewest : Keeps P w K mg base "fewest" a_fewest false 1 g_fewest) : Keeps P w K mg base "fewest_row" a_fewest_row false 8 g_fewest_row :=
  d.keeps sc_fewest_row 1 rfl (by decide) (fun _ _ _ _ _ _ us hl => match us, hl with | [_], _ => rfl) fun f cdv hcd A outer s H E hr =>
  (s_cons (s_drop (kc k_check_house hr (by decide) (ma_cons (mv 0) ma_nil)))
  (s_cons (s_asg (i := 1) sc_fewest_row.nd rfl (by first | exact Or.inl rfl | exact Or.inr rfl) (r_dic (kcD k_rows_from_all hr (by decide) (ma_cons (mv 0) ma_nil))))
  (s_one (s_ret (r_dat (kc k_first_row_to hr (by decide) (ma_cons (mv 1) (ma_cons (kc k_fewest hr (by decide) (ma_cons (mv 1) ma_nil)) ma_nil))))))))
/-! ### homing -/
abbrev n_homing : List Str := ["house", "lot"]
abbrev a_homing : List Str := ["house", "lot"]
theorem sc_homing : FnScope n_homing a_homing (defScope (top 52)) := ⟨rfl, rfl, rfl, by decide +kernel, rfl, by decide +kernel, by decide +kernel⟩
theorem keep_homing (b : Bi mg) (d : Dn K mg "homing" (top 52)) (k_check_house : Keeps P w K mg base "check_house" a_check_house false 7 g_check_house) (k_check_lot : Keeps P w K mg base "check_lot" a_check_lot false 5 g_check_lot) (k_first_row_to : Keeps P w K mg base "first_row_to" a_first_row_to false 1 g_first_row_to) (k_rows_from : Keeps P w K mg base "rows_from" a_rows_from false 2 g_rows_from) : Keeps P w K mg base "homing" a_homing false 8 g_homing :=
  d.keeps sc_homing 2 rfl (by decide) (fun _ _ _ _ _ _ us hl => match us, hl with | [_, _], _ => rfl) fun f cdv hcd A outer s H E hr =>
  (s_cons (s_drop (kc k_check_house hr (by decide) (ma_cons (mv 0) ma_nil)))
  (s_cons (s_drop (kc k_check_lot hr (by decide) (ma_cons (m_ix x_ix (mv 0) m_int) (ma_cons (mv 1) ma_nil))))
  (s_one (s_ret (r_dat (kc k_first_row_to hr (by decide) (ma_cons (PMD.m (kcD k_rows_from hr (by decide) (ma_cons (mv 0) (ma_cons (mv 1) ma_nil)))) (ma_cons m_int ma_nil))))))))
/-! ### meeting -/
abbrev n_meeting : List Str := ["house", "one", "other", "halls"]
abbrev a_meeting : List Str := ["house", "one", "other"]
theorem sc_meeting : FnScope n_meeting a_meeting (defScope (top 53)) := ⟨rfl, rfl, rfl, by decide +kernel, rfl, by decide +kernel, by decide +kernel⟩
theorem keep_meeting (b : Bi mg) (d : Dn K mg "meeting" (top 53)) (k_check_house : Keeps P w K mg base "check_house" a_check_house false 7 g_check_house) (k_check_hall : Keeps P w K mg base "check_hall" a_check_hall false 3 g_check_hall) (k_first_row_to : Keeps P w K mg base "first_row_to" a_first_row_to false 1 g_first_row_to) (k_rows_from : Keeps P w K mg base "rows_from" a_rows_from false 2 g_rows_from) : Keeps P w K mg base "meeting" a_meeting false 8 g_meeting :=
  d.keeps sc_meeting 3 rfl (by decide) (fun _ _ _ _ _ _ us hl => match us, hl with | [_, _, _], _ => rfl) fun f cdv hcd A outer s H E hr =>
  (s_cons (s_drop (kc k_check_house hr (by decide) (ma_cons (mv 0) ma_nil)))
  (s_cons (s_asg (i := 3) sc_meeting.nd rfl (by first | exact Or.inl rfl | exact Or.inr rfl) (r_dat (m_ix x_ix (mv 0) m_int)))
  (s_cons (s_drop (kc k_check_hall hr (by decide) (ma_cons (mv 3) (ma_cons (mv 1) ma_nil))))
  (s_cons (s_drop (kc k_check_hall hr (by decide) (ma_cons (mv 3) (ma_cons (mv 2) ma_nil))))
  (s_one (s_ret (r_dat (kc k_first_row_to hr (by decide) (ma_cons (PMD.m (kcD k_rows_from hr (by decide) (ma_cons (mv 0) (ma_cons (m_callTy c_tuple rfl b.tuple boot_tuple (ma_cons (PMF.m (mf_sortedI rfl rfl b.sorted (mk_disp2 (kindI _) (L2.kdsCode_of hcd) (mv 1) (mv 2)) (he := rfl) (hlen := mSet_len))) ma_nil)) ma_nil)))) (ma_cons m_int ma_nil))))))))))
/-! ### whole_net -/
abbrev n_whole_net : List Str := ["halls"]
abbrev a_whole_net : List Str := ["halls"]
theorem sc_whole_net : FnScope n_whole_net a_whole_net (defScope (top 55)) := ⟨rfl, rfl, rfl, by decide +kernel, rfl, by decide +kernel, by decide +kernel⟩
theorem keep_whole_net (b : Bi mg) (d : Dn K mg "whole_net" (top 55)) : Keeps P w K mg base "whole_net" a_whole_net false 1 g_whole_net :=
  d.keeps sc_whole_net 1 rfl (by decide) (fun _ _ _ _ _ _ us hl => match us, hl with | [_], _ => rfl) fun f cdv hcd A outer s H E hr =>
  (s_one (s_ret (r_dat (m_comb2 rfl rfl b.tuple rfl b.combinations rfl b.range (mv 0)))))
/-! ### wider_cliques -/
abbrev n_wider_cliques : List Str := ["halls", "net", "cliques", "ties", "clique", "hall", "one"]
abbrev a_wider_cliques : List Str := ["halls", "net", "cliques"]
theorem sc_wider_cliques : FnScope n_wider_cliques a_wider_cliques (defScope (top 56)) := ⟨rfl, rfl, rfl, by decide +kernel, rfl, by decide +kernel, by decide +kernel⟩
theorem keep_wider_cliques (b : Bi mg) (d : Dn K mg "wider_cliques" (top 56)) : Keeps P w K mg base "wider_cliques" a_wider_cliques false 1 g_wider_cliques :=
  d.keeps sc_wider_cliques 3 rfl (by decide) (fun _ _ _ _ _ _ us hl => match us, hl with | [_, _, _], _ => rfl) fun f cdv hcd A outer s H E hr =>
  (s_cons (s_asg (i := 3) sc_wider_cliques.nd rfl (by first | exact Or.inl rfl | exact Or.inr rfl) (r_wk (m_setK hr.units (mk_set (kindK _ hr.units) rfl rfl b.set (mv 1)))))
  (s_one (s_ret (r_lst (mf_lc2 (own := [("clique", 4), ("hall", 5)]) (own1 := [5]) rfl sc_wider_cliques.nd (mi_seq (mv 2)) (by refine blkOk_by ?_; kernel_rfl) (by decide) (fun _ _ _ _ _ => (mg_name (i := 4) sc_wider_cliques.nd rfl (by first | exact Or.inl rfl | exact Or.inr rfl))) (fun _ _ _ _ _ => mts_nil) (fun _ _ _ _ _ => (mi_rng2 rfl b.range (ma_cons (m_op o_add (m_ix x_ix (mv 4) (m_un o_neg m_int)) m_int) (ma_cons (mv 0) ma_nil)))) (fun _ _ _ _ _ => (mg_name (i := 5) sc_wider_cliques.nd rfl (by first | exact Or.inl rfl | exact Or.inr rfl))) (fun _ _ _ _ _ => (mts_one (mt_val (m_callB (c_all rfl) rfl b.all boot_all (ma_cons (PMF.m (mf_lc (own := [("one", 6)]) rfl sc_wider_cliques.nd (mi_seq (mv 4)) (by refine blkOk_by ?_; kernel_rfl) (fun _ _ _ _ _ => (mg_name (i := 6) sc_wider_cliques.nd rfl (by first | exact Or.inl rfl | exact Or.inr rfl))) (fun _ _ _ _ _ => mts_nil) (fun _ _ _ _ _ => (m_cmp (o_in (u65 hr)) (m_tup (ma_cons (mv 6) (ma_cons (mv 5) ma_nil))) (mv 3))))) ma_nil))))) (fun _ _ _ _ _ => (m_op o_add (mv 4) (m_tup (ma_cons (mv 5) ma_nil)))))))))
/-! ### greatest_clique -/
abbrev n_greatest_clique : List Str := ["halls", "net", "least", "cliques", "hall"]
abbrev a_greatest_clique : List Str := ["halls", "net"]
theorem sc_greatest_clique : FnScope n_greatest_clique a_greatest_clique (defScope (top 57)) := ⟨rfl, rfl, rfl, by decide +kernel, rfl, by decide +kernel, by decide +kernel⟩
theorem keep_greatest_clique (b : Bi mg) (d : Dn K mg "greatest_clique" (top 57)) (k_check_number_of_halls : Keeps P w K mg base "check_number_of_halls" a_check_number_of_halls false 2 g_check_number_of_halls) (k_check_net : Keeps P w K mg base "check_net" a_check_net false 7 g_check_net) (k_wider_cliques : Keeps P w K mg base "wider_cliques" a_wider_cliques false 1 g_wider_cliques) : Keeps P w K mg base "greatest_clique" a_greatest_clique false 8 g_greatest_clique :=
  d.keeps sc_greatest_clique 2 rfl (by decide) (fun _ _ _ _ _ _ us hl => match us, hl with | [_, _], _ => rfl) fun f cdv hcd A outer s H E hr =>
  (s_cons (s_drop (kc k_check_number_of_halls hr (by decide) (ma_cons (mv 0) ma_nil)))
  (s_cons (s_drop (kc k_check_net hr (by decide) (ma_cons (mv 0) (ma_cons (mv 1) ma_nil))))
  (s_cons (s_asg (i := 2) sc_greatest_clique.nd rfl (by first | exact Or.inl rfl | exact Or.inr rfl) (r_dat (m_tup ma_nil)))
  (s_cons (s_asgLc (i := 3) (own := [("hall", 4)]) rfl sc_greatest_clique.nd rfl rfl rfl (mi_rng1 rfl b.range (ma_cons (mv 0) ma_nil)) (by refine blkOk_by ?_; kernel_rfl) (fun _ _ _ _ _ => (mg_name (i := 4) sc_greatest_clique.nd rfl (by first | exact Or.inl rfl | exact Or.inr rfl))) (fun _ _ _ _ _ => mts_nil) (fun _ _ _ _ _ => (m_tup (ma_cons (mv 4) ma_nil))))
  (s_cons (s_while 5000 (mt_tru (mv 3)) (s_cons (s_asg (i := 2) sc_greatest_clique.nd rfl (by first | exact Or.inl rfl | exact Or.inr rfl) (r_dat (m_ix x_ix (mv 3) m_int)))
  (s_one (s_asg (i := 3) sc_greatest_clique.nd rfl (by first | exact Or.inl rfl | exact Or.inr rfl) (r_lst (kcF k_wider_cliques hr (by decide) (ma_cons (mv 0) (ma_cons (mv 1) (ma_cons (mv 3) ma_nil)))))))) PassesOwn.never)
  (s_one (s_ret (r_dat (mv 2)))))))))
/-! ### least_numbers -/
abbrev n_least_numbers : List Str := ["halls", "net", "many", "begun", "hall", "taken", "number", "numbers", "one", "other"]
abbrev a_least_numbers : List Str := ["halls", "net", "many", "begun"]
theorem sc_least_numbers : FnScope n_least_numbers a_least_numbers (defScope (top 58)) := ⟨rfl, rfl, rfl, by decide +kernel, rfl, by decide +kernel, by decide +kernel⟩
theorem keep_least_numbers_ (b : Bi mg) (d : Dn K mg "least_numbers" (top 58)) : ∀ n : Nat, Keeps P w K mg base "least_numbers" a_least_numbers false (n + 1) (g_least_numbers_ n)
  | 0 => d.none0 sc_least_numbers false 0 (fun _ _ _ _ _ _ us hl => match us, hl with | [_, _, _, _], _ => rfl)
  | n + 1 => by
    have kr := keep_least_numbers_ b d n
    have e : n + 1 + 1 = n + 1 + 1 := by omega
    rw [e]
    exact d.keeps sc_least_numbers 4 rfl (by decide) (fun _ _ _ _ _ _ us hl => match us, hl with | [_, _, _, _], _ => rfl) fun f cdv hcd A outer s H E hr =>
      (s_cons (s_asg (i := 4) sc_least_numbers.nd rfl (by first | exact Or.inl rfl | exact Or.inr rfl) (r_dat (m_callB c_len rfl b.len boot_len (ma_cons (mv 3) ma_nil))))
  (s_cons (s_if (mt_cmp (o_eq hr.units) (mv 4) (mv 0)) (s_one (s_ret (r_dat (mv 3)))) s_nil)
  (s_cons (s_asgLc (i := 5) (own := [("one", 8), ("other", 9)]) rfl sc_least_numbers.nd rfl rfl rfl (mi_seq (mv 1)) (by refine blkOk_by ?_; kernel_rfl) (fun _ _ _ _ _ => (mg_tup rfl (mgs_cons (mg_name (i := 8) sc_least_numbers.nd rfl (by first | exact Or.inl rfl | exact Or.inr rfl)) (mgs_cons (mg_name (i := 9) sc_least_numbers.nd rfl (by first | exact Or.inl rfl | exact Or.inr rfl)) mgs_nil)))) (fun _ _ _ _ _ => (mts_one (mt_cmp (o_eq hr.units) (mv 9) (mv 4)))) (fun _ _ _ _ _ => (m_ix x_ix (mv 3) (mv 8))))
  (s_cons (s_for rfl (i_rng1 rfl b.range (ma_cons (mv 2) ma_nil)) (gs_name (i := 6) sc_least_numbers.nd rfl (by first | exact Or.inl rfl | exact Or.inr rfl)) (s_one (s_if (mt_cmp (o_notIn (u65 hr)) (mv 6) (mv 5)) (s_cons (s_asg (i := 7) sc_least_numbers.nd rfl (by first | exact Or.inl rfl | exact Or.inr rfl) (r_dat (kc kr hr (Nat.le_refl _) (ma_cons (mv 0) (ma_cons (mv 1) (ma_cons (mv 2) (ma_cons (m_op o_add (mv 3) (m_tup (ma_cons (mv 6) ma_nil))) ma_nil)))))))
  (s_one (s_if (mt_cmp o_isNot (mv 7) m_non) (s_one (s_ret (r_dat (mv 7)))) s_nil))) s_nil)) PassesOwn.never)
  (s_one (s_ret (r_dat m_non)))))))
theorem keep_least_numbers (b : Bi mg) (d : Dn K mg "least_numbers" (top 58)) : Keeps P w K mg base "least_numbers" a_least_numbers false 13 g_least_numbers := keep_least_numbers_ b d 12
/-! ### colours -/
abbrev n_colours : List Str := ["halls", "net", "many", "numbers"]
abbrev a_colours : List Str := ["halls", "net"]
theorem sc_colours : FnScope n_colours a_colours (defScope (top 59)) := ⟨rfl, rfl, rfl, by decide +kernel, rfl, by decide +kernel, by decide +kernel⟩
theorem keep_colours (b : Bi mg) (d : Dn K mg "colours" (top 59)) (k_greatest_clique : Keeps P w K mg base "greatest_clique" a_greatest_clique false 8 g_greatest_clique) (k_least_numbers : Keeps P w K mg base "least_numbers" a_least_numbers false 13 g_least_numbers) : Keeps P w K mg base "colours" a_colours false 14 g_colours :=
  d.keeps sc_colours 2 rfl (by decide) (fun _ _ _ _ _ _ us hl => match us, hl with | [_, _], _ => rfl) fun f cdv hcd A outer s H E hr =>
  (s_cons (s_asg (i := 2) sc_colours.nd rfl (by first | exact Or.inl rfl | exact Or.inr rfl) (r_dat (m_callB c_len rfl b.len boot_len (ma_cons (kc k_greatest_clique hr (by decide) (ma_cons (mv 0) (ma_cons (mv 1) ma_nil))) ma_nil))))
  (s_cons (s_asg (i := 3) sc_colours.nd rfl (by first | exact Or.inl rfl | exact Or.inr rfl) (r_dat (kc k_least_numbers hr (by decide) (ma_cons (mv 0) (ma_cons (mv 1) (ma_cons (mv 2) (ma_cons (m_tup ma_nil) ma_nil)))))))
  (s_cons (s_while 5000 (mt_cmp o_is (mv 3) m_non) (s_cons (s_aug (i := 2) sc_colours.nd rfl (by first | exact Or.inl rfl | exact Or.inr rfl) m_int ip_add)
  (s_one (s_asg (i := 3) sc_colours.nd rfl (by first | exact Or.inl rfl | exact Or.inr rfl) (r_dat (kc k_least_numbers hr (by decide) (ma_cons (mv 0) (ma_cons (mv 1) (ma_cons (mv 2) (ma_cons (m_tup ma_nil) ma_nil))))))))) PassesOwn.never)
  (s_one (s_ret (r_dat (mv 3)))))))
/-! ### least_colours -/
abbrev n_least_colours : List Str := ["halls", "net"]
abbrev a_least_colours : List Str := ["halls", "net"]
theorem sc_least_colours : FnScope n_least_colours a_least_colours (defScope (top 60)) := ⟨rfl, rfl, rfl, by decide +kernel, rfl, by decide +kernel, by decide +kernel⟩
theorem keep_least_colours (b : Bi mg) (d : Dn K mg "least_colours" (top 60)) (k_colours : Keeps P w K mg base "colours" a_colours false 14 g_colours) : Keeps P w K mg base "least_colours" a_least_colours false 15 g_least_colours :=
  d.keeps sc_least_colours 2 rfl (by decide) (fun _ _ _ _ _ _ us hl => match us, hl with | [_, _], _ => rfl) fun f cdv hcd A outer s H E hr =>
  (s_one (s_ret (r_dat (m_lenI rfl b.len (mk_set (kindI _) rfl rfl b.set (kc k_colours hr (by decide) (ma_cons (mv 0) (ma_cons (mv 1) ma_nil))))))))
/-! ### is_barring -/
abbrev n_is_barring : List Str := ["halls", "net", "clique"]
abbrev a_is_barring : List Str := ["halls", "net"]
theorem sc_is_barring : FnScope n_is_barring a_is_barring (defScope (top 61)) := ⟨rfl, rfl, rfl, by decide +kernel, rfl, by decide +kernel, by decide +kernel⟩
theorem keep_is_barring (b : Bi mg) (d : Dn K mg "is_barring" (top 61)) (k_greatest_clique : Keeps P w K mg base "greatest_clique" a_greatest_clique false 8 g_greatest_clique) (k_least_colours : Keeps P w K mg base "least_colours" a_least_colours false 15 g_least_colours) : Keeps P w K mg base "is_barring" a_is_barring false 16 g_is_barring :=
  d.keeps sc_is_barring 2 rfl (by decide) (fun _ _ _ _ _ _ us hl => match us, hl with | [_, _], _ => rfl) fun f cdv hcd A outer s H E hr =>
  (s_cons (s_asg (i := 2) sc_is_barring.nd rfl (by first | exact Or.inl rfl | exact Or.inr rfl) (r_dat (kc k_greatest_clique hr (by decide) (ma_cons (mv 0) (ma_cons (mv 1) ma_nil)))))
  (s_one (s_ret (r_dat (m_and (m_cmp (o_ne hr.units) (mv 1) (m_tup ma_nil)) (m_one (m_cmp (o_eq hr.units) (m_callB c_len rfl b.len boot_len (ma_cons (mv 2) ma_nil)) (kc k_least_colours hr (by decide) (ma_cons (mv 0) (ma_cons (mv 1) ma_nil))))))))))
/-! ### bar_by -/
abbrev n_bar_by : List Str := ["halls", "net"]
abbrev a_bar_by : List Str := ["halls", "net"]
theorem sc_bar_by : FnScope n_bar_by a_bar_by (defScope (top 63)) := ⟨rfl, rfl, rfl, by decide +kernel, rfl, by decide +kernel, by decide +kernel⟩
theorem keep_bar_by (b : Bi mg) (d : Dn K mg "bar_by" (top 63)) (k_colours : Keeps P w K mg base "colours" a_colours false 14 g_colours) (k_greatest_clique : Keeps P w K mg base "greatest_clique" a_greatest_clique false 8 g_greatest_clique) : Keeps P w K mg base "bar_by" a_bar_by false 15 g_bar_by :=
  d.keeps sc_bar_by 2 rfl (by decide) (fun _ _ _ _ _ _ us hl => match us, hl with | [_, _], _ => rfl) fun f cdv hcd A outer s H E hr =>
  (s_one (s_ret (r_dat (m_tup (ma_cons (mv 1) (ma_cons (kc k_greatest_clique hr (by decide) (ma_cons (mv 0) (ma_cons (mv 1) ma_nil))) (ma_cons (kc k_colours hr (by decide) (ma_cons (mv 0) (ma_cons (mv 1) ma_nil))) ma_nil)))))))
/-! ### never_meet -/
abbrev n_never_meet : List Str := ["house", "ties", "one", "other"]
abbrev a_never_meet : List Str := ["house"]
theorem sc_never_meet : FnScope n_never_meet a_never_meet (defScope (top 64)) := ⟨rfl, rfl, rfl, by decide +kernel, rfl, by decide +kernel, by decide +kernel⟩
theorem keep_never_meet (b : Bi mg) (d : Dn K mg "never_meet" (top 64)) (k_check_house : Keeps P w K mg base "check_house" a_check_house false 7 g_check_house) (k_whole_net : Keeps P w K mg base "whole_net" a_whole_net false 1 g_whole_net) (k_meeting : Keeps P w K mg base "meeting" a_meeting false 8 g_meeting) : Keeps P w K mg base "never_meet" a_never_meet false 9 g_never_meet :=
  d.keeps sc_never_meet 1 rfl (by decide) (fun _ _ _ _ _ _ us hl => match us, hl with | [_], _ => rfl) fun f cdv hcd A outer s H E hr =>
  (s_cons (s_drop (kc k_check_house hr (by decide) (ma_cons (mv 0) ma_nil)))
  (s_cons (s_asg (i := 1) sc_never_meet.nd rfl (by first | exact Or.inl rfl | exact Or.inr rfl) (r_dat (kc k_whole_net hr (by decide) (ma_cons (m_ix x_ix (mv 0) m_int) ma_nil))))
  (s_one (s_ret (r_dat (m_callTy c_tuple rfl b.tuple boot_tuple (ma_cons (PMF.m (mf_lc (own := [("one", 2), ("other", 3)]) rfl sc_never_meet.nd (mi_seq (mv 1)) (by refine blkOk_by ?_; kernel_rfl) (fun _ _ _ _ _ => (mg_tup rfl (mgs_cons (mg_name (i := 2) sc_never_meet.nd rfl (by first | exact Or.inl rfl | exact Or.inr rfl)) (mgs_cons (mg_name (i := 3) sc_never_meet.nd rfl (by first | exact Or.inl rfl | exact Or.inr rfl)) mgs_nil)))) (fun _ _ _ _ _ => (mts_one (mt_cmp o_is (kc k_meeting hr (by decide) (ma_cons (mv 0) (ma_cons (mv 2) (ma_cons (mv 3) ma_nil)))) m_non))) (fun _ _ _ _ _ => (m_tup (ma_cons (mv 2) (ma_cons (mv 3) ma_nil)))))) ma_nil)))))))
/-! ### bar -/
abbrev n_bar : List Str := ["house", "net"]
abbrev a_bar : List Str := ["house"]
theorem sc_bar : FnScope n_bar a_bar (defScope (top 65)) := ⟨rfl, rfl, rfl, by decide +kernel, rfl, by decide +kernel, by decide +kernel⟩
theorem keep_bar (b : Bi mg) (d : Dn K mg "bar" (top 65)) (k_never_meet : Keeps P w K mg base "never_meet" a_never_meet false 9 g_never_meet) (k_bar_by : Keeps P w K mg base "bar_by" a_bar_by false 15 g_bar_by) : Keeps P w K mg base "bar" a_bar false 16 g_bar :=
  d.keeps sc_bar 1 rfl (by decide) (fun _ _ _ _ _ _ us hl => match us, hl with | [_], _ => rfl) fun f cdv hcd A outer s H E hr =>
  (s_cons (s_asg (i := 1) sc_bar.nd rfl (by first | exact Or.inl rfl | exact Or.inr rfl) (r_dat (kc k_never_meet hr (by decide) (ma_cons (mv 0) ma_nil))))
  (s_cons (s_if (mt_cmp (o_eq hr.units) (mv 1) (m_tup ma_nil)) (s_one (s_ret (r_dat m_non))) s_nil)
  (s_one (s_ret (r_dat (kc k_bar_by hr (by decide) (ma_cons (m_ix x_ix (mv 0) m_int) (ma_cons (mv 1) ma_nil))))))))
/-! ### check_few_halls -/
abbrev n_check_few_halls : List Str := ["house"]
abbrev a_check_few_halls : List Str := ["house"]
theorem sc_check_few_halls : FnScope n_check_few_halls a_check_few_halls (defScope (top 68)) := ⟨rfl, rfl, rfl, by decide +kernel, rfl, by decide +kernel, by decide +kernel⟩
theorem keep_check_few_halls (b : Bi mg) (d : Dn K mg "check_few_halls" (top 68)) : Keeps P w K mg base "check_few_halls" a_check_few_halls false 1 g_check_few_halls :=
  d.keeps sc_check_few_halls 1 rfl (by decide) (fun _ _ _ _ _ _ us hl => match us, hl with | [_], _ => rfl) fun f cdv hcd A outer s H E hr =>
  (s_one (s_if (mt_cmp o_gt (m_ix x_ix (mv 0) m_int) (m_glob rfl b.MOST_HALLS_COUNTED.choose_spec)) (s_one s_never) s_nil))
/-! ### all_maps -/
abbrev n_all_maps : List Str := ["halls", "maps", "_", "places", "hall"]
abbrev a_all_maps : List Str := ["halls"]
theorem sc_all_maps : FnScope n_all_maps a_all_maps (defScope (top 69)) := ⟨rfl, rfl, rfl, by decide +kernel, rfl, by decide +kernel, by decide +kernel⟩
theorem keep_all_maps (b : Bi mg) (d : Dn K mg "all_maps" (top 69)) : Keeps P w K mg base "all_maps" a_all_maps false 1 g_all_maps :=
  d.keeps sc_all_maps 1 rfl (by decide) (fun _ _ _ _ _ _ us hl => match us, hl with | [_], _ => rfl) fun f cdv hcd A outer s H E hr =>
  (s_cons (s_asg (i := 1) sc_all_maps.nd rfl (by first | exact Or.inl rfl | exact Or.inr rfl) (r_lst (mf_lst (ma_cons (m_tup ma_nil) ma_nil))))
  (s_cons (s_for rfl (i_rng1 rfl b.range (ma_cons (mv 0) ma_nil)) (gs_name (i := 2) sc_all_maps.nd rfl (by first | exact Or.inl rfl | exact Or.inr rfl)) (s_one (s_asgLc2 (i := 1) (own := [("places", 3), ("hall", 4)]) (own1 := [4]) rfl sc_all_maps.nd rfl rfl rfl (mi_seq (mv 1)) (by refine blkOk_by ?_; kernel_rfl) (by decide) (fun _ _ _ _ _ => (mg_name (i := 3) sc_all_maps.nd rfl (by first | exact Or.inl rfl | exact Or.inr rfl))) (fun _ _ _ _ _ => mts_nil) (fun _ _ _ _ _ => (mi_rng1 rfl b.range (ma_cons (mv 0) ma_nil))) (fun _ _ _ _ _ => (mg_name (i := 4) sc_all_maps.nd rfl (by first | exact Or.inl rfl | exact Or.inr rfl))) (fun _ _ _ _ _ => mts_nil) (fun _ _ _ _ _ => (m_op o_add (mv 3) (m_tup (ma_cons (mv 4) ma_nil)))))) PassesOwn.never)
  (s_one (s_retV (i := 1) rfl (by first | exact Or.inl rfl | exact Or.inr (Or.inl rfl) | exact Or.inr (Or.inr rfl))))))
/-! ### is_reset_with -/
abbrev n_is_reset_with : List Str := ["house", "places", "halls", "maps"]
abbrev a_is_reset_with : List Str := ["house", "places"]
theorem sc_is_reset_with : FnScope n_is_reset_with a_is_reset_with (defScope (top 70)) := ⟨rfl, rfl, rfl, by decide +kernel, rfl, by decide +kernel, by decide +kernel⟩
theorem keep_is_reset_with (b : Bi mg) (d : Dn K mg "is_reset_with" (top 70)) (k_is_reset_by : Keeps P w K mg base "is_reset_by" a_is_reset_by false 4 g_is_reset_by) : Keeps P w K mg base "is_reset_with" a_is_reset_with false 5 g_is_reset_with :=
  d.keeps sc_is_reset_with 2 rfl (by decide) (fun _ _ _ _ _ _ us hl => match us, hl with | [_, _], _ => rfl) fun f cdv hcd A outer s H E hr =>
  (s_cons (s_unpV (i := 0) rfl (by first | exact Or.inl rfl | exact Or.inr (Or.inl rfl) | exact Or.inr (Or.inr rfl)) (gs_tup rfl (gss_cons (gs_name (i := 2) sc_is_reset_with.nd rfl (by first | exact Or.inl rfl | exact Or.inr rfl)) (gss_cons (gs_name (i := 3) sc_is_reset_with.nd rfl (by first | exact Or.inl rfl | exact Or.inr rfl)) gss_nil))))
  (s_one (s_ret (r_dat (kc k_is_reset_by hr (by decide) (ma_cons (mv 2) (ma_cons (m_op o_add (mv 3) (m_tup (ma_cons (mv 1) ma_nil))) ma_nil)))))))
/-! ### count_resetting -/
abbrev n_count_resetting : List Str := ["house", "places"]
abbrev a_count_resetting : List Str := ["house"]
theorem sc_count_resetting : FnScope n_count_resetting a_count_resetting (defScope (top 71)) := ⟨rfl, rfl, rfl, by decide +kernel, rfl, by decide +kernel, by decide +kernel⟩
theorem keep_count_resetting (b : Bi mg) (d : Dn K mg "count_resetting" (top 71)) (k_check_house : Keeps P w K mg base "check_house" a_check_house false 7 g_check_house) (k_check_few_halls : Keeps P w K mg base "check_few_halls" a_check_few_halls false 1 g_check_few_halls) (k_all_maps : Keeps P w K mg base "all_maps" a_all_maps false 1 g_all_maps) (k_is_reset_with : Keeps P w K mg base "is_reset_with" a_is_reset_with false 5 g_is_reset_with) : Keeps P w K mg base "count_resetting" a_count_resetting false 8 g_count_resetting :=
  d.keeps sc_count_resetting 1 rfl (by decide) (fun _ _ _ _ _ _ us hl => match us, hl with | [_], _ => rfl) fun f cdv hcd A outer s H E hr =>
  (s_cons (s_drop (kc k_check_house hr (by decide) (ma_cons (mv 0) ma_nil)))
  (s_cons (s_drop (kc k_check_few_halls hr (by decide) (ma_cons (mv 0) ma_nil)))
  (s_one (s_ret (r_dat (m_callB c_len rfl b.len boot_len (ma_cons (PMF.m (mf_lc (own := [("places", 1)]) rfl sc_count_resetting.nd (mi_f (kcF k_all_maps hr (by decide) (ma_cons (m_ix x_ix (mv 0) m_int) ma_nil))) (by refine blkOk_by ?_; kernel_rfl) (fun _ _ _ _ _ => (mg_name (i := 1) sc_count_resetting.nd rfl (by first | exact Or.inl rfl | exact Or.inr rfl))) (fun _ _ _ _ _ => (mts_one (mt_val (kc k_is_reset_with hr (by decide) (ma_cons (mv 0) (ma_cons (mv 1) ma_nil)))))) (fun _ _ _ _ _ => (mv 1)))) ma_nil)))))))
/-! ### resisting_maps -/
abbrev n_resisting_maps : List Str := ["house", "places"]
abbrev a_resisting_maps : List Str := ["house"]
theorem sc_resisting_maps : FnScope n_resisting_maps a_resisting_maps (defScope (top 72)) := ⟨rfl, rfl, rfl, by decide +kernel, rfl, by decide +kernel, by decide +kernel⟩
theorem keep_resisting_maps (b : Bi mg) (d : Dn K mg "resisting_maps" (top 72)) (k_check_turns : Keeps P w K mg base "check_turns" a_check_turns false 8 g_check_turns) (k_check_few_halls : Keeps P w K mg base "check_few_halls" a_check_few_halls false 1 g_check_few_halls) (k_all_maps : Keeps P w K mg base "all_maps" a_all_maps false 1 g_all_maps) (k_is_reset_with : Keeps P w K mg base "is_reset_with" a_is_reset_with false 5 g_is_reset_with) (k_is_one_to_one : Keeps P w K mg base "is_one_to_one" a_is_one_to_one false 1 g_is_one_to_one) : Keeps P w K mg base "resisting_maps" a_resisting_maps false 9 g_resisting_maps :=
  d.keeps sc_resisting_maps 1 rfl (by decide) (fun _ _ _ _ _ _ us hl => match us, hl with | [_], _ => rfl) fun f cdv hcd A outer s H E hr =>
  (s_cons (s_drop (kc k_check_turns hr (by decide) (ma_cons (mv 0) ma_nil)))
  (s_cons (s_drop (kc k_check_few_halls hr (by decide) (ma_cons (mv 0) ma_nil)))
  (s_one (s_ret (r_dat (m_callTy c_tuple rfl b.tuple boot_tuple (ma_cons (PMF.m (mf_lc (own := [("places", 1)]) rfl sc_resisting_maps.nd (mi_f (kcF k_all_maps hr (by decide) (ma_cons (m_ix x_ix (mv 0) m_int) ma_nil))) (by refine blkOk_by ?_; kernel_rfl) (fun _ _ _ _ _ => (mg_name (i := 1) sc_resisting_maps.nd rfl (by first | exact Or.inl rfl | exact Or.inr rfl))) (fun _ _ _ _ _ => (mts_one (PMW.t (mw_and (mt_not (mt_val (kc k_is_one_to_one hr (by decide) (ma_cons (mv 1) ma_nil)))) (mw_and1 (mt_not (mt_val (kc k_is_reset_with hr (by decide) (ma_cons (mv 0) (ma_cons (mv 1) ma_nil)))))))))) (fun _ _ _ _ _ => (mv 1)))) ma_nil)))))))
/-! ### pair_lots -/
abbrev n_pair_lots : List Str := ["house", "tie"]
abbrev a_pair_lots : List Str := ["house"]
theorem sc_pair_lots : FnScope n_pair_lots a_pair_lots (defScope (top 75)) := ⟨rfl, rfl, rfl, by decide +kernel, rfl, by decide +kernel, by decide +kernel⟩
theorem keep_pair_lots (b : Bi mg) (d : Dn K mg "pair_lots" (top 75)) (k_check_turns : Keeps P w K mg base "check_turns" a_check_turns false 8 g_check_turns) (k_whole_net : Keeps P w K mg base "whole_net" a_whole_net false 1 g_whole_net) (k_rows_from : Keeps P w K mg base "rows_from" a_rows_from false 2 g_rows_from) : Keeps P w K mg base "pair_lots" a_pair_lots false 9 g_pair_lots :=
  d.keeps sc_pair_lots 1 rfl (by decide) (fun _ _ _ _ _ _ us hl => match us, hl with | [_], _ => rfl) fun f cdv hcd A outer s H E hr =>
  (s_cons (s_drop (kc k_check_turns hr (by decide) (ma_cons (mv 0) ma_nil)))
  (s_one (s_ret (r_dat (m_callTy c_tuple rfl b.tuple boot_tuple (ma_cons (PMF.m (mf_sortedK rfl hr.units rfl b.sorted (mk_sc (own := [("tie", 1)]) (kindK _ hr.units) rfl sc_pair_lots.nd (mi_seq (kc k_whole_net hr (by decide) (ma_cons (m_ix x_ix (mv 0) m_int) ma_nil))) (by refine blkOk_by ?_; kernel_rfl) (fun _ _ _ _ _ => (mg_name (i := 1) sc_pair_lots.nd rfl (by first | exact Or.inl rfl | exact Or.inr rfl))) (fun _ _ _ _ _ => mts_nil) (fun _ _ _ _ _ => (m_callTy c_tuple rfl b.tuple boot_tuple (ma_cons (PMF.m (mf_callB (c_sortedD rfl hr.units) rfl b.sorted boot_sorted (ma_cons (PMD.m (kcD k_rows_from hr (by decide) (ma_cons (mv 0) (ma_cons (mv 1) ma_nil)))) ma_nil))) ma_nil)))) (he := rfl))) ma_nil))))))
/-! ### kept_nets -/
abbrev n_kept_nets : List Str := ["house", "nets", "ties", "net"]
abbrev a_kept_nets : List Str := ["house"]
theorem sc_kept_nets : FnScope n_kept_nets a_kept_nets (defScope (top 76)) := ⟨rfl, rfl, rfl, by decide +kernel, rfl, by decide +kernel, by decide +kernel⟩
theorem keep_kept_nets (b : Bi mg) (d : Dn K mg "kept_nets" (top 76)) (k_pair_lots : Keeps P w K mg base "pair_lots" a_pair_lots false 9 g_pair_lots) : Keeps P w K mg base "kept_nets" a_kept_nets false 10 g_kept_nets :=
  d.keeps sc_kept_nets 1 rfl (by decide) (fun _ _ _ _ _ _ us hl => match us, hl with | [_], _ => rfl) fun f cdv hcd A outer s H E hr =>
  (s_cons (s_asg (i := 1) sc_kept_nets.nd rfl (by first | exact Or.inl rfl | exact Or.inr rfl) (r_lst (mf_lst (ma_cons (m_tup ma_nil) ma_nil))))
  (s_cons (s_for rfl (i_tup (kc k_pair_lots hr (by decide) (ma_cons (mv 0) ma_nil))) (gs_name (i := 2) sc_kept_nets.nd rfl (by first | exact Or.inl rfl | exact Or.inr rfl)) (s_cons (s_asg (i := 1) sc_kept_nets.nd rfl (by first | exact Or.inl rfl | exact Or.inr rfl) (r_lst (mf_cat (ml_var (i := 1) rfl (by first | exact Or.inl rfl | exact Or.inr (Or.inl rfl) | exact Or.inr (Or.inr rfl))) (ml_f (mf_lc (own := [("net", 3)]) rfl sc_kept_nets.nd (mi_seq (mv 1)) (by refine blkOk_by ?_; kernel_rfl) (fun _ _ _ _ _ => (mg_name (i := 3) sc_kept_nets.nd rfl (by first | exact Or.inl rfl | exact Or.inr rfl))) (fun _ _ _ _ _ => mts_nil) (fun _ _ _ _ _ => (m_op o_add (mv 3) (mv 2))))))))
  (s_one (s_if (mt_cmp o_gt (m_callB c_len rfl b.len boot_len (ma_cons (mv 1) ma_nil)) (m_glob rfl b.MOST_NETS.choose_spec)) (s_one s_never) s_nil))) PassesOwn.never)
  (s_one (s_ret (r_dat (m_callTy c_tuple rfl b.tuple boot_tuple (ma_cons (PMF.m (mf_callB (c_sorted hr.units) rfl b.sorted boot_sorted (ma_cons (PMF.m (mf_lc (own := [("net", 3)]) rfl sc_kept_nets.nd (mi_seq (mv 1)) (by refine blkOk_by ?_; kernel_rfl) (fun _ _ _ _ _ => (mg_name (i := 3) sc_kept_nets.nd rfl (by first | exact Or.inl rfl | exact Or.inr rfl))) (fun _ _ _ _ _ => mts_nil) (fun _ _ _ _ _ => (m_callTy c_tuple rfl b.tuple boot_tuple (ma_cons (PMF.m (mf_callB (c_sorted hr.units) rfl b.sorted boot_sorted (ma_cons (mv 3) ma_nil))) ma_nil))))) ma_nil))) ma_nil)))))))
/-! ### is_barring_in_part -/
abbrev n_is_barring_in_part : List Str := ["halls", "net"]
abbrev a_is_barring_in_part : List Str := ["halls", "net"]
theorem sc_is_barring_in_part : FnScope n_is_barring_in_part a_is_barring_in_part (defScope (top 77)) := ⟨rfl, rfl, rfl, by decide +kernel, rfl, by decide +kernel, by decide +kernel⟩
theorem keep_is_barring_in_part (b : Bi mg) (d : Dn K mg "is_barring_in_part" (top 77)) (k_is_barring : Keeps P w K mg base "is_barring" a_is_barring false 16 g_is_barring) (k_whole_net : Keeps P w K mg base "whole_net" a_whole_net false 1 g_whole_net) : Keeps P w K mg base "is_barring_in_part" a_is_barring_in_part false 17 g_is_barring_in_part :=
  d.keeps sc_is_barring_in_part 2 rfl (by decide) (fun _ _ _ _ _ _ us hl => match us, hl with | [_, _], _ => rfl) fun f cdv hcd A outer s H E hr =>
  (s_one (s_ret (r_dat (m_and (m_cmp (o_ne hr.units) (mv 1) (kc k_whole_net hr (by decide) (ma_cons (mv 0) ma_nil))) (m_one (kc k_is_barring hr (by decide) (ma_cons (mv 0) (ma_cons (mv 1) ma_nil))))))))
/-! ### barring_nets -/
abbrev n_barring_nets : List Str := ["house", "nets", "net"]
abbrev a_barring_nets : List Str := ["house"]
theorem sc_barring_nets : FnScope n_barring_nets a_barring_nets (defScope (top 78)) := ⟨rfl, rfl, rfl, by decide +kernel, rfl, by decide +kernel, by decide +kernel⟩
theorem keep_barring_nets (b : Bi mg) (d : Dn K mg "barring_nets" (top 78)) (k_kept_nets : Keeps P w K mg base "kept_nets" a_kept_nets false 10 g_kept_nets) (k_is_barring_in_part : Keeps P w K mg base "is_barring_in_part" a_is_barring_in_part false 17 g_is_barring_in_part) : Keeps P w K mg base "barring_nets" a_barring_nets false 18 g_barring_nets :=
  d.keeps sc_barring_nets 1 rfl (by decide) (fun _ _ _ _ _ _ us hl => match us, hl with | [_], _ => rfl) fun f cdv hcd A outer s H E hr =>
  (s_cons (s_asg (i := 1) sc_barring_nets.nd rfl (by first | exact Or.inl rfl | exact Or.inr rfl) (r_dat (kc k_kept_nets hr (by decide) (ma_cons (mv 0) ma_nil))))
  (s_one (s_ret (r_dat (m_callTy c_tuple rfl b.tuple boot_tuple (ma_cons (PMF.m (mf_lc (own := [("net", 2)]) rfl sc_barring_nets.nd (mi_seq (mv 1)) (by refine blkOk_by ?_; kernel_rfl) (fun _ _ _ _ _ => (mg_name (i := 2) sc_barring_nets.nd rfl (by first | exact Or.inl rfl | exact Or.inr rfl))) (fun _ _ _ _ _ => (mts_one (mt_val (kc k_is_barring_in_part hr (by decide) (ma_cons (m_ix x_ix (mv 0) m_int) (ma_cons (mv 2) ma_nil)))))) (fun _ _ _ _ _ => (mv 2)))) ma_nil))))))
/-! ### group_bar -/
abbrev n_group_bar : List Str := ["house", "net"]
abbrev a_group_bar : List Str := ["house"]
theorem sc_group_bar : FnScope n_group_bar a_group_bar (defScope (top 79)) := ⟨rfl, rfl, rfl, by decide +kernel, rfl, by decide +kernel, by decide +kernel⟩
theorem keep_group_bar (b : Bi mg) (d : Dn K mg "group_bar" (top 79)) (k_kept_nets : Keeps P w K mg base "kept_nets" a_kept_nets false 10 g_kept_nets) (k_is_barring_in_part : Keeps P w K mg base "is_barring_in_part" a_is_barring_in_part false 17 g_is_barring_in_part) (k_bar_by : Keeps P w K mg base "bar_by" a_bar_by false 15 g_bar_by) : Keeps P w K mg base "group_bar" a_group_bar false 18 g_group_bar :=
  d.keeps sc_group_bar 1 rfl (by decide) (fun _ _ _ _ _ _ us hl => match us, hl with | [_], _ => rfl) fun f cdv hcd A outer s H E hr =>
  (s_cons (s_for rfl (i_tup (kc k_kept_nets hr (by decide) (ma_cons (mv 0) ma_nil))) (gs_name (i := 1) sc_group_bar.nd rfl (by first | exact Or.inl rfl | exact Or.inr rfl)) (s_one (s_if (mt_val (kc k_is_barring_in_part hr (by decide) (ma_cons (m_ix x_ix (mv 0) m_int) (ma_cons (mv 1) ma_nil)))) (s_one (s_ret (r_dat (kc k_bar_by hr (by decide) (ma_cons (m_ix x_ix (mv 0) m_int) (ma_cons (mv 1) ma_nil)))))) s_nil)) PassesOwn.never)
  (s_one (s_ret (r_dat m_non))))
/-! ### resets_with -/
abbrev n_resets_with : List Str := ["house", "places", "more", "halls", "maps"]
abbrev a_resets_with : List Str := ["house", "places", "more"]
theorem sc_resets_with : FnScope n_resets_with a_resets_with (defScope (top 80)) := ⟨rfl, rfl, rfl, by decide +kernel, rfl, by decide +kernel, by decide +kernel⟩
theorem keep_resets_with (b : Bi mg) (d : DnR K mg "resets_with" (top 80) [V.non]) (k_check_house : Keeps P w K mg base "check_house" a_check_house false 7 g_check_house) (k_check_map : Keeps P w K mg base "check_map" a_check_map false 5 g_check_map) (k_is_reset_by : Keeps P w K mg base "is_reset_by" a_is_reset_by false 4 g_is_reset_by) : KeepsR P w K mg base "resets_with" 8 g_resets_with :=
  d.keeps (N := n_resets_with) (ps := ["house", "places"]) (pd := "more") (key := "map") (i := 1) (by simp) sc_resets_with (by decide) rfl (by decide) (fun T kV doc pm an cdv ct us its h1 h2 => match us, its, h1, h2 with | [_, _], [_], _, _ => ⟨_, rfl, rfl⟩) fun f cdv hcd A outer s H E hr =>
  ⟨ps_set (i := 1) sc_resets_with.nd rfl (by first | exact Or.inl rfl | exact Or.inr rfl) (pe_dget2 (u1 hr) (pe_var (i := 2) rfl (by first | exact Or.inl rfl | exact Or.inr (Or.inl rfl) | exact Or.inr (Or.inr rfl))) pe_str (pe_var (i := 1) rfl (by first | exact Or.inl rfl | exact Or.inr (Or.inl rfl) | exact Or.inr (Or.inr rfl))) ⟨rfl, rfl, rfl, rfl⟩),
  (s_cons (s_drop (kc k_check_house hr (by decide) (ma_cons (mv 0) ma_nil)))
  (s_cons (s_unpV (i := 0) rfl (by first | exact Or.inl rfl | exact Or.inr (Or.inl rfl) | exact Or.inr (Or.inr rfl)) (gs_tup rfl (gss_cons (gs_name (i := 3) sc_resets_with.nd rfl (by first | exact Or.inl rfl | exact Or.inr rfl)) (gss_cons (gs_name (i := 4) sc_resets_with.nd rfl (by first | exact Or.inl rfl | exact Or.inr rfl)) gss_nil))))
  (s_cons (s_drop (kc k_check_map hr (by decide) (ma_cons (mv 3) (ma_cons (mv 1) ma_nil))))
  (s_one (s_ret (r_dat (kc k_is_reset_by hr (by decide) (ma_cons (mv 3) (ma_cons (m_op o_add (mv 4) (m_tup (ma_cons (mv 1) ma_nil))) ma_nil)))))))))⟩
/-! ### resets_all -/
abbrev n_resets_all : List Str := ["house"]
abbrev a_resets_all : List Str := ["house"]
theorem sc_resets_all : FnScope n_resets_all a_resets_all (defScope (top 81)) := ⟨rfl, rfl, rfl, by decide +kernel, rfl, by decide +kernel, by decide +kernel⟩
theorem keep_resets_all (b : Bi mg) (d : Dn K mg "resets_all" (top 81)) (k_group_bar : Keeps P w K mg base "group_bar" a_group_bar false 18 g_group_bar) : Keeps P w K mg base "resets_all" a_resets_all false 19 g_resets_all :=
  d.keeps sc_resets_all 1 rfl (by decide) (fun _ _ _ _ _ _ us hl => match us, hl with | [_], _ => rfl) fun f cdv hcd A outer s H E hr =>
  (s_one (s_ret (r_dat (m_cmp o_is (kc k_group_bar hr (by decide) (ma_cons (mv 0) ma_nil)) m_non))))
/-! ### with_hall -/
abbrev n_with_hall : List Str := ["parting", "hall", "joined", "at", "part"]
abbrev a_with_hall : List Str := ["parting", "hall"]
theorem sc_with_hall : FnScope n_with_hall a_with_hall (defScope (top 84)) := ⟨rfl, rfl, rfl, by decide +kernel, rfl, by decide +kernel, by decide +kernel⟩
theorem keep_with_hall (b : Bi mg) (d : Dn K mg "with_hall" (top 84)) : Keeps P w K mg base "with_hall" a_with_hall false 1 g_with_hall :=
  d.keeps sc_with_hall 2 rfl (by decide) (fun _ _ _ _ _ _ us hl => match us, hl with | [_, _], _ => rfl) fun f cdv hcd A outer s H E hr =>
  (s_cons (s_asgLc (i := 2) (own := [("at", 3), ("part", 4)]) rfl sc_with_hall.nd rfl rfl rfl (mi_enum rfl b.enumerate (mv 0)) (by refine blkOk_by ?_; kernel_rfl) (fun _ _ _ _ _ => (mg_tup rfl (mgs_cons (mg_name (i := 3) sc_with_hall.nd rfl (by first | exact Or.inl rfl | exact Or.inr rfl)) (mgs_cons (mg_name (i := 4) sc_with_hall.nd rfl (by first | exact Or.inl rfl | exact Or.inr rfl)) mgs_nil)))) (fun _ _ _ _ _ => mts_nil) (fun _ _ _ _ _ => (m_op o_add (m_op o_add (m_cutT (mv 0) mo_none (mo_some (mv 3))) (m_tup (ma_cons (m_op o_add (mv 4) (m_tup (ma_cons (mv 1) ma_nil))) ma_nil))) (m_cutT (mv 0) (mo_some (m_op o_add (mv 3) m_int)) mo_none))))
  (s_one (s_ret (r_lst (mf_cat (ml_var (i := 2) rfl (by first | exact Or.inl rfl | exact Or.inr (Or.inl rfl) | exact Or.inr (Or.inr rfl))) (ml_f (mf_lst (ma_cons (m_op o_add (mv 0) (m_tup (ma_cons (m_tup (ma_cons (mv 1) ma_nil)) ma_nil))) ma_nil))))))))
/-! ### all_partings -/
abbrev n_all_partings : List Str := ["halls", "partings", "hall", "parting", "wider"]
abbrev a_all_partings : List Str := ["halls"]
theorem sc_all_partings : FnScope n_all_partings a_all_partings (defScope (top 85)) := ⟨rfl, rfl, rfl, by decide +kernel, rfl, by decide +kernel, by decide +kernel⟩
theorem keep_all_partings (b : Bi mg) (d : Dn K mg "all_partings" (top 85)) (k_with_hall : Keeps P w K mg base "with_hall" a_with_hall false 1 g_with_hall) : Keeps P w K mg base "all_partings" a_all_partings false 2 g_all_partings :=
  d.keeps sc_all_partings 1 rfl (by decide) (fun _ _ _ _ _ _ us hl => match us, hl with | [_], _ => rfl) fun f cdv hcd A outer s H E hr =>
  (s_cons (s_asg (i := 1) sc_all_partings.nd rfl (by first | exact Or.inl rfl | exact Or.inr rfl) (r_lst (mf_lst (ma_cons (m_tup ma_nil) ma_nil))))
  (s_cons (s_for rfl (i_rng1 rfl b.range (ma_cons (mv 0) ma_nil)) (gs_name (i := 2) sc_all_partings.nd rfl (by first | exact Or.inl rfl | exact Or.inr rfl)) (s_one (s_asgLc2 (i := 1) (own := [("parting", 3), ("wider", 4)]) (own1 := [4]) rfl sc_all_partings.nd rfl rfl rfl (mi_seq (mv 1)) (by refine blkOk_by ?_; kernel_rfl) (by decide) (fun _ _ _ _ _ => (mg_name (i := 3) sc_all_partings.nd rfl (by first | exact Or.inl rfl | exact Or.inr rfl))) (fun _ _ _ _ _ => mts_nil) (fun _ _ _ _ _ => (mi_f (kcF k_with_hall hr (by decide) (ma_cons (mv 3) (ma_cons (mv 2) ma_nil))))) (fun _ _ _ _ _ => (mg_name (i := 4) sc_all_partings.nd rfl (by first | exact Or.inl rfl | exact Or.inr rfl))) (fun _ _ _ _ _ => mts_nil) (fun _ _ _ _ _ => (mv 4)))) PassesOwn.never)
  (s_one (s_retV (i := 1) rfl (by first | exact Or.inl rfl | exact Or.inr (Or.inl rfl) | exact Or.inr (Or.inr rfl))))))
/-! ### leads_to_parts -/
abbrev n_leads_to_parts : List Str := ["places", "parting", "part"]
abbrev a_leads_to_parts : List Str := ["places", "parting"]
theorem sc_leads_to_parts : FnScope n_leads_to_parts a_leads_to_parts (defScope (top 86)) := ⟨rfl, rfl, rfl, by decide +kernel, rfl, by decide +kernel, by decide +kernel⟩
theorem keep_leads_to_parts (b : Bi mg) (d : Dn K mg "leads_to_parts" (top 86)) (k_image : Keeps P w K mg base "image" a_image false 1 g_image) : Keeps P w K mg base "leads_to_parts" a_leads_to_parts false 2 g_leads_to_parts :=
  d.keeps sc_leads_to_parts 2 rfl (by decide) (fun _ _ _ _ _ _ us hl => match us, hl with | [_, _], _ => rfl) fun f cdv hcd A outer s H E hr =>
  (s_one (s_ret (r_dat (m_callB (c_all rfl) rfl b.all boot_all (ma_cons (PMF.m (mf_lc (own := [("part", 2)]) rfl sc_leads_to_parts.nd (mi_seq (mv 1)) (by refine blkOk_by ?_; kernel_rfl) (fun _ _ _ _ _ => (mg_name (i := 2) sc_leads_to_parts.nd rfl (by first | exact Or.inl rfl | exact Or.inr rfl))) (fun _ _ _ _ _ => mts_nil) (fun _ _ _ _ _ => (m_cmp (o_in (u65 hr)) (kc k_image hr (by decide) (ma_cons (mv 0) (ma_cons (mv 2) ma_nil))) (mv 1))))) ma_nil)))))
/-! ### partings_kept -/
abbrev n_partings_kept : List Str := ["house", "partings", "places", "parting"]
abbrev a_partings_kept : List Str := ["house"]
theorem sc_partings_kept : FnScope n_partings_kept a_partings_kept (defScope (top 87)) := ⟨rfl, rfl, rfl, by decide +kernel, rfl, by decide +kernel, by decide +kernel⟩
theorem keep_partings_kept (b : Bi mg) (d : Dn K mg "partings_kept" (top 87)) (k_all_partings : Keeps P w K mg base "all_partings" a_all_partings false 2 g_all_partings) (k_leads_to_parts : Keeps P w K mg base "leads_to_parts" a_leads_to_parts false 2 g_leads_to_parts) : Keeps P w K mg base "partings_kept" a_partings_kept false 3 g_partings_kept :=
  d.keeps sc_partings_kept 1 rfl (by decide) (fun _ _ _ _ _ _ us hl => match us, hl with | [_], _ => rfl) fun f cdv hcd A outer s H E hr =>
  (s_cons (s_asg (i := 1) sc_partings_kept.nd rfl (by first | exact Or.inl rfl | exact Or.inr rfl) (r_lst (kcF k_all_partings hr (by decide) (ma_cons (m_ix x_ix (mv 0) m_int) ma_nil))))
  (s_cons (s_for rfl (i_tup (m_ix x_ix (mv 0) m_int)) (gs_name (i := 2) sc_partings_kept.nd rfl (by first | exact Or.inl rfl | exact Or.inr rfl)) (s_one (s_asgLc (i := 1) (own := [("parting", 3)]) rfl sc_partings_kept.nd rfl rfl rfl (mi_seq (mv 1)) (by refine blkOk_by ?_; kernel_rfl) (fun _ _ _ _ _ => (mg_name (i := 3) sc_partings_kept.nd rfl (by first | exact Or.inl rfl | exact Or.inr rfl))) (fun _ _ _ _ _ => (mts_one (mt_val (kc k_leads_to_parts hr (by decide) (ma_cons (mv 2) (ma_cons (mv 3) ma_nil)))))) (fun _ _ _ _ _ => (mv 3)))) PassesOwn.never)
  (s_one (s_retV (i := 1) rfl (by first | exact Or.inl rfl | exact Or.inr (Or.inl rfl) | exact Or.inr (Or.inr rfl))))))
/-! ### parts_of_colours -/
abbrev n_parts_of_colours : List Str := ["numbers", "own", "hall", "number"]
abbrev a_parts_of_colours : List Str := ["numbers"]
theorem sc_parts_of_colours : FnScope n_parts_of_colours a_parts_of_colours (defScope (top 88)) := ⟨rfl, rfl, rfl, by decide +kernel, rfl, by decide +kernel, by decide +kernel⟩
theorem keep_parts_of_colours (b : Bi mg) (d : Dn K mg "parts_of_colours" (top 88)) : Keeps P w K mg base "parts_of_colours" a_parts_of_colours false 1 g_parts_of_colours :=
  d.keeps sc_parts_of_colours 1 rfl (by decide) (fun _ _ _ _ _ _ us hl => match us, hl with | [_], _ => rfl) fun f cdv hcd A outer s H E hr =>
  (s_one (s_ret (r_dat (m_callTy c_tuple rfl b.tuple boot_tuple (ma_cons (PMF.m (mf_sortedK rfl hr.units rfl b.sorted (mk_sc (own := [("own", 1)]) (kindK _ hr.units) rfl sc_parts_of_colours.nd (mi_seq (mv 0)) (by refine blkOk_by ?_; kernel_rfl) (fun _ _ _ _ _ => (mg_name (i := 1) sc_parts_of_colours.nd rfl (by first | exact Or.inl rfl | exact Or.inr rfl))) (fun _ _ _ _ _ => mts_nil) (fun _ _ _ _ _ => (m_callTy c_tuple rfl b.tuple boot_tuple (ma_cons (PMF.m (mf_lc (own := [("hall", 2), ("number", 3)]) rfl sc_parts_of_colours.nd (mi_enum rfl b.enumerate (mv 0)) (by refine blkOk_by ?_; kernel_rfl) (fun _ _ _ _ _ => (mg_tup rfl (mgs_cons (mg_name (i := 2) sc_parts_of_colours.nd rfl (by first | exact Or.inl rfl | exact Or.inr rfl)) (mgs_cons (mg_name (i := 3) sc_parts_of_colours.nd rfl (by first | exact Or.inl rfl | exact Or.inr rfl)) mgs_nil)))) (fun _ _ _ _ _ => (mts_one (mt_cmp (o_eq hr.units) (mv 3) (mv 1)))) (fun _ _ _ _ _ => (mv 2)))) ma_nil)))) (he := rfl))) ma_nil)))))
/-! ### section -/
abbrev n_section : List Str := ["house", "found", "_", "clique", "numbers"]
abbrev a_section : List Str := ["house"]
theorem sc_section : FnScope n_section a_section (defScope (top 89)) := ⟨rfl, rfl, rfl, by decide +kernel, rfl, by decide +kernel, by decide +kernel⟩
theorem keep_section (b : Bi mg) (d : Dn K mg "section" (top 89)) (k_group_bar : Keeps P w K mg base "group_bar" a_group_bar false 18 g_group_bar) (k_parts_of_colours : Keeps P w K mg base "parts_of_colours" a_parts_of_colours false 1 g_parts_of_colours) : Keeps P w K mg base "section" a_section false 19 g_section :=
  d.keeps sc_section 1 rfl (by decide) (fun _ _ _ _ _ _ us hl => match us, hl with | [_], _ => rfl) fun f cdv hcd A outer s H E hr =>
  (s_cons (s_asg (i := 1) sc_section.nd rfl (by first | exact Or.inl rfl | exact Or.inr rfl) (r_dat (kc k_group_bar hr (by decide) (ma_cons (mv 0) ma_nil))))
  (s_cons (s_if (mt_cmp o_is (mv 1) m_non) (s_one (s_ret (r_dat m_non))) s_nil)
  (s_cons (s_unpV (i := 1) rfl (by first | exact Or.inl rfl | exact Or.inr (Or.inl rfl) | exact Or.inr (Or.inr rfl)) (gs_tup rfl (gss_cons (gs_name (i := 2) sc_section.nd rfl (by first | exact Or.inl rfl | exact Or.inr rfl)) (gss_cons (gs_name (i := 3) sc_section.nd rfl (by first | exact Or.inl rfl | exact Or.inr rfl)) (gss_cons (gs_name (i := 4) sc_section.nd rfl (by first | exact Or.inl rfl | exact Or.inr rfl)) gss_nil)))))
  (s_one (s_ret (r_dat (m_tup (ma_cons (kc k_parts_of_colours hr (by decide) (ma_cons (mv 4) ma_nil)) (ma_cons (mv 3) ma_nil)))))))))
/-! ### is_transitive -/
abbrev n_is_transitive : List Str := ["house"]
abbrev a_is_transitive : List Str := ["house"]
theorem sc_is_transitive : FnScope n_is_transitive a_is_transitive (defScope (top 90)) := ⟨rfl, rfl, rfl, by decide +kernel, rfl, by decide +kernel, by decide +kernel⟩
theorem keep_is_transitive (b : Bi mg) (d : Dn K mg "is_transitive" (top 90)) (k_check_turns : Keeps P w K mg base "check_turns" a_check_turns false 8 g_check_turns) (k_rows_from : Keeps P w K mg base "rows_from" a_rows_from false 2 g_rows_from) : Keeps P w K mg base "is_transitive" a_is_transitive false 9 g_is_transitive :=
  d.keeps sc_is_transitive 1 rfl (by decide) (fun _ _ _ _ _ _ us hl => match us, hl with | [_], _ => rfl) fun f cdv hcd A outer s H E hr =>
  (s_cons (s_drop (kc k_check_turns hr (by decide) (ma_cons (mv 0) ma_nil)))
  (s_one (s_ret (r_dat (m_cmp (o_eq hr.units) (m_callB c_lenDic rfl b.len boot_len (ma_cons (PMD.m (kcD k_rows_from hr (by decide) (ma_cons (mv 0) (ma_cons (m_tup (ma_cons m_int ma_nil)) ma_nil)))) ma_nil)) (m_ix x_ix (mv 0) m_int))))))
/-! ### is_pairwise -/
abbrev n_is_pairwise : List Str := ["house"]
abbrev a_is_pairwise : List Str := ["house"]
theorem sc_is_pairwise : FnScope n_is_pairwise a_is_pairwise (defScope (top 91)) := ⟨rfl, rfl, rfl, by decide +kernel, rfl, by decide +kernel, by decide +kernel⟩
theorem keep_is_pairwise (b : Bi mg) (d : Dn K mg "is_pairwise" (top 91)) (k_pair_lots : Keeps P w K mg base "pair_lots" a_pair_lots false 9 g_pair_lots) : Keeps P w K mg base "is_pairwise" a_is_pairwise false 10 g_is_pairwise :=
  d.keeps sc_is_pairwise 1 rfl (by decide) (fun _ _ _ _ _ _ us hl => match us, hl with | [_], _ => rfl) fun f cdv hcd A outer s H E hr =>
  (s_one (s_ret (r_dat (m_cmp (o_ltA hr.units) (m_callB c_len rfl b.len boot_len (ma_cons (kc k_pair_lots hr (by decide) (ma_cons (mv 0) ma_nil)) ma_nil)) m_int))))
/-! ### is_primitive -/
abbrev n_is_primitive : List Str := ["house"]
abbrev a_is_primitive : List Str := ["house"]
theorem sc_is_primitive : FnScope n_is_primitive a_is_primitive (defScope (top 92)) := ⟨rfl, rfl, rfl, by decide +kernel, rfl, by decide +kernel, by decide +kernel⟩
theorem keep_is_primitive (b : Bi mg) (d : Dn K mg "is_primitive" (top 92)) (k_check_turns : Keeps P w K mg base "check_turns" a_check_turns false 8 g_check_turns) (k_partings_kept : Keeps P w K mg base "partings_kept" a_partings_kept false 3 g_partings_kept) : Keeps P w K mg base "is_primitive" a_is_primitive false 9 g_is_primitive :=
  d.keeps sc_is_primitive 1 rfl (by decide) (fun _ _ _ _ _ _ us hl => match us, hl with | [_], _ => rfl) fun f cdv hcd A outer s H E hr =>
  (s_cons (s_drop (kc k_check_turns hr (by decide) (ma_cons (mv 0) ma_nil)))
  (s_one (s_ret (r_dat (m_cmp o_le (m_callB c_len rfl b.len boot_len (ma_cons (PMF.m (kcF k_partings_kept hr (by decide) (ma_cons (mv 0) ma_nil))) ma_nil)) m_int)))))
/-! ### kept_partings -/
abbrev n_kept_partings : List Str := ["house", "partings"]
abbrev a_kept_partings : List Str := ["house"]
theorem sc_kept_partings : FnScope n_kept_partings a_kept_partings (defScope (top 93)) := ⟨rfl, rfl, rfl, by decide +kernel, rfl, by decide +kernel, by decide +kernel⟩
theorem keep_kept_partings (b : Bi mg) (d : Dn K mg "kept_partings" (top 93)) (k_check_turns : Keeps P w K mg base "check_turns" a_check_turns false 8 g_check_turns) (k_partings_kept : Keeps P w K mg base "partings_kept" a_partings_kept false 3 g_partings_kept) : Keeps P w K mg base "kept_partings" a_kept_partings false 9 g_kept_partings :=
  d.keeps sc_kept_partings 1 rfl (by decide) (fun _ _ _ _ _ _ us hl => match us, hl with | [_], _ => rfl) fun f cdv hcd A outer s H E hr =>
  (s_cons (s_drop (kc k_check_turns hr (by decide) (ma_cons (mv 0) ma_nil)))
  (s_cons (s_asg (i := 1) sc_kept_partings.nd rfl (by first | exact Or.inl rfl | exact Or.inr rfl) (r_lst (kcF k_partings_kept hr (by decide) (ma_cons (mv 0) ma_nil))))
  (s_cons (s_if (mt_cmp o_gt (m_callB c_len rfl b.len boot_len (ma_cons (mv 1) ma_nil)) (m_glob rfl b.MOST_PARTINGS.choose_spec)) (s_one s_never) s_nil)
  (s_one (s_ret (r_dat (m_callTy c_tuple rfl b.tuple boot_tuple (ma_cons (PMF.m (mf_callB (c_sorted hr.units) rfl b.sorted boot_sorted (ma_cons (mv 1) ma_nil))) ma_nil))))))))
/-! ### _law_taken -/
abbrev n__law_taken : List Str := ["row", "many", "found", "cell"]
abbrev a__law_taken : List Str := ["row", "many"]
theorem sc__law_taken : FnScope n__law_taken a__law_taken (defScope (top 95)) := ⟨rfl, rfl, rfl, by decide +kernel, rfl, by decide +kernel, by decide +kernel⟩
theorem keep__law_taken (b : Bi mg) (d : Dn K mg "_law_taken" (top 95)) : Keeps P w K mg base "_law_taken" a__law_taken true 1 g__law_taken :=
  d.keeps sc__law_taken 1 rfl (by decide) (fun _ _ _ _ _ _ us hl => match us, hl with | [_, _], _ => rfl) fun f cdv hcd A outer s H E hr =>
  (s_cons (s_if (mt_cmp o_gt (m_rowIx (i := 0) rfl (by first | exact Or.inl rfl | exact Or.inr (Or.inl rfl) | exact Or.inr (Or.inr rfl)) m_int) m_int) (s_cons (s_asg (i := 2) sc__law_taken.nd rfl (by first | exact Or.inl rfl | exact Or.inr rfl) (r_dat (m_op o_mod (m_callTy c_int rfl b.int boot_int (ma_cons (m_rowIx (i := 0) rfl (by first | exact Or.inl rfl | exact Or.inr (Or.inl rfl) | exact Or.inr (Or.inr rfl)) m_int) ma_nil)) (mv 1))))
  (s_cons (s_rowSet (i := 0) rfl (by first | exact Or.inl rfl | exact Or.inr (Or.inl rfl) | exact Or.inr (Or.inr rfl)) m_int (m_op o_fdiv (m_rowIx (i := 0) rfl (by first | exact Or.inl rfl | exact Or.inr (Or.inl rfl) | exact Or.inr (Or.inr rfl)) m_int) (mv 1)))
  (s_one (s_ret (r_dat (mv 2)))))) s_nil)
  (s_cons (s_rowSet (i := 0) rfl (by first | exact Or.inl rfl | exact Or.inr (Or.inl rfl) | exact Or.inr (Or.inr rfl)) m_int (m_op o_add (m_rowIx (i := 0) rfl (by first | exact Or.inl rfl | exact Or.inr (Or.inl rfl) | exact Or.inr (Or.inr rfl)) m_int) m_int))
  (s_cons (s_if (mt_cmp o_gt (m_rowIx (i := 0) rfl (by first | exact Or.inl rfl | exact Or.inr (Or.inl rfl) | exact Or.inr (Or.inr rfl)) m_int) (m_callB c_len rfl b.len boot_len (ma_cons (m_rowIx (i := 0) rfl (by first | exact Or.inl rfl | exact Or.inr (Or.inl rfl) | exact Or.inr (Or.inr rfl)) m_int) ma_nil))) (s_cons (s_rowSet (i := 0) rfl (by first | exact Or.inl rfl | exact Or.inr (Or.inl rfl) | exact Or.inr (Or.inr rfl)) m_int (m_op o_mod (m_callTy c_int rfl b.int boot_int (ma_cons (m_op o_add (m_op o_mul (m_rowIx (i := 0) rfl (by first | exact Or.inl rfl | exact Or.inr (Or.inl rfl) | exact Or.inr (Or.inr rfl)) m_int) m_int) m_int) ma_nil)) m_int))
  (s_one (s_ret (r_dat (m_op o_mod (m_callTy c_int rfl b.int boot_int (ma_cons (m_op o_fdiv (m_rowIx (i := 0) rfl (by first | exact Or.inl rfl | exact Or.inr (Or.inl rfl) | exact Or.inr (Or.inr rfl)) m_int) m_int) ma_nil)) (mv 1)))))) s_nil)
  (s_cons (s_asg (i := 3) sc__law_taken.nd rfl (by first | exact Or.inl rfl | exact Or.inr rfl) (r_dat (m_ix x_ix (m_rowIx (i := 0) rfl (by first | exact Or.inl rfl | exact Or.inr (Or.inl rfl) | exact Or.inr (Or.inr rfl)) m_int) (m_op o_sub (m_rowIx (i := 0) rfl (by first | exact Or.inl rfl | exact Or.inr (Or.inl rfl) | exact Or.inr (Or.inr rfl)) m_int) m_int))))
  (s_cons (s_rowSet (i := 0) rfl (by first | exact Or.inl rfl | exact Or.inr (Or.inl rfl) | exact Or.inr (Or.inr rfl)) m_int (m_op o_mod (m_callTy c_int rfl b.int boot_int (ma_cons (m_op o_add (m_op o_add (m_op o_mul (m_rowIx (i := 0) rfl (by first | exact Or.inl rfl | exact Or.inr (Or.inl rfl) | exact Or.inr (Or.inr rfl)) m_int) m_int) (mv 3)) m_int) ma_nil)) m_int))
  (s_cons (s_if (mt_cmp o_ge (mv 3) (m_op o_pow m_int m_int)) (s_one (s_rowSet (i := 0) rfl (by first | exact Or.inl rfl | exact Or.inr (Or.inl rfl) | exact Or.inr (Or.inr rfl)) m_int (m_op o_fdiv (mv 3) (mv 1)))) s_nil)
  (s_one (s_ret (r_dat (m_op o_mod (m_callTy c_int rfl b.int boot_int (ma_cons (mv 3) ma_nil)) (mv 1)))))))))))
/-! ### _law_circle -/
abbrev n__law_circle : List Str := ["halls", "step", "hall"]
abbrev a__law_circle : List Str := ["halls", "step"]
theorem sc__law_circle : FnScope n__law_circle a__law_circle (defScope (top 96)) := ⟨rfl, rfl, rfl, by decide +kernel, rfl, by decide +kernel, by decide +kernel⟩
theorem keep__law_circle (b : Bi mg) (d : Dn K mg "_law_circle" (top 96)) : Keeps P w K mg base "_law_circle" a__law_circle false 1 g__law_circle :=
  d.keeps sc__law_circle 2 rfl (by decide) (fun _ _ _ _ _ _ us hl => match us, hl with | [_, _], _ => rfl) fun f cdv hcd A outer s H E hr =>
  (s_one (s_ret (r_dat (m_callTy c_tuple rfl b.tuple boot_tuple (ma_cons (PMF.m (mf_lc (own := [("hall", 2)]) rfl sc__law_circle.nd (mi_rng1 rfl b.range (ma_cons (mv 0) ma_nil)) (by refine blkOk_by ?_; kernel_rfl) (fun _ _ _ _ _ => (mg_name (i := 2) sc__law_circle.nd rfl (by first | exact Or.inl rfl | exact Or.inr rfl))) (fun _ _ _ _ _ => mts_nil) (fun _ _ _ _ _ => (m_op o_mod (m_op o_add (mv 2) (mv 1)) (mv 0))))) ma_nil)))))
/-! ### law -/
abbrev n_law : List Str := ["script", "row", "far", "three", "ring", "five", "told", "four", "klein", "prime", "some", "still", "six", "group"]
def c_law : C := (cSeq (cAsg 2 (rDt (mTup (mCons (mC (.int 4)) (mCons (mTup (mCons (mTup (mCons (mC (.int 1)) (mCons (mC (.int 2)) (mCons (mC (.int 3)) (mCons (mC (.int 0)) mNil))))) (mCons (mTup (mCons (mC (.int 0)) (mCons (mC (.int 1)) (mCons (mC (.int 2)) (mCons (mC (.int 0)) mNil))))) mNil))) mNil)))))
  (cSeq (cIf (mOr (mTest (mOp neD (mCall0 (g0 g_reset) (mCons (mVar 2) mNil)) (mTup (mCons (mC (.int 1)) (mCons (mC (.int 0)) (mCons (mC (.int 0)) (mCons (mC (.int 0)) (mCons (mC (.int 1)) (mCons (mC (.int 0)) (mCons (mC (.int 0)) (mCons (mC (.int 0)) (mCons (mC (.int 1)) mNil)))))))))))) (mOr (mTest (mOp neD (mCall0 (g0 g_resets_to) (mCons (mVar 2) mNil)) (mTup (mCons (mC (.int 0)) (mCons (mC (.int 1)) (mCons (mC (.int 2)) (mCons (mC (.int 3)) mNil))))))) (mTest (mOp neD (mCall0 (g0 g_rank) (mCons (mVar 2) mNil)) (mC (.int 1)))))) (cRet (rDt (mC (.bl false)))) cNil)
  (cSeq (cIf (mTest (mOp neD (mLst (mSz (mCons (mCall0 (g0 g_homing) (mCons (mVar 2) (mCons (mTup (mCons (mC (.int 0)) (mCons (mC (.int 3)) mNil))) mNil))) (mCons (mCall0 (g0 g_meeting) (mCons (mVar 2) (mCons (mC (.int 0)) (mCons (mC (.int 2)) mNil)))) (mCons (mCall0 (g0 g_meeting) (mCons (mVar 2) (mCons (mC (.int 1)) (mCons (mC (.int 1)) mNil)))) mNil))))) (mLst (mSz (mCons (mTup (mCons (mC (.int 1)) mNil)) (mCons (mTup (mCons (mC (.int 0)) (mCons (mC (.int 1)) (mCons (mC (.int 0)) (mCons (mC (.int 0)) (mCons (mC (.int 0)) (mCons (mC (.int 1)) mNil))))))) (mCons (mTup mNil) mNil))))))) (cRet (rDt (mC (.bl false)))) cNil)
  (cSeq (cAsg 3 (rDt (mTup (mCons (mC (.int 3)) (mCons (mTup (mCons (mTup (mCons (mC (.int 1)) (mCons (mC (.int 0)) (mCons (mC (.int 2)) mNil)))) (mCons (mTup (mCons (mC (.int 0)) (mCons (mC (.int 0)) (mCons (mC (.int 2)) mNil)))) mNil))) mNil)))))
  (cSeq (cIf (mOr (mTest (mOp isNotD (mCall0 (g0 g_reset) (mCons (mVar 3) mNil)) (mC .non))) (mOr (mTest (mOp neD (mCall0 (g0 g_rank) (mCons (mVar 3) mNil)) (mC (.int 2)))) (mTest (mOp neD (mCall0 (g0 g_fewest_row) (mCons (mVar 3) mNil)) (mTup (mCons (mC (.int 1)) mNil)))))) (cRet (rDt (mC (.bl false)))) cNil)
  (cSeq (cIf (mTest (mOp neD (mCall0 (g0 g_lots) (mCons (mVar 3) mNil)) (mTup (mCons (mTup (mCons (mC (.int 0)) (mCons (mC (.int 1)) (mCons (mC (.int 2)) mNil)))) (mCons (mTup (mCons (mC (.int 0)) (mCons (mC (.int 2)) mNil))) (mCons (mTup (mCons (mC (.int 1)) (mCons (mC (.int 2)) mNil))) mNil)))))) (cRet (rDt (mC (.bl false)))) cNil)
  (cSeq (cIf (mOr (mTest (mOp neD (mCall0 (g0 g_never_meet) (mCons (mVar 3) mNil)) (mTup (mCons (mTup (mCons (mC (.int 0)) (mCons (mC (.int 2)) mNil))) (mCons (mTup (mCons (mC (.int 1)) (mCons (mC (.int 2)) mNil))) mNil))))) (mOr (mTest (mOp eqD (mOp ixD (mCall0 (g0 g_bar) (mCons (mVar 3) mNil)) (mC (.int 0))) (mTup mNil))) (mTest (mOp isNotD (mCall0 (g0 g_has_reset) (mCons (mVar 3) mNil)) (mC (.bl false)))))) (cRet (rDt (mC (.bl false)))) cNil)
  (cSeq (cIf (mOr (mTest (mOp neD (mCall0 (g0 g_led) (mCons (mVar 3) (mCons (mTup (mCons (mC (.int 0)) (mCons (mC (.int 1)) mNil))) (mCons (mTup (mCons (mC (.int 1)) (mCons (mC (.int 0)) mNil))) mNil)))) (mTup (mCons (mC (.int 1)) mNil)))) (mTest (mOp neD (mCall0 (g0 g_map_of) (mCons (mVar 3) (mCons (mTup (mCons (mC (.int 1)) (mCons (mC (.int 0)) mNil))) mNil))) (mTup (mCons (mC (.int 1)) (mCons (mC (.int 1)) (mCons (mC (.int 2)) mNil))))))) (cRet (rDt (mC (.bl false)))) cNil)
  (cSeq (cUnp (gT 2 (gsCons (gD 4) (gsCons (gD 5) gsNil))) (mTup (mCons (mTup (mCons (mTup (mCons (mC (.int 0)) (mCons (mC (.int 1)) mNil))) (mCons (mTup (mCons (mC (.int 0)) (mCons (mC (.int 3)) mNil))) (mCons (mTup (mCons (mC (.int 1)) (mCons (mC (.int 2)) mNil))) (mCons (mTup (mCons (mC (.int 2)) (mCons (mC (.int 3)) mNil))) mNil))))) (mCons (mTup (mCons (mTup (mCons (mC (.int 0)) (mCons (mC (.int 1)) mNil))) (mCons (mTup (mCons (mC (.int 0)) (mCons (mC (.int 4)) mNil))) (mCons (mTup (mCons (mC (.int 1)) (mCons (mC (.int 2)) mNil))) (mCons (mTup (mCons (mC (.int 2)) (mCons (mC (.int 3)) mNil))) (mCons (mTup (mCons (mC (.int 3)) (mCons (mC (.int 4)) mNil))) mNil)))))) mNil))))
  (cSeq (cAsg 6 (rL (mSz (mCons (mCall0 (g0 g_greatest_clique) (mCons (mC (.int 4)) (mCons (mVar 4) mNil))) (mCons (mCall0 (g0 g_colours) (mCons (mC (.int 4)) (mCons (mVar 4) mNil))) mNil)))))
  (cSeq (cAsg 6 (rL (mCat (mLv 6) (mSz (mCons (mCall0 (g0 g_least_colours) (mCons (mC (.int 5)) (mCons (mVar 5) mNil))) (mCons (mCall0 (g0 g_is_barring) (mCons (mC (.int 5)) (mCons (mVar 5) mNil))) (mCons (mCall0 (g0 g_is_barring) (mCons (mC (.int 4)) (mCons (mVar 4) mNil))) mNil)))))))
  (cSeq (cIf (mTest (mOp neD (mVar 6) (mLst (mSz (mCons (mTup (mCons (mC (.int 0)) (mCons (mC (.int 1)) mNil))) (mCons (mTup (mCons (mC (.int 0)) (mCons (mC (.int 1)) (mCons (mC (.int 0)) (mCons (mC (.int 1)) mNil))))) (mCons (mC (.int 3)) (mCons (mC (.bl false)) (mCons (mC (.bl true)) mNil))))))))) (cRet (rDt (mC (.bl false)))) cNil)
  (cSeq (cUnp (gT 2 (gsCons (gD 7) (gsCons (gD 8) gsNil))) (mTup (mCons (mTup (mCons (mC (.int 4)) (mCons (mTup (mCons (mTup (mCons (mC (.int 1)) (mCons (mC (.int 2)) (mCons (mC (.int 3)) (mCons (mC (.int 0)) mNil))))) mNil)) mNil))) (mCons (mTup (mCons (mC (.int 4)) (mCons (mTup (mCons (mTup (mCons (mC (.int 1)) (mCons (mC (.int 0)) (mCons (mC (.int 3)) (mCons (mC (.int 2)) mNil))))) (mCons (mTup (mCons (mC (.int 2)) (mCons (mC (.int 3)) (mCons (mC (.int 0)) (mCons (mC (.int 1)) mNil))))) mNil))) mNil))) mNil))))
  (cSeq (cIf (mOr (mTest (mOp neD (mCall0 (g0 g_pair_lots) (mCons (mVar 7) mNil)) (mTup (mCons (mTup (mCons (mTup (mCons (mC (.int 0)) (mCons (mC (.int 1)) mNil))) (mCons (mTup (mCons (mC (.int 0)) (mCons (mC (.int 3)) mNil))) (mCons (mTup (mCons (mC (.int 1)) (mCons (mC (.int 2)) mNil))) (mCons (mTup (mCons (mC (.int 2)) (mCons (mC (.int 3)) mNil))) mNil))))) (mCons (mTup (mCons (mTup (mCons (mC (.int 0)) (mCons (mC (.int 2)) mNil))) (mCons (mTup (mCons (mC (.int 1)) (mCons (mC (.int 3)) mNil))) mNil))) mNil))))) (mTest (mOp neD (mCall lenD (mCons (mCall0 (g0 g_kept_nets) (mCons (mVar 7) mNil)) mNil)) (mC (.int 4))))) (cRet (rDt (mC (.bl false)))) cNil)
  (cSeq (cIf (mOr (mTest (mOp neD (mCall0 (g0 g_barring_nets) (mCons (mVar 7) mNil)) (mTup (mCons (mVar 4) (mCons (mTup (mCons (mTup (mCons (mC (.int 0)) (mCons (mC (.int 2)) mNil))) (mCons (mTup (mCons (mC (.int 1)) (mCons (mC (.int 3)) mNil))) mNil))) mNil))))) (mTest (mOp neD (mCall lenD (mCons (mCall0 (g0 g_barring_nets) (mCons (mVar 8) mNil)) mNil)) (mC (.int 6))))) (cRet (rDt (mC (.bl false)))) cNil)
  (cSeq (cAsg 9 (rDt (mTup (mCons (mC (.int 5)) (mCons (mTup (mCons (mTup (mCons (mC (.int 1)) (mCons (mC (.int 2)) (mCons (mC (.int 3)) (mCons (mC (.int 4)) (mCons (mC (.int 0)) mNil)))))) mNil)) mNil)))))
  (cSeq (cAsg 10 (rL (mSz (mCons (mVar 9) (mCons (mVar 7) (mCons (mVar 8) (mCons (mTup (mCons (mC (.int 4)) (mCons (mTup (mCons (mTup (mCons (mC (.int 1)) (mCons (mC (.int 2)) (mCons (mC (.int 0)) (mCons (mC (.int 3)) mNil))))) (mCons (mTup (mCons (mC (.int 1)) (mCons (mC (.int 0)) (mCons (mC (.int 3)) (mCons (mC (.int 2)) mNil))))) mNil))) mNil))) mNil)))))))
  (cSeq (cIf (mTest (mOp neD (mLst (mLc (mSeq (mVar 10)) [13] (gN 13) mYes (mCall0 (g0 g_resets_all) (mCons (mVar 13) mNil)))) (mLst (mSz (mCons (mC (.bl true)) (mCons (mC (.bl false)) (mCons (mC (.bl false)) (mCons (mC (.bl true)) mNil)))))))) (cRet (rDt (mC (.bl false)))) cNil)
  (cSeq (cIf (mTest (mOp neD (mLst (mSz (mCons (mCall0 (g0 g_is_transitive) (mCons (mVar 7) mNil)) (mCons (mCall0 (g0 g_is_pairwise) (mCons (mVar 7) mNil)) (mCons (mCall0 (g0 g_is_primitive) (mCons (mVar 7) mNil)) mNil))))) (mLst (mSz (mCons (mC (.bl true)) (mCons (mC (.bl false)) (mCons (mC (.bl false)) mNil))))))) (cRet (rDt (mC (.bl false)))) cNil)
  (cSeq (cIf (mTest (mOp neD (mLst (mSz (mCons (mCall0 (g0 g_is_primitive) (mCons (mVar 9) mNil)) (mCons (mCall0 (g0 g_is_pairwise) (mCons (mVar 9) mNil)) mNil)))) (mLst (mSz (mCons (mC (.bl true)) (mCons (mC (.bl false)) mNil)))))) (cRet (rDt (mC (.bl false)))) cNil)
  (cSeq (cIf (mTest (mOp neD (mCall0 (g0 g_kept_partings) (mCons (mVar 7) mNil)) (mTup (mCons (mTup (mCons (mTup (mCons (mC (.int 0)) mNil)) (mCons (mTup (mCons (mC (.int 1)) mNil)) (mCons (mTup (mCons (mC (.int 2)) mNil)) (mCons (mTup (mCons (mC (.int 3)) mNil)) mNil))))) (mCons (mTup (mCons (mTup (mCons (mC (.int 0)) (mCons (mC (.int 1)) (mCons (mC (.int 2)) (mCons (mC (.int 3)) mNil))))) mNil)) (mCons (mTup (mCons (mTup (mCons (mC (.int 0)) (mCons (mC (.int 2)) mNil))) (mCons (mTup (mCons (mC (.int 1)) (mCons (mC (.int 3)) mNil))) mNil))) mNil)))))) (cRet (rDt (mC (.bl false)))) cNil)
  (cSeq (cIf (mTest (mOp isNotD (mCall0 (g0 g_section) (mCons (mVar 9) mNil)) (mC .non))) (cRet (rDt (mC (.bl false)))) cNil)
  (cSeq (cAsg 11 (rDt (mTup (mCons (mC (.int 3)) (mCons (mTup (mCons (mTup (mCons (mC (.int 0)) (mCons (mC (.int 1)) (mCons (mC (.int 2)) mNil)))) mNil)) mNil)))))
  (cSeq (cIf (mTest (mOp neD (mLst (mSz (mCons (mCall0 (g0 g_count_resetting) (mCons (mVar 11) mNil)) (mCons (mCall0 (g0 g_count_resetting) (mCons (mTup (mCons (mC (.int 2)) (mCons (mTup (mCons (mTup (mCons (mC (.int 1)) (mCons (mC (.int 0)) mNil))) mNil)) mNil))) mNil)) (mCons (mCall lenD (mCons (mCall0 (g0 g_resisting_maps) (mCons (mVar 11) mNil)) mNil)) mNil))))) (mLst (mSz (mCons (mC (.int 9)) (mCons (mC (.int 2)) (mCons (mC (.int 12)) mNil))))))) (cRet (rDt (mC (.bl false)))) cNil)
  (cSeq (cIf (mTest (mOp gtD (mCallR 1 g__law_taken (mCons (mC (.int 12)) mNil)) (mC (.int 0)))) (cRet (rDt (mAndV (mOp isD (mCall0 (g0 g_resets_with) (mCons (mVar 7) (mCons (mTup (mCons (mC (.int 0)) (mCons (mC (.int 0)) (mCons (mC (.int 2)) (mCons (mC (.int 2)) mNil))))) mNil))) (mC (.bl false))) (mOp isD (mCall0 (g0 g_resets_with) (mCons (mVar 7) (mCons (mTup (mCons (mC (.int 0)) (mCons (mC (.int 0)) (mCons (mC (.int 2)) (mCons (mC (.int 3)) mNil))))) mNil))) (mC (.bl true)))))) cNil)
  (cSeq (cAsg 12 (rDt (mTup (mCons (mC (.int 6)) (mCons (mTup (mCons (mTup (mCons (mC (.int 1)) (mCons (mC (.int 2)) (mCons (mC (.int 3)) (mCons (mC (.int 4)) (mCons (mC (.int 0)) (mCons (mC (.int 5)) mNil))))))) (mCons (mTup (mCons (mC (.int 5)) (mCons (mC (.int 4)) (mCons (mC (.int 2)) (mCons (mC (.int 3)) (mCons (mC (.int 1)) (mCons (mC (.int 0)) mNil))))))) mNil))) mNil)))))
  (cRet (rDt (mAndV (mOp eqD (mCall0 (g0 g_resets_all) (mCons (mVar 12) mNil)) (mCall0 (g0 g_is_pairwise) (mCons (mVar 12) mNil))) (mOp isD (mCall0 (g0 g_resets_all) (mCons (mTup (mCons (mC (.int 7)) (mCons (mTup (mCons (mCall0 (g0 g__law_circle) (mCons (mC (.int 7)) (mCons (mC (.int 1)) mNil))) mNil)) mNil))) mNil)) (mC (.bl true))))))))))))))))))))))))))))))))
theorem sc_law : FnScope n_law ["script"] (defScope (top 97)) := ⟨rfl, rfl, rfl, by decide +kernel, rfl, by decide +kernel, by decide +kernel⟩
theorem keep_law (b : Bi mg) (k_rank : Keeps P w K mg base "rank" a_rank false 8 g_rank) (k_resets_to : Keeps P w K mg base "resets_to" a_resets_to false 9 g_resets_to) (k_reset : Keeps P w K mg base "reset" a_reset false 8 g_reset) (k_meeting : Keeps P w K mg base "meeting" a_meeting false 8 g_meeting) (k_homing : Keeps P w K mg base "homing" a_homing false 8 g_homing) (k_fewest_row : Keeps P w K mg base "fewest_row" a_fewest_row false 8 g_fewest_row) (k_lots : Keeps P w K mg base "lots" a_lots false 8 g_lots) (k_has_reset : Keeps P w K mg base "has_reset" a_has_reset false 9 g_has_reset) (k_bar : Keeps P w K mg base "bar" a_bar false 16 g_bar) (k_never_meet : Keeps P w K mg base "never_meet" a_never_meet false 9 g_never_meet) (k_map_of : Keeps P w K mg base "map_of" a_map_of false 8 g_map_of) (k_led : Keeps P w K mg base "led" a_led false 8 g_led) (k_colours : Keeps P w K mg base "colours" a_colours false 14 g_colours) (k_greatest_clique : Keeps P w K mg base "greatest_clique" a_greatest_clique false 8 g_greatest_clique) (k_is_barring : Keeps P w K mg base "is_barring" a_is_barring false 16 g_is_barring) (k_least_colours : Keeps P w K mg base "least_colours" a_least_colours false 15 g_least_colours) (k_kept_nets : Keeps P w K mg base "kept_nets" a_kept_nets false 10 g_kept_nets) (k_pair_lots : Keeps P w K mg base "pair_lots" a_pair_lots false 9 g_pair_lots) (k_barring_nets : Keeps P w K mg base "barring_nets" a_barring_nets false 18 g_barring_nets) (k_resets_all : Keeps P w K mg base "resets_all" a_resets_all false 19 g_resets_all) (k_is_primitive : Keeps P w K mg base "is_primitive" a_is_primitive false 9 g_is_primitive) (k_is_pairwise : Keeps P w K mg base "is_pairwise" a_is_pairwise false 10 g_is_pairwise) (k_is_transitive : Keeps P w K mg base "is_transitive" a_is_transitive false 9 g_is_transitive) (k_kept_partings : Keeps P w K mg base "kept_partings" a_kept_partings false 9 g_kept_partings) (k_section : Keeps P w K mg base "section" a_section false 19 g_section) (k_resisting_maps : Keeps P w K mg base "resisting_maps" a_resisting_maps false 9 g_resisting_maps) (k_count_resetting : Keeps P w K mg base "count_resetting" a_count_resetting false 8 g_count_resetting) (k__law_taken : Keeps P w K mg base "_law_taken" a__law_taken true 1 g__law_taken) (k_resets_with : KeepsR P w K mg base "resets_with" 8 g_resets_with) (k__law_circle : Keeps P w K mg base "_law_circle" a__law_circle false 1 g__law_circle) {f : Addr} {fd : FuncData} {ok : List Int → Prop} (F : FunD K "law" "law" (defArgs (top 97)) (defBody (top 97)) (defScope (top 97)) [] [] f fd)
  (hgood : ∀ ns, ok ns → ∃ env' ρ', c_law (env0 14 ns) (rho0 5513 ns) = some (.rt (.bl true), env', ρ')) : FnOk P w K mg base CX0 20 f fd ["script"] (spLaw K ok) :=
  law_okD (m := 5513) F sc_law (by decide) rfl hgood fun cdv hcd A outer s H E hr => ⟨ps_set sc_law.nd rfl (by first | exact Or.inl rfl | exact Or.inr rfl) (pe_lst (pa_cons (pv 0) (pa_cons pe_int (pa_cons pe_int (pa_cons pe_int pa_nil))))),
  (s_cons (s_asg (i := 2) sc_law.nd rfl (by first | exact Or.inl rfl | exact Or.inr rfl) (r_dat (m_tup (ma_cons m_int (ma_cons (m_tup (ma_cons (m_tup (ma_cons m_int (ma_cons m_int (ma_cons m_int (ma_cons m_int ma_nil))))) (ma_cons (m_tup (ma_cons m_int (ma_cons m_int (ma_cons m_int (ma_cons m_int ma_nil))))) ma_nil))) ma_nil)))))
  (s_cons (s_if (PMW.t (mw_or (mt_cmp (o_ne hr.units) (kc k_reset hr (by decide) (ma_cons (mv 2) ma_nil)) (m_tup (ma_cons m_int (ma_cons m_int (ma_cons m_int (ma_cons m_int (ma_cons m_int (ma_cons m_int (ma_cons m_int (ma_cons m_int (ma_cons m_int ma_nil))))))))))) (mw_or (mt_cmp (o_ne hr.units) (kc k_resets_to hr (by decide) (ma_cons (mv 2) ma_nil)) (m_tup (ma_cons m_int (ma_cons m_int (ma_cons m_int (ma_cons m_int ma_nil)))))) (mw_or1 (mt_cmp (o_ne hr.units) (kc k_rank hr (by decide) (ma_cons (mv 2) ma_nil)) m_int))))) (s_one (s_ret (r_dat m_bl))) s_nil)
  (s_cons (s_if (mt_cmp (o_ne hr.units) (PMF.m (mf_lst (ma_cons (kc k_homing hr (by decide) (ma_cons (mv 2) (ma_cons (m_tup (ma_cons m_int (ma_cons m_int ma_nil))) ma_nil))) (ma_cons (kc k_meeting hr (by decide) (ma_cons (mv 2) (ma_cons m_int (ma_cons m_int ma_nil)))) (ma_cons (kc k_meeting hr (by decide) (ma_cons (mv 2) (ma_cons m_int (ma_cons m_int ma_nil)))) ma_nil))))) (PMF.m (mf_lst (ma_cons (m_tup (ma_cons m_int ma_nil)) (ma_cons (m_tup (ma_cons m_int (ma_cons m_int (ma_cons m_int (ma_cons m_int (ma_cons m_int (ma_cons m_int ma_nil))))))) (ma_cons (m_tup ma_nil) ma_nil)))))) (s_one (s_ret (r_dat m_bl))) s_nil)
  (s_cons (s_asg (i := 3) sc_law.nd rfl (by first | exact Or.inl rfl | exact Or.inr rfl) (r_dat (m_tup (ma_cons m_int (ma_cons (m_tup (ma_cons (m_tup (ma_cons m_int (ma_cons m_int (ma_cons m_int ma_nil)))) (ma_cons (m_tup (ma_cons m_int (ma_cons m_int (ma_cons m_int ma_nil)))) ma_nil))) ma_nil)))))
  (s_cons (s_if (PMW.t (mw_or (mt_cmp o_isNot (kc k_reset hr (by decide) (ma_cons (mv 3) ma_nil)) m_non) (mw_or (mt_cmp (o_ne hr.units) (kc k_rank hr (by decide) (ma_cons (mv 3) ma_nil)) m_int) (mw_or1 (mt_cmp (o_ne hr.units) (kc k_fewest_row hr (by decide) (ma_cons (mv 3) ma_nil)) (m_tup (ma_cons m_int ma_nil))))))) (s_one (s_ret (r_dat m_bl))) s_nil)
  (s_cons (s_if (mt_cmp (o_ne hr.units) (kc k_lots hr (by decide) (ma_cons (mv 3) ma_nil)) (m_tup (ma_cons (m_tup (ma_cons m_int (ma_cons m_int (ma_cons m_int ma_nil)))) (ma_cons (m_tup (ma_cons m_int (ma_cons m_int ma_nil))) (ma_cons (m_tup (ma_cons m_int (ma_cons m_int ma_nil))) ma_nil))))) (s_one (s_ret (r_dat m_bl))) s_nil)
  (s_cons (s_if (PMW.t (mw_or (mt_cmp (o_ne hr.units) (kc k_never_meet hr (by decide) (ma_cons (mv 3) ma_nil)) (m_tup (ma_cons (m_tup (ma_cons m_int (ma_cons m_int ma_nil))) (ma_cons (m_tup (ma_cons m_int (ma_cons m_int ma_nil))) ma_nil)))) (mw_or (mt_cmp (o_eq hr.units) (m_ix x_ix (kc k_bar hr (by decide) (ma_cons (mv 3) ma_nil)) m_int) (m_tup ma_nil)) (mw_or1 (mt_cmp o_isNot (kc k_has_reset hr (by decide) (ma_cons (mv 3) ma_nil)) m_bl))))) (s_one (s_ret (r_dat m_bl))) s_nil)
  (s_cons (s_if (PMW.t (mw_or (mt_cmp (o_ne hr.units) (kc k_led hr (by decide) (ma_cons (mv 3) (ma_cons (m_tup (ma_cons m_int (ma_cons m_int ma_nil))) (ma_cons (m_tup (ma_cons m_int (ma_cons m_int ma_nil))) ma_nil)))) (m_tup (ma_cons m_int ma_nil))) (mw_or1 (mt_cmp (o_ne hr.units) (kc k_map_of hr (by decide) (ma_cons (mv 3) (ma_cons (m_tup (ma_cons m_int (ma_cons m_int ma_nil))) ma_nil))) (m_tup (ma_cons m_int (ma_cons m_int (ma_cons m_int ma_nil)))))))) (s_one (s_ret (r_dat m_bl))) s_nil)
  (s_cons (s_unp (m_tup (ma_cons (m_tup (ma_cons (m_tup (ma_cons m_int (ma_cons m_int ma_nil))) (ma_cons (m_tup (ma_cons m_int (ma_cons m_int ma_nil))) (ma_cons (m_tup (ma_cons m_int (ma_cons m_int ma_nil))) (ma_cons (m_tup (ma_cons m_int (ma_cons m_int ma_nil))) ma_nil))))) (ma_cons (m_tup (ma_cons (m_tup (ma_cons m_int (ma_cons m_int ma_nil))) (ma_cons (m_tup (ma_cons m_int (ma_cons m_int ma_nil))) (ma_cons (m_tup (ma_cons m_int (ma_cons m_int ma_nil))) (ma_cons (m_tup (ma_cons m_int (ma_cons m_int ma_nil))) (ma_cons (m_tup (ma_cons m_int (ma_cons m_int ma_nil))) ma_nil)))))) ma_nil))) (gs_tup rfl (gss_cons (gs_name (i := 4) sc_law.nd rfl (by first | exact Or.inl rfl | exact Or.inr rfl)) (gss_cons (gs_name (i := 5) sc_law.nd rfl (by first | exact Or.inl rfl | exact Or.inr rfl)) gss_nil))))
  (s_cons (s_asg (i := 6) sc_law.nd rfl (by first | exact Or.inl rfl | exact Or.inr rfl) (r_lst (mf_lst (ma_cons (kc k_greatest_clique hr (by decide) (ma_cons m_int (ma_cons (mv 4) ma_nil))) (ma_cons (kc k_colours hr (by decide) (ma_cons m_int (ma_cons (mv 4) ma_nil))) ma_nil)))))
  (s_cons (s_asg (i := 6) sc_law.nd rfl (by first | exact Or.inl rfl | exact Or.inr rfl) (r_lst (mf_cat (ml_var (i := 6) rfl (by first | exact Or.inl rfl | exact Or.inr (Or.inl rfl) | exact Or.inr (Or.inr rfl))) (ml_f (mf_lst (ma_cons (kc k_least_colours hr (by decide) (ma_cons m_int (ma_cons (mv 5) ma_nil))) (ma_cons (kc k_is_barring hr (by decide) (ma_cons m_int (ma_cons (mv 5) ma_nil))) (ma_cons (kc k_is_barring hr (by decide) (ma_cons m_int (ma_cons (mv 4) ma_nil))) ma_nil))))))))
  (s_cons (s_if (mt_cmp (o_ne hr.units) (mv 6) (PMF.m (mf_lst (ma_cons (m_tup (ma_cons m_int (ma_cons m_int ma_nil))) (ma_cons (m_tup (ma_cons m_int (ma_cons m_int (ma_cons m_int (ma_cons m_int ma_nil))))) (ma_cons m_int (ma_cons m_bl (ma_cons m_bl ma_nil)))))))) (s_one (s_ret (r_dat m_bl))) s_nil)
  (s_cons (s_unp (m_tup (ma_cons (m_tup (ma_cons m_int (ma_cons (m_tup (ma_cons (m_tup (ma_cons m_int (ma_cons m_int (ma_cons m_int (ma_cons m_int ma_nil))))) ma_nil)) ma_nil))) (ma_cons (m_tup (ma_cons m_int (ma_cons (m_tup (ma_cons (m_tup (ma_cons m_int (ma_cons m_int (ma_cons m_int (ma_cons m_int ma_nil))))) (ma_cons (m_tup (ma_cons m_int (ma_cons m_int (ma_cons m_int (ma_cons m_int ma_nil))))) ma_nil))) ma_nil))) ma_nil))) (gs_tup rfl (gss_cons (gs_name (i := 7) sc_law.nd rfl (by first | exact Or.inl rfl | exact Or.inr rfl)) (gss_cons (gs_name (i := 8) sc_law.nd rfl (by first | exact Or.inl rfl | exact Or.inr rfl)) gss_nil))))
  (s_cons (s_if (PMW.t (mw_or (mt_cmp (o_ne hr.units) (kc k_pair_lots hr (by decide) (ma_cons (mv 7) ma_nil)) (m_tup (ma_cons (m_tup (ma_cons (m_tup (ma_cons m_int (ma_cons m_int ma_nil))) (ma_cons (m_tup (ma_cons m_int (ma_cons m_int ma_nil))) (ma_cons (m_tup (ma_cons m_int (ma_cons m_int ma_nil))) (ma_cons (m_tup (ma_cons m_int (ma_cons m_int ma_nil))) ma_nil))))) (ma_cons (m_tup (ma_cons (m_tup (ma_cons m_int (ma_cons m_int ma_nil))) (ma_cons (m_tup (ma_cons m_int (ma_cons m_int ma_nil))) ma_nil))) ma_nil)))) (mw_or1 (mt_cmp (o_ne hr.units) (m_callB c_len rfl b.len boot_len (ma_cons (kc k_kept_nets hr (by decide) (ma_cons (mv 7) ma_nil)) ma_nil)) m_int)))) (s_one (s_ret (r_dat m_bl))) s_nil)
  (s_cons (s_if (PMW.t (mw_or (mt_cmp (o_ne hr.units) (kc k_barring_nets hr (by decide) (ma_cons (mv 7) ma_nil)) (m_tup (ma_cons (mv 4) (ma_cons (m_tup (ma_cons (m_tup (ma_cons m_int (ma_cons m_int ma_nil))) (ma_cons (m_tup (ma_cons m_int (ma_cons m_int ma_nil))) ma_nil))) ma_nil)))) (mw_or1 (mt_cmp (o_ne hr.units) (m_callB c_len rfl b.len boot_len (ma_cons (kc k_barring_nets hr (by decide) (ma_cons (mv 8) ma_nil)) ma_nil)) m_int)))) (s_one (s_ret (r_dat m_bl))) s_nil)
  (s_cons (s_asg (i := 9) sc_law.nd rfl (by first | exact Or.inl rfl | exact Or.inr rfl) (r_dat (m_tup (ma_cons m_int (ma_cons (m_tup (ma_cons (m_tup (ma_cons m_int (ma_cons m_int (ma_cons m_int (ma_cons m_int (ma_cons m_int ma_nil)))))) ma_nil)) ma_nil)))))
  (s_cons (s_asg (i := 10) sc_law.nd rfl (by first | exact Or.inl rfl | exact Or.inr rfl) (r_lst (mf_lst (ma_cons (mv 9) (ma_cons (mv 7) (ma_cons (mv 8) (ma_cons (m_tup (ma_cons m_int (ma_cons (m_tup (ma_cons (m_tup (ma_cons m_int (ma_cons m_int (ma_cons m_int (ma_cons m_int ma_nil))))) (ma_cons (m_tup (ma_cons m_int (ma_cons m_int (ma_cons m_int (ma_cons m_int ma_nil))))) ma_nil))) ma_nil))) ma_nil)))))))
  (s_cons (s_if (mt_cmp (o_ne hr.units) (PMF.m (mf_lc (own := [("group", 13)]) rfl sc_law.nd (mi_seq (mv 10)) (by refine blkOk_by ?_; kernel_rfl) (fun _ _ _ _ _ => (mg_name (i := 13) sc_law.nd rfl (by first | exact Or.inl rfl | exact Or.inr rfl))) (fun _ _ _ _ _ => mts_nil) (fun _ _ _ _ _ => (kc k_resets_all hr (by decide) (ma_cons (mv 13) ma_nil))))) (PMF.m (mf_lst (ma_cons m_bl (ma_cons m_bl (ma_cons m_bl (ma_cons m_bl ma_nil))))))) (s_one (s_ret (r_dat m_bl))) s_nil)
  (s_cons (s_if (mt_cmp (o_ne hr.units) (PMF.m (mf_lst (ma_cons (kc k_is_transitive hr (by decide) (ma_cons (mv 7) ma_nil)) (ma_cons (kc k_is_pairwise hr (by decide) (ma_cons (mv 7) ma_nil)) (ma_cons (kc k_is_primitive hr (by decide) (ma_cons (mv 7) ma_nil)) ma_nil))))) (PMF.m (mf_lst (ma_cons m_bl (ma_cons m_bl (ma_cons m_bl ma_nil)))))) (s_one (s_ret (r_dat m_bl))) s_nil)
  (s_cons (s_if (mt_cmp (o_ne hr.units) (PMF.m (mf_lst (ma_cons (kc k_is_primitive hr (by decide) (ma_cons (mv 9) ma_nil)) (ma_cons (kc k_is_pairwise hr (by decide) (ma_cons (mv 9) ma_nil)) ma_nil)))) (PMF.m (mf_lst (ma_cons m_bl (ma_cons m_bl ma_nil))))) (s_one (s_ret (r_dat m_bl))) s_nil)
  (s_cons (s_if (mt_cmp (o_ne hr.units) (kc k_kept_partings hr (by decide) (ma_cons (mv 7) ma_nil)) (m_tup (ma_cons (m_tup (ma_cons (m_tup (ma_cons m_int ma_nil)) (ma_cons (m_tup (ma_cons m_int ma_nil)) (ma_cons (m_tup (ma_cons m_int ma_nil)) (ma_cons (m_tup (ma_cons m_int ma_nil)) ma_nil))))) (ma_cons (m_tup (ma_cons (m_tup (ma_cons m_int (ma_cons m_int (ma_cons m_int (ma_cons m_int ma_nil))))) ma_nil)) (ma_cons (m_tup (ma_cons (m_tup (ma_cons m_int (ma_cons m_int ma_nil))) (ma_cons (m_tup (ma_cons m_int (ma_cons m_int ma_nil))) ma_nil))) ma_nil))))) (s_one (s_ret (r_dat m_bl))) s_nil)
  (s_cons (s_if (mt_cmp o_isNot (kc k_section hr (by decide) (ma_cons (mv 9) ma_nil)) m_non) (s_one (s_ret (r_dat m_bl))) s_nil)
  (s_cons (s_asg (i := 11) sc_law.nd rfl (by first | exact Or.inl rfl | exact Or.inr rfl) (r_dat (m_tup (ma_cons m_int (ma_cons (m_tup (ma_cons (m_tup (ma_cons m_int (ma_cons m_int (ma_cons m_int ma_nil)))) ma_nil)) ma_nil)))))
  (s_cons (s_if (mt_cmp (o_ne hr.units) (PMF.m (mf_lst (ma_cons (kc k_count_resetting hr (by decide) (ma_cons (mv 11) ma_nil)) (ma_cons (kc k_count_resetting hr (by decide) (ma_cons (m_tup (ma_cons m_int (ma_cons (m_tup (ma_cons (m_tup (ma_cons m_int (ma_cons m_int ma_nil))) ma_nil)) ma_nil))) ma_nil)) (ma_cons (m_callB c_len rfl b.len boot_len (ma_cons (kc k_resisting_maps hr (by decide) (ma_cons (mv 11) ma_nil)) ma_nil)) ma_nil))))) (PMF.m (mf_lst (ma_cons m_int (ma_cons m_int (ma_cons m_int ma_nil)))))) (s_one (s_ret (r_dat m_bl))) s_nil)
  (s_cons (s_if (mt_cmp o_gt (kcR k__law_taken hr (by decide) 1 (ma_cons m_int ma_nil)) m_int) (s_one (s_ret (r_dat (m_and (m_cmp o_is (kcP k_resets_with hr (by decide) (ma_cons (mv 7) (ma_cons (m_tup (ma_cons m_int (ma_cons m_int (ma_cons m_int (ma_cons m_int ma_nil))))) ma_nil))) m_bl) (m_one (m_cmp o_is (kcP k_resets_with hr (by decide) (ma_cons (mv 7) (ma_cons (m_tup (ma_cons m_int (ma_cons m_int (ma_cons m_int (ma_cons m_int ma_nil))))) ma_nil))) m_bl)))))) s_nil)
  (s_cons (s_asg (i := 12) sc_law.nd rfl (by first | exact Or.inl rfl | exact Or.inr rfl) (r_dat (m_tup (ma_cons m_int (ma_cons (m_tup (ma_cons (m_tup (ma_cons m_int (ma_cons m_int (ma_cons m_int (ma_cons m_int (ma_cons m_int (ma_cons m_int ma_nil))))))) (ma_cons (m_tup (ma_cons m_int (ma_cons m_int (ma_cons m_int (ma_cons m_int (ma_cons m_int (ma_cons m_int ma_nil))))))) ma_nil))) ma_nil)))))
  (s_one (s_ret (r_dat (m_and (m_cmp (o_eq hr.units) (kc k_resets_all hr (by decide) (ma_cons (mv 12) ma_nil)) (kc k_is_pairwise hr (by decide) (ma_cons (mv 12) ma_nil))) (m_one (m_cmp o_is (kc k_resets_all hr (by decide) (ma_cons (m_tup (ma_cons m_int (ma_cons (m_tup (ma_cons (kc k__law_circle hr (by decide) (ma_cons m_int (ma_cons m_int ma_nil))) ma_nil)) ma_nil))) ma_nil)) m_bl))))))))))))))))))))))))))))))))⟩
end
end K13
end

section
set_option Elab.async false
set_option linter.all false
set_option maxRecDepth 100000
set_option maxHeartbeats 4000000
namespace K13
open PySem PySem.Spec PyProof.Rows L2 VS MM
/-- what is left to show, of data alone -/
def Good : Prop := ∀ ns : List Int, ns.length ≤ 63 → ∃ env' ρ', c_law (env0 14 ns) (rho0 5513 ns) = some (.rt (.bl true), env', ρ')
theorem facts {P : Program} {w : World} {K : PySem.W.Frag} {h : Heap} {mg : Str → Option Value} {f : Addr} (X : K.In h) (G : h.Ns mainGlobals mg) (hfa : mg ("law" : Str) = some (.ref f)) (c : He.SaysD fa fn K) (cT : VS.kinds kd K = true) (good : Good) :
    ∃ fd : FuncData, (∀ (s : Shared) (v : Value), BindsTo s fd ⟨[v], []⟩ [("script", v)]) ∧ ∀ base : Heap, K.In base → base.Ns mainGlobals mg → FnOk P w K mg base CX0 20 f fd ["script"] (spLaw K fun ns => ns.length ≤ 63) := by
  have b : Bi mg := {
    «all» := He.free_ok X G (c.fact 71 (f := .free "all") rfl)
    «len» := He.free_ok X G (c.fact 76 (f := .free "len") rfl)
    «isinstance» := He.free_ok X G (c.fact 75 (f := .free "isinstance") rfl)
    «tuple» := He.free_ok X G (c.fact 81 (f := .free "tuple") rfl)
    «sorted» := He.free_ok X G (c.fact 80 (f := .free "sorted") rfl)
    «range» := He.free_ok X G (c.fact 78 (f := .free "range") rfl)
    «enumerate» := He.free_ok X G (c.fact 73 (f := .free "enumerate") rfl)
    «min» := He.free_ok X G (c.fact 77 (f := .free "min") rfl)
    «set» := He.free_ok X G (c.fact 79 (f := .free "set") rfl)
    «int» := He.free_ok X G (c.fact 74 (f := .free "int") rfl)
    «zip» := He.free_ok X G (c.fact 82 (f := .free "zip") rfl)
    «bool» := He.free_ok X G (c.fact 72 (f := .free "bool") rfl)
    «MOST_HALLS» := He.int_ok X G (c.fact 83 (f := .int "MOST_HALLS" 8) rfl)
    «MOST_LETTERS» := He.int_ok X G (c.fact 84 (f := .int "MOST_LETTERS" 6) rfl)
    «MOST_CALLS» := He.int_ok X G (c.fact 85 (f := .int "MOST_CALLS" 100) rfl)
    «MOST_HALLS_COUNTED» := He.int_ok X G (c.fact 86 (f := .int "MOST_HALLS_COUNTED" 5) rfl)
    «MOST_NETS» := He.int_ok X G (c.fact 87 (f := .int "MOST_NETS" 4096) rfl)
    «MOST_PARTINGS» := He.int_ok X G (c.fact 88 (f := .int "MOST_PARTINGS" 100) rfl)
    combinations := VS.kind_ok X G cT (by decide)
  }
  have d_is_number : Dn K mg "is_number" (top 16) := by
    obtain ⟨fd, F⟩ := c.def_ 0 (d := dd "is_number" 16) rfl
    exact ⟨_, fd, He.glo_ok X G (c.fact 0 (f := .glo "is_number") rfl), F⟩
  have d_is_hall : Dn K mg "is_hall" (top 17) := by
    obtain ⟨fd, F⟩ := c.def_ 1 (d := dd "is_hall" 17) rfl
    exact ⟨_, fd, He.glo_ok X G (c.fact 1 (f := .glo "is_hall") rfl), F⟩
  have d_is_letter : Dn K mg "is_letter" (top 18) := by
    obtain ⟨fd, F⟩ := c.def_ 2 (d := dd "is_letter" 18) rfl
    exact ⟨_, fd, He.glo_ok X G (c.fact 2 (f := .glo "is_letter") rfl), F⟩
  have d_is_tuple_of_halls : Dn K mg "is_tuple_of_halls" (top 19) := by
    obtain ⟨fd, F⟩ := c.def_ 3 (d := dd "is_tuple_of_halls" 19) rfl
    exact ⟨_, fd, He.glo_ok X G (c.fact 3 (f := .glo "is_tuple_of_halls") rfl), F⟩
  have d_is_map : Dn K mg "is_map" (top 20) := by
    obtain ⟨fd, F⟩ := c.def_ 4 (d := dd "is_map" 20) rfl
    exact ⟨_, fd, He.glo_ok X G (c.fact 4 (f := .glo "is_map") rfl), F⟩
  have d_are_maps : Dn K mg "are_maps" (top 21) := by
    obtain ⟨fd, F⟩ := c.def_ 5 (d := dd "are_maps" 21) rfl
    exact ⟨_, fd, He.glo_ok X G (c.fact 5 (f := .glo "are_maps") rfl), F⟩
  have d_is_ascending : Dn K mg "is_ascending" (top 22) := by
    obtain ⟨fd, F⟩ := c.def_ 6 (d := dd "is_ascending" 22) rfl
    exact ⟨_, fd, He.glo_ok X G (c.fact 6 (f := .glo "is_ascending") rfl), F⟩
  have d_is_lot : Dn K mg "is_lot" (top 23) := by
    obtain ⟨fd, F⟩ := c.def_ 7 (d := dd "is_lot" 23) rfl
    exact ⟨_, fd, He.glo_ok X G (c.fact 7 (f := .glo "is_lot") rfl), F⟩
  have d_is_tie : Dn K mg "is_tie" (top 24) := by
    obtain ⟨fd, F⟩ := c.def_ 8 (d := dd "is_tie" 24) rfl
    exact ⟨_, fd, He.glo_ok X G (c.fact 8 (f := .glo "is_tie") rfl), F⟩
  have d_is_net : Dn K mg "is_net" (top 25) := by
    obtain ⟨fd, F⟩ := c.def_ 9 (d := dd "is_net" 25) rfl
    exact ⟨_, fd, He.glo_ok X G (c.fact 9 (f := .glo "is_net") rfl), F⟩
  have d_is_one_to_one : Dn K mg "is_one_to_one" (top 26) := by
    obtain ⟨fd, F⟩ := c.def_ 10 (d := dd "is_one_to_one" 26) rfl
    exact ⟨_, fd, He.glo_ok X G (c.fact 10 (f := .glo "is_one_to_one") rfl), F⟩
  have d_house_fault : Dn K mg "house_fault" (top 27) := by
    obtain ⟨fd, F⟩ := c.def_ 11 (d := dd "house_fault" 27) rfl
    exact ⟨_, fd, He.glo_ok X G (c.fact 11 (f := .glo "house_fault") rfl), F⟩
  have d_check_house : Dn K mg "check_house" (top 28) := by
    obtain ⟨fd, F⟩ := c.def_ 12 (d := dd "check_house" 28) rfl
    exact ⟨_, fd, He.glo_ok X G (c.fact 12 (f := .glo "check_house") rfl), F⟩
  have d_check_turns : Dn K mg "check_turns" (top 29) := by
    obtain ⟨fd, F⟩ := c.def_ 13 (d := dd "check_turns" 29) rfl
    exact ⟨_, fd, He.glo_ok X G (c.fact 13 (f := .glo "check_turns") rfl), F⟩
  have d_check_number_of_halls : Dn K mg "check_number_of_halls" (top 30) := by
    obtain ⟨fd, F⟩ := c.def_ 14 (d := dd "check_number_of_halls" 30) rfl
    exact ⟨_, fd, He.glo_ok X G (c.fact 14 (f := .glo "check_number_of_halls") rfl), F⟩
  have d_check_hall : Dn K mg "check_hall" (top 31) := by
    obtain ⟨fd, F⟩ := c.def_ 15 (d := dd "check_hall" 31) rfl
    exact ⟨_, fd, He.glo_ok X G (c.fact 15 (f := .glo "check_hall") rfl), F⟩
  have d_check_lot : Dn K mg "check_lot" (top 32) := by
    obtain ⟨fd, F⟩ := c.def_ 16 (d := dd "check_lot" 32) rfl
    exact ⟨_, fd, He.glo_ok X G (c.fact 16 (f := .glo "check_lot") rfl), F⟩
  have d_check_map : Dn K mg "check_map" (top 33) := by
    obtain ⟨fd, F⟩ := c.def_ 17 (d := dd "check_map" 33) rfl
    exact ⟨_, fd, He.glo_ok X G (c.fact 17 (f := .glo "check_map") rfl), F⟩
  have d_check_net : Dn K mg "check_net" (top 34) := by
    obtain ⟨fd, F⟩ := c.def_ 18 (d := dd "check_net" 34) rfl
    exact ⟨_, fd, He.glo_ok X G (c.fact 18 (f := .glo "check_net") rfl), F⟩
  have d_check_row : Dn K mg "check_row" (top 35) := by
    obtain ⟨fd, F⟩ := c.def_ 19 (d := dd "check_row" 35) rfl
    exact ⟨_, fd, He.glo_ok X G (c.fact 19 (f := .glo "check_row") rfl), F⟩
  have d_image : Dn K mg "image" (top 37) := by
    obtain ⟨fd, F⟩ := c.def_ 20 (d := dd "image" 37) rfl
    exact ⟨_, fd, He.glo_ok X G (c.fact 20 (f := .glo "image") rfl), F⟩
  have d_led : Dn K mg "led" (top 38) := by
    obtain ⟨fd, F⟩ := c.def_ 21 (d := dd "led" 38) rfl
    exact ⟨_, fd, He.glo_ok X G (c.fact 21 (f := .glo "led") rfl), F⟩
  have d_map_of : Dn K mg "map_of" (top 39) := by
    obtain ⟨fd, F⟩ := c.def_ 22 (d := dd "map_of" 39) rfl
    exact ⟨_, fd, He.glo_ok X G (c.fact 22 (f := .glo "map_of") rfl), F⟩
  have d_rows_from : Dn K mg "rows_from" (top 41) := by
    obtain ⟨fd, F⟩ := c.def_ 23 (d := dd "rows_from" 41) rfl
    exact ⟨_, fd, He.glo_ok X G (c.fact 23 (f := .glo "rows_from") rfl), F⟩
  have d_rows_from_all : Dn K mg "rows_from_all" (top 42) := by
    obtain ⟨fd, F⟩ := c.def_ 24 (d := dd "rows_from_all" 42) rfl
    exact ⟨_, fd, He.glo_ok X G (c.fact 24 (f := .glo "rows_from_all") rfl), F⟩
  have d_first_row_to : Dn K mg "first_row_to" (top 43) := by
    obtain ⟨fd, F⟩ := c.def_ 25 (d := dd "first_row_to" 43) rfl
    exact ⟨_, fd, He.glo_ok X G (c.fact 25 (f := .glo "first_row_to") rfl), F⟩
  have d_fewest : Dn K mg "fewest" (top 44) := by
    obtain ⟨fd, F⟩ := c.def_ 26 (d := dd "fewest" 44) rfl
    exact ⟨_, fd, He.glo_ok X G (c.fact 26 (f := .glo "fewest") rfl), F⟩
  have d_is_reset_by : Dn K mg "is_reset_by" (top 45) := by
    obtain ⟨fd, F⟩ := c.def_ 27 (d := dd "is_reset_by" 45) rfl
    exact ⟨_, fd, He.glo_ok X G (c.fact 27 (f := .glo "is_reset_by") rfl), F⟩
  have d_reset : Dn K mg "reset" (top 46) := by
    obtain ⟨fd, F⟩ := c.def_ 28 (d := dd "reset" 46) rfl
    exact ⟨_, fd, He.glo_ok X G (c.fact 28 (f := .glo "reset") rfl), F⟩
  have d_has_reset : Dn K mg "has_reset" (top 47) := by
    obtain ⟨fd, F⟩ := c.def_ 29 (d := dd "has_reset" 47) rfl
    exact ⟨_, fd, He.glo_ok X G (c.fact 29 (f := .glo "has_reset") rfl), F⟩
  have d_lots : Dn K mg "lots" (top 49) := by
    obtain ⟨fd, F⟩ := c.def_ 31 (d := dd "lots" 49) rfl
    exact ⟨_, fd, He.glo_ok X G (c.fact 31 (f := .glo "lots") rfl), F⟩
  have d_resets_to : Dn K mg "resets_to" (top 48) := by
    obtain ⟨fd, F⟩ := c.def_ 30 (d := dd "resets_to" 48) rfl
    exact ⟨_, fd, He.glo_ok X G (c.fact 30 (f := .glo "resets_to") rfl), F⟩
  have d_rank : Dn K mg "rank" (top 50) := by
    obtain ⟨fd, F⟩ := c.def_ 32 (d := dd "rank" 50) rfl
    exact ⟨_, fd, He.glo_ok X G (c.fact 32 (f := .glo "rank") rfl), F⟩
  have d_fewest_row : Dn K mg "fewest_row" (top 51) := by
    obtain ⟨fd, F⟩ := c.def_ 33 (d := dd "fewest_row" 51) rfl
    exact ⟨_, fd, He.glo_ok X G (c.fact 33 (f := .glo "fewest_row") rfl), F⟩
  have d_homing : Dn K mg "homing" (top 52) := by
    obtain ⟨fd, F⟩ := c.def_ 34 (d := dd "homing" 52) rfl
    exact ⟨_, fd, He.glo_ok X G (c.fact 34 (f := .glo "homing") rfl), F⟩
  have d_meeting : Dn K mg "meeting" (top 53) := by
    obtain ⟨fd, F⟩ := c.def_ 35 (d := dd "meeting" 53) rfl
    exact ⟨_, fd, He.glo_ok X G (c.fact 35 (f := .glo "meeting") rfl), F⟩
  have d_whole_net : Dn K mg "whole_net" (top 55) := by
    obtain ⟨fd, F⟩ := c.def_ 36 (d := dd "whole_net" 55) rfl
    exact ⟨_, fd, He.glo_ok X G (c.fact 36 (f := .glo "whole_net") rfl), F⟩
  have d_wider_cliques : Dn K mg "wider_cliques" (top 56) := by
    obtain ⟨fd, F⟩ := c.def_ 37 (d := dd "wider_cliques" 56) rfl
    exact ⟨_, fd, He.glo_ok X G (c.fact 37 (f := .glo "wider_cliques") rfl), F⟩
  have d_greatest_clique : Dn K mg "greatest_clique" (top 57) := by
    obtain ⟨fd, F⟩ := c.def_ 38 (d := dd "greatest_clique" 57) rfl
    exact ⟨_, fd, He.glo_ok X G (c.fact 38 (f := .glo "greatest_clique") rfl), F⟩
  have d_least_numbers : Dn K mg "least_numbers" (top 58) := by
    obtain ⟨fd, F⟩ := c.def_ 39 (d := dd "least_numbers" 58) rfl
    exact ⟨_, fd, He.glo_ok X G (c.fact 39 (f := .glo "least_numbers") rfl), F⟩
  have d_colours : Dn K mg "colours" (top 59) := by
    obtain ⟨fd, F⟩ := c.def_ 40 (d := dd "colours" 59) rfl
    exact ⟨_, fd, He.glo_ok X G (c.fact 40 (f := .glo "colours") rfl), F⟩
  have d_least_colours : Dn K mg "least_colours" (top 60) := by
    obtain ⟨fd, F⟩ := c.def_ 41 (d := dd "least_colours" 60) rfl
    exact ⟨_, fd, He.glo_ok X G (c.fact 41 (f := .glo "least_colours") rfl), F⟩
  have d_is_barring : Dn K mg "is_barring" (top 61) := by
    obtain ⟨fd, F⟩ := c.def_ 42 (d := dd "is_barring" 61) rfl
    exact ⟨_, fd, He.glo_ok X G (c.fact 42 (f := .glo "is_barring") rfl), F⟩
  have d_bar_by : Dn K mg "bar_by" (top 63) := by
    obtain ⟨fd, F⟩ := c.def_ 43 (d := dd "bar_by" 63) rfl
    exact ⟨_, fd, He.glo_ok X G (c.fact 43 (f := .glo "bar_by") rfl), F⟩
  have d_never_meet : Dn K mg "never_meet" (top 64) := by
    obtain ⟨fd, F⟩ := c.def_ 44 (d := dd "never_meet" 64) rfl
    exact ⟨_, fd, He.glo_ok X G (c.fact 44 (f := .glo "never_meet") rfl), F⟩
  have d_bar : Dn K mg "bar" (top 65) := by
    obtain ⟨fd, F⟩ := c.def_ 45 (d := dd "bar" 65) rfl
    exact ⟨_, fd, He.glo_ok X G (c.fact 45 (f := .glo "bar") rfl), F⟩
  have d_check_few_halls : Dn K mg "check_few_halls" (top 68) := by
    obtain ⟨fd, F⟩ := c.def_ 46 (d := dd "check_few_halls" 68) rfl
    exact ⟨_, fd, He.glo_ok X G (c.fact 46 (f := .glo "check_few_halls") rfl), F⟩
  have d_all_maps : Dn K mg "all_maps" (top 69) := by
    obtain ⟨fd, F⟩ := c.def_ 47 (d := dd "all_maps" 69) rfl
    exact ⟨_, fd, He.glo_ok X G (c.fact 47 (f := .glo "all_maps") rfl), F⟩
  have d_is_reset_with : Dn K mg "is_reset_with" (top 70) := by
    obtain ⟨fd, F⟩ := c.def_ 48 (d := dd "is_reset_with" 70) rfl
    exact ⟨_, fd, He.glo_ok X G (c.fact 48 (f := .glo "is_reset_with") rfl), F⟩
  have d_count_resetting : Dn K mg "count_resetting" (top 71) := by
    obtain ⟨fd, F⟩ := c.def_ 49 (d := dd "count_resetting" 71) rfl
    exact ⟨_, fd, He.glo_ok X G (c.fact 49 (f := .glo "count_resetting") rfl), F⟩
  have d_resisting_maps : Dn K mg "resisting_maps" (top 72) := by
    obtain ⟨fd, F⟩ := c.def_ 50 (d := dd "resisting_maps" 72) rfl
    exact ⟨_, fd, He.glo_ok X G (c.fact 50 (f := .glo "resisting_maps") rfl), F⟩
  have d_pair_lots : Dn K mg "pair_lots" (top 75) := by
    obtain ⟨fd, F⟩ := c.def_ 51 (d := dd "pair_lots" 75) rfl
    exact ⟨_, fd, He.glo_ok X G (c.fact 51 (f := .glo "pair_lots") rfl), F⟩
  have d_kept_nets : Dn K mg "kept_nets" (top 76) := by
    obtain ⟨fd, F⟩ := c.def_ 52 (d := dd "kept_nets" 76) rfl
    exact ⟨_, fd, He.glo_ok X G (c.fact 52 (f := .glo "kept_nets") rfl), F⟩
  have d_is_barring_in_part : Dn K mg "is_barring_in_part" (top 77) := by
    obtain ⟨fd, F⟩ := c.def_ 53 (d := dd "is_barring_in_part" 77) rfl
    exact ⟨_, fd, He.glo_ok X G (c.fact 53 (f := .glo "is_barring_in_part") rfl), F⟩
  have d_barring_nets : Dn K mg "barring_nets" (top 78) := by
    obtain ⟨fd, F⟩ := c.def_ 54 (d := dd "barring_nets" 78) rfl
    exact ⟨_, fd, He.glo_ok X G (c.fact 54 (f := .glo "barring_nets") rfl), F⟩
  have d_group_bar : Dn K mg "group_bar" (top 79) := by
    obtain ⟨fd, F⟩ := c.def_ 55 (d := dd "group_bar" 79) rfl
    exact ⟨_, fd, He.glo_ok X G (c.fact 55 (f := .glo "group_bar") rfl), F⟩
  have d_resets_with : DnR K mg "resets_with" (top 80) [V.non] := by
    obtain ⟨fd, F⟩ := c.def_ 56 (d := ddN "resets_with" 80) rfl
    exact ⟨_, fd, He.glo_ok X G (c.fact 56 (f := .glo "resets_with") rfl), F⟩
  have d_resets_all : Dn K mg "resets_all" (top 81) := by
    obtain ⟨fd, F⟩ := c.def_ 57 (d := dd "resets_all" 81) rfl
    exact ⟨_, fd, He.glo_ok X G (c.fact 57 (f := .glo "resets_all") rfl), F⟩
  have d_with_hall : Dn K mg "with_hall" (top 84) := by
    obtain ⟨fd, F⟩ := c.def_ 58 (d := dd "with_hall" 84) rfl
    exact ⟨_, fd, He.glo_ok X G (c.fact 58 (f := .glo "with_hall") rfl), F⟩
  have d_all_partings : Dn K mg "all_partings" (top 85) := by
    obtain ⟨fd, F⟩ := c.def_ 59 (d := dd "all_partings" 85) rfl
    exact ⟨_, fd, He.glo_ok X G (c.fact 59 (f := .glo "all_partings") rfl), F⟩
  have d_leads_to_parts : Dn K mg "leads_to_parts" (top 86) := by
    obtain ⟨fd, F⟩ := c.def_ 60 (d := dd "leads_to_parts" 86) rfl
    exact ⟨_, fd, He.glo_ok X G (c.fact 60 (f := .glo "leads_to_parts") rfl), F⟩
  have d_partings_kept : Dn K mg "partings_kept" (top 87) := by
    obtain ⟨fd, F⟩ := c.def_ 61 (d := dd "partings_kept" 87) rfl
    exact ⟨_, fd, He.glo_ok X G (c.fact 61 (f := .glo "partings_kept") rfl), F⟩
  have d_parts_of_colours : Dn K mg "parts_of_colours" (top 88) := by
    obtain ⟨fd, F⟩ := c.def_ 62 (d := dd "parts_of_colours" 88) rfl
    exact ⟨_, fd, He.glo_ok X G (c.fact 62 (f := .glo "parts_of_colours") rfl), F⟩
  have d_section : Dn K mg "section" (top 89) := by
    obtain ⟨fd, F⟩ := c.def_ 63 (d := dd "section" 89) rfl
    exact ⟨_, fd, He.glo_ok X G (c.fact 63 (f := .glo "section") rfl), F⟩
  have d_is_transitive : Dn K mg "is_transitive" (top 90) := by
    obtain ⟨fd, F⟩ := c.def_ 64 (d := dd "is_transitive" 90) rfl
    exact ⟨_, fd, He.glo_ok X G (c.fact 64 (f := .glo "is_transitive") rfl), F⟩
  have d_is_pairwise : Dn K mg "is_pairwise" (top 91) := by
    obtain ⟨fd, F⟩ := c.def_ 65 (d := dd "is_pairwise" 91) rfl
    exact ⟨_, fd, He.glo_ok X G (c.fact 65 (f := .glo "is_pairwise") rfl), F⟩
  have d_is_primitive : Dn K mg "is_primitive" (top 92) := by
    obtain ⟨fd, F⟩ := c.def_ 66 (d := dd "is_primitive" 92) rfl
    exact ⟨_, fd, He.glo_ok X G (c.fact 66 (f := .glo "is_primitive") rfl), F⟩
  have d_kept_partings : Dn K mg "kept_partings" (top 93) := by
    obtain ⟨fd, F⟩ := c.def_ 67 (d := dd "kept_partings" 93) rfl
    exact ⟨_, fd, He.glo_ok X G (c.fact 67 (f := .glo "kept_partings") rfl), F⟩
  have d__law_taken : Dn K mg "_law_taken" (top 95) := by
    obtain ⟨fd, F⟩ := c.def_ 68 (d := dd "_law_taken" 95) rfl
    exact ⟨_, fd, He.glo_ok X G (c.fact 68 (f := .glo "_law_taken") rfl), F⟩
  have d__law_circle : Dn K mg "_law_circle" (top 96) := by
    obtain ⟨fd, F⟩ := c.def_ 69 (d := dd "_law_circle" 96) rfl
    exact ⟨_, fd, He.glo_ok X G (c.fact 69 (f := .glo "_law_circle") rfl), F⟩
  obtain ⟨fd, F⟩ := c.def_ 70 (d := dd "law" 97) rfl
  have e := hfa.symm.trans (He.glo_ok X G (c.fact 70 (f := .glo "law") rfl))
  cases e
  have bi := FunD.bindsA (ps := ["script"]) F fun _ _ _ _ _ _ us hl => match us, hl with | [_], _ => rfl
  refine ⟨fd, fun s v => bi s [v] rfl, fun base _ _ => ?_⟩
  have k_is_number := keep_is_number (P := P) (w := w) (base := base) b d_is_number
  have k_is_hall := keep_is_hall (P := P) (w := w) (base := base) b d_is_hall k_is_number
  have k_is_letter := keep_is_letter (P := P) (w := w) (base := base) b d_is_letter k_is_number
  have k_is_tuple_of_halls := keep_is_tuple_of_halls (P := P) (w := w) (base := base) b d_is_tuple_of_halls k_is_hall
  have k_is_map := keep_is_map (P := P) (w := w) (base := base) b d_is_map k_is_tuple_of_halls
  have k_are_maps := keep_are_maps (P := P) (w := w) (base := base) b d_are_maps k_is_map
  have k_is_ascending := keep_is_ascending (P := P) (w := w) (base := base) b d_is_ascending
  have k_is_lot := keep_is_lot (P := P) (w := w) (base := base) b d_is_lot k_is_ascending k_is_tuple_of_halls
  have k_is_tie := keep_is_tie (P := P) (w := w) (base := base) b d_is_tie k_is_lot
  have k_is_net := keep_is_net (P := P) (w := w) (base := base) b d_is_net k_is_tie k_is_ascending
  have k_is_one_to_one := keep_is_one_to_one (P := P) (w := w) (base := base) b d_is_one_to_one
  have k_house_fault := keep_house_fault (P := P) (w := w) (base := base) b d_house_fault k_is_number k_are_maps
  have k_check_house := keep_check_house (P := P) (w := w) (base := base) b d_check_house k_house_fault
  have k_check_turns := keep_check_turns (P := P) (w := w) (base := base) b d_check_turns k_check_house k_is_one_to_one
  have k_check_number_of_halls := keep_check_number_of_halls (P := P) (w := w) (base := base) b d_check_number_of_halls k_is_number
  have k_check_hall := keep_check_hall (P := P) (w := w) (base := base) b d_check_hall k_is_hall
  have k_check_lot := keep_check_lot (P := P) (w := w) (base := base) b d_check_lot k_is_lot
  have k_check_map := keep_check_map (P := P) (w := w) (base := base) b d_check_map k_is_map
  have k_check_net := keep_check_net (P := P) (w := w) (base := base) b d_check_net k_is_net
  have k_check_row := keep_check_row (P := P) (w := w) (base := base) b d_check_row k_is_letter
  have k_image := keep_image (P := P) (w := w) (base := base) b d_image
  have k_led := keep_led (P := P) (w := w) (base := base) b d_led k_check_house k_check_lot k_check_row k_image
  have k_map_of := keep_map_of (P := P) (w := w) (base := base) b d_map_of k_check_house k_check_row
  have k_rows_from := keep_rows_from (P := P) (w := w) (base := base) b d_rows_from k_image
  have k_rows_from_all := keep_rows_from_all (P := P) (w := w) (base := base) b d_rows_from_all k_rows_from
  have k_first_row_to := keep_first_row_to (P := P) (w := w) (base := base) b d_first_row_to
  have k_fewest := keep_fewest (P := P) (w := w) (base := base) b d_fewest
  have k_is_reset_by := keep_is_reset_by (P := P) (w := w) (base := base) b d_is_reset_by k_first_row_to k_rows_from_all
  have k_reset := keep_reset (P := P) (w := w) (base := base) b d_reset k_check_house k_first_row_to k_rows_from_all
  have k_has_reset := keep_has_reset (P := P) (w := w) (base := base) b d_has_reset k_reset
  have k_lots := keep_lots (P := P) (w := w) (base := base) b d_lots k_check_house k_rows_from_all
  have k_resets_to := keep_resets_to (P := P) (w := w) (base := base) b d_resets_to k_lots
  have k_rank := keep_rank (P := P) (w := w) (base := base) b d_rank k_check_house k_fewest k_rows_from_all
  have k_fewest_row := keep_fewest_row (P := P) (w := w) (base := base) b d_fewest_row k_check_house k_rows_from_all k_first_row_to k_fewest
  have k_homing := keep_homing (P := P) (w := w) (base := base) b d_homing k_check_house k_check_lot k_first_row_to k_rows_from
  have k_meeting := keep_meeting (P := P) (w := w) (base := base) b d_meeting k_check_house k_check_hall k_first_row_to k_rows_from
  have k_whole_net := keep_whole_net (P := P) (w := w) (base := base) b d_whole_net
  have k_wider_cliques := keep_wider_cliques (P := P) (w := w) (base := base) b d_wider_cliques
  have k_greatest_clique := keep_greatest_clique (P := P) (w := w) (base := base) b d_greatest_clique k_check_number_of_halls k_check_net k_wider_cliques
  have k_least_numbers := keep_least_numbers (P := P) (w := w) (base := base) b d_least_numbers
  have k_colours := keep_colours (P := P) (w := w) (base := base) b d_colours k_greatest_clique k_least_numbers
  have k_least_colours := keep_least_colours (P := P) (w := w) (base := base) b d_least_colours k_colours
  have k_is_barring := keep_is_barring (P := P) (w := w) (base := base) b d_is_barring k_greatest_clique k_least_colours
  have k_bar_by := keep_bar_by (P := P) (w := w) (base := base) b d_bar_by k_colours k_greatest_clique
  have k_never_meet := keep_never_meet (P := P) (w := w) (base := base) b d_never_meet k_check_house k_whole_net k_meeting
  have k_bar := keep_bar (P := P) (w := w) (base := base) b d_bar k_never_meet k_bar_by
  have k_check_few_halls := keep_check_few_halls (P := P) (w := w) (base := base) b d_check_few_halls
  have k_all_maps := keep_all_maps (P := P) (w := w) (base := base) b d_all_maps
  have k_is_reset_with := keep_is_reset_with (P := P) (w := w) (base := base) b d_is_reset_with k_is_reset_by
  have k_count_resetting := keep_count_resetting (P := P) (w := w) (base := base) b d_count_resetting k_check_house k_check_few_halls k_all_maps k_is_reset_with
  have k_resisting_maps := keep_resisting_maps (P := P) (w := w) (base := base) b d_resisting_maps k_check_turns k_check_few_halls k_all_maps k_is_reset_with k_is_one_to_one
  have k_pair_lots := keep_pair_lots (P := P) (w := w) (base := base) b d_pair_lots k_check_turns k_whole_net k_rows_from
  have k_kept_nets := keep_kept_nets (P := P) (w := w) (base := base) b d_kept_nets k_pair_lots
  have k_is_barring_in_part := keep_is_barring_in_part (P := P) (w := w) (base := base) b d_is_barring_in_part k_is_barring k_whole_net
  have k_barring_nets := keep_barring_nets (P := P) (w := w) (base := base) b d_barring_nets k_kept_nets k_is_barring_in_part
  have k_group_bar := keep_group_bar (P := P) (w := w) (base := base) b d_group_bar k_kept_nets k_is_barring_in_part k_bar_by
  have k_resets_with := keep_resets_with (P := P) (w := w) (base := base) b d_resets_with k_check_house k_check_map k_is_reset_by
  have k_resets_all := keep_resets_all (P := P) (w := w) (base := base) b d_resets_all k_group_bar
  have k_with_hall := keep_with_hall (P := P) (w := w) (base := base) b d_with_hall
  have k_all_partings := keep_all_partings (P := P) (w := w) (base := base) b d_all_partings k_with_hall
  have k_leads_to_parts := keep_leads_to_parts (P := P) (w := w) (base := base) b d_leads_to_parts k_image
  have k_partings_kept := keep_partings_kept (P := P) (w := w) (base := base) b d_partings_kept k_all_partings k_leads_to_parts
  have k_parts_of_colours := keep_parts_of_colours (P := P) (w := w) (base := base) b d_parts_of_colours
  have k_section := keep_section (P := P) (w := w) (base := base) b d_section k_group_bar k_parts_of_colours
  have k_is_transitive := keep_is_transitive (P := P) (w := w) (base := base) b d_is_transitive k_check_turns k_rows_from
  have k_is_pairwise := keep_is_pairwise (P := P) (w := w) (base := base) b d_is_pairwise k_pair_lots
  have k_is_primitive := keep_is_primitive (P := P) (w := w) (base := base) b d_is_primitive k_check_turns k_partings_kept
  have k_kept_partings := keep_kept_partings (P := P) (w := w) (base := base) b d_kept_partings k_check_turns k_partings_kept
  have k__law_taken := keep__law_taken (P := P) (w := w) (base := base) b d__law_taken
  have k__law_circle := keep__law_circle (P := P) (w := w) (base := base) b d__law_circle
  exact keep_law b k_rank k_resets_to k_reset k_meeting k_homing k_fewest_row k_lots k_has_reset k_bar k_never_meet k_map_of k_led k_colours k_greatest_clique k_is_barring k_least_colours k_kept_nets k_pair_lots k_barring_nets k_resets_all k_is_primitive k_is_pairwise k_is_transitive k_kept_partings k_section k_resisting_maps k_count_resetting k__law_taken k_resets_with k__law_circle F good
end K13
open PySem PySem.W PySem.Calls PyProof.Rows
theorem K13.holds_of (good : K13.Good) : PySem.Challenge.rw_resetcalls_k13_known_houses.Holds := by
  w_on; o_law
  refine HandSHeadRun.head_imp (r := OpenLaw.row PySem.Challenge.rw_resetcalls_k13_known_houses) (q := view (OpenLaw.row PySem.Challenge.rw_resetcalls_k13_known_houses).prog [0, 97]) (H := K13.hk) (ob := K13.ob) (M := 9000) (loose := K13.names) (d := HandSHeadRun.topDef (OpenLaw.row PySem.Challenge.rw_resetcalls_k13_known_houses).prog 97) (kwd := []) K13.ob_eq
    K13.run (by kernel_rfl) (by kernel_rfl) (by kernel_rfl) (by rfl) (by first | assumption | decide +kernel) (by decide +kernel) ⟨rfl, rfl, rfl, rfl, rfl, by decide +kernel⟩ ?hw ?hc
  case hw => w_witness2
  case hc =>
    refine L2.walk_ofE (l := PySem.Challenge.rw_resetcalls_k13_known_houses) (n := 63) (k := 20) (x := "script") (CX := L2.CX0) rfl (by decide) (by kernel_rfl) ⟨rfl, by decide, by decide⟩ ?F (fun _ _ _ _ z => z)
    intro w mg fa h Y G hmg0
    obtain ⟨K, KX, c, cT⟩ := Y
    have hmg : mg ("law" : PySem.Str) = some (.ref fa) := by
      have e : (HandSHeadRun.topDef (OpenLaw.row PySem.Challenge.rw_resetcalls_k13_known_houses).prog 97).name = ("law" : PySem.Str) := by kernel_rfl
      rw [← e]
      exact hmg0
    obtain ⟨fd, hb, hF⟩ := K13.facts (P := (PySem.Challenge.rw_resetcalls_k13_known_houses).prog) (w := w) KX G hmg c cT good
    exact ⟨K, fd, VS.spLaw K (fun ns => ns.length ≤ 63), KX, hb, fun H a ns hl _ hS => ⟨a, ns, rfl, hS, hl, fun _ => rfl⟩, hF⟩
end

section
set_option Elab.async false
set_option linter.all false
set_option maxRecDepth 100000
set_option maxHeartbeats 1000000
namespace VS
open PySem PySem.Spec PyProof.Rows L2
/-! ## working mirrors out -/
theorem kit_int_bool : kitB "int" "bool" = some false := by kernel_rfl
theorem kit_int_int : kitB "int" "int" = some true := by kernel_rfl
theorem kit_bool_bool : kitB "bool" "bool" = some true := by kernel_rfl
theorem kit_bool_int : kitB "bool" "int" = some true := by kernel_rfl
theorem kit_tuple_tuple : kitB "tuple" "tuple" = some true := by kernel_rfl
theorem kit_tuple_list : kitB "tuple" "list" = some false := by kernel_rfl
theorem kit_list_tuple : kitB "list" "tuple" = some false := by kernel_rfl
theorem kit_list_list : kitB "list" "list" = some true := by kernel_rfl
theorem kit_int_tuple : kitB "int" "tuple" = some false := by kernel_rfl
theorem kit_int_list : kitB "int" "list" = some false := by kernel_rfl
theorem kit_bool_tuple : kitB "bool" "tuple" = some false := by kernel_rfl
theorem kit_bool_list : kitB "bool" "list" = some false := by kernel_rfl
theorem kit_none_tuple : kitB "NoneType" "tuple" = some false := by kernel_rfl
theorem kit_none_list : kitB "NoneType" "list" = some false := by kernel_rfl
theorem kit_int_str : kitB "int" "str" = some false := by kernel_rfl
theorem kit_bool_str : kitB "bool" "str" = some false := by kernel_rfl
theorem kit_none_str : kitB "NoneType" "str" = some false := by kernel_rfl
theorem kit_tuple_str : kitB "tuple" "str" = some false := by kernel_rfl
theorem kit_none_int : kitB "NoneType" "int" = some false := by kernel_rfl
theorem kit_none_bool : kitB "NoneType" "bool" = some false := by kernel_rfl
theorem kit_tuple_int : kitB "tuple" "int" = some false := by kernel_rfl
theorem kit_tuple_bool : kitB "tuple" "bool" = some false := by kernel_rfl

/-! loops over a list that is a map -/
theorem lcGo_list {α : Type} {env : List SV} {g : D → List SV → Option (List SV)} {tt : E Bool} {el : E D} {ρ : List D} (f : α → D) (Ex : α → List SV) (b : α → Bool) (e : α → D) : ∀ l : List α,
    (∀ x ∈ l, g (f x) env = some (Ex x) ∧ tt (Ex x) ρ = some (b x, ρ) ∧ (b x = true → el (Ex x) ρ = some (e x, ρ))) → lcGo env g tt el (l.map f) ρ = some ((l.filter b).map e, ρ)
  | [], _ => rfl
  | x :: l, h => by
    obtain ⟨h1, h2, h3⟩ := h x List.mem_cons_self
    have ih := lcGo_list f Ex b e l fun y hy => h y (List.mem_cons_of_mem _ hy)
    rw [List.map_cons]
    unfold lcGo
    rw [h1, Option.bind_some, h2, Option.bind_some]
    cases hb : b x with
    | true => simp [h3 hb, ih, hb]
    | false => simp [ih, hb]
theorem mLc_list {α : Type} {env : List SV} {it : E (List D)} {own : List Nat} {g : D → List SV → Option (List SV)} {tt : E Bool} {el : E D} {ρ : List D} (f : α → D) (Ex : α → List SV) (b : α → Bool) (e : α → D) (l : List α) (hi : it env ρ = some (l.map f, ρ)) (hl : l.length ≤ 1000000)
    (h : ∀ x ∈ l, g (f x) (wipeE env own) = some (Ex x) ∧ tt (Ex x) ρ = some (b x, ρ) ∧ (b x = true → el (Ex x) ρ = some (e x, ρ))) : mLc it own g tt el env ρ = some ((l.filter b).map e, ρ) := by
  unfold mLc
  rw [hi, Option.bind_some]
  simp only [List.length_map]
  rw [if_pos hl]
  exact lcGo_list f Ex b e l h
theorem mLc_all {α : Type} {env : List SV} {it : E (List D)} {own : List Nat} {g : D → List SV → Option (List SV)} {el : E D} {ρ : List D} (f : α → D) (Ex : α → List SV) (e : α → D) (l : List α) (hi : it env ρ = some (l.map f, ρ)) (hl : l.length ≤ 1000000)
    (h : ∀ x ∈ l, g (f x) (wipeE env own) = some (Ex x) ∧ el (Ex x) ρ = some (e x, ρ)) : mLc it own g mYes el env ρ = some (l.map e, ρ) := by
  have q := mLc_list (tt := mYes) f Ex (fun _ => true) e l hi hl fun x hx => ⟨(h x hx).1, rfl, fun _ => (h x hx).2⟩
  rwa [List.filter_eq_self.mpr (fun _ _ => rfl)] at q
theorem blsD_map {α : Type} (p : α → Bool) : ∀ l : List α, blsD (l.map fun x => .bl (p x)) = some (l.map p)
  | [] => rfl
  | x :: l => by simp [blsD, blsD_map p l]
theorem allD_map {α : Type} (p : α → Bool) (l : List α) : allD [.lst (l.map fun x => .bl (p x))] = some (.bl (l.all p)) := by
  show (blsD (l.map fun x => .bl (p x))).map (fun bs => D.bl (bs.all id)) = _
  rw [blsD_map]
  simp [List.all_map, Function.comp_def]
def hi (i : Nat) : D := .int (i : Int)
theorem imms_hi : ∀ l : List Nat, D.imms (l.map hi) = true
  | [] => rfl
  | i :: l => by simp [D.imm.immAll, imms_hi l, hi, D.imm]
theorem imm_hi (l : List Nat) : (D.tup (l.map hi)).imm = true := imms_hi l
theorem forGo_list {α σ : Type} {g : D → List SV → Option (List SV)} {body : C} (f : α → D) (step : σ → α → σ) (Inv : σ → List SV → List D → Prop) : ∀ (l : List α) (s : σ) (env : List SV) (ρ : List D), Inv s env ρ →
    (∀ x ∈ l, ∀ s env ρ, Inv s env ρ → ∃ env1 env2 ρ2, g (f x) env = some env1 ∧ (body env1 ρ = some (.nx, env2, ρ2) ∨ body env1 ρ = some (.ct, env2, ρ2)) ∧ Inv (step s x) env2 ρ2) →
    ∃ env' ρ', forGo g body (l.map f) env ρ = some (.nx, env', ρ') ∧ Inv (l.foldl step s) env' ρ'
  | [], s, env, ρ, h, _ => ⟨env, ρ, rfl, h⟩
  | x :: l, s, env, ρ, h, hs => by
    obtain ⟨env1, env2, ρ2, h1, h2, h3⟩ := hs x List.mem_cons_self s env ρ h
    obtain ⟨env', ρ', h4, h5⟩ := forGo_list f step Inv l (step s x) env2 ρ2 h3 fun y hy => hs y (List.mem_cons_of_mem _ hy)
    refine ⟨env', ρ', ?_, h5⟩
    rw [List.map_cons]
    unfold forGo
    rw [h1, Option.bind_some]
    rcases h2 with h2 | h2
    · rw [h2, Option.bind_some]
      exact h4
    · rw [h2, Option.bind_some]
      exact h4

/-! step by step (the kernel runs deep where simp leaves it to compare an unfolded bound like 1000000: use these there) -/
section
variable {env env' : List SV} {ρ ρ1 ρ2 ρ' : List D}
theorem e_op {g : D → D → Option D} {a b : E D} {x y z : D} (ha : a env ρ = some (x, ρ1)) (hb : b env ρ1 = some (y, ρ2)) (hg : g x y = some z) : mOp g a b env ρ = some (z, ρ2) := by
  unfold mOp
  rw [ha, Option.bind_some, hb, Option.bind_some, hg] <;> rfl
theorem e_dat {f : E D} {d : D} (h : f env ρ = some (d, ρ')) (im : d.imm = true) : rDt f env ρ = some (.dat d, ρ') := by
  unfold rDt
  rw [h, Option.bind_some, if_pos im]
theorem e_lst {f : E (List D)} {d : List D} (h : f env ρ = some (d, ρ')) (im : D.imms d = true) : rL f env ρ = some (.lst d, ρ') := by
  unfold rL
  rw [h, Option.bind_some, if_pos im]
theorem e_asg {f : E SV} {i : Nat} {x : SV} (h : f env ρ = some (x, ρ')) : cAsg i f env ρ = some (.nx, env.set i x, ρ') := by
  unfold cAsg
  rw [h] <;> rfl
theorem e_seq {a b : C} {o' : Option (Out × List SV × List D)} (ha : a env ρ = some (.nx, env', ρ1)) (hb : b env' ρ1 = o') : cSeq a b env ρ = o' := by
  unfold cSeq
  rw [ha, Option.bind_some]
  exact hb
theorem e_ifT {c : E Bool} {a b : C} (hc : c env ρ = some (true, ρ1)) : cIf c a b env ρ = a env ρ1 := by
  unfold cIf
  rw [hc, Option.bind_some] <;> rfl
theorem e_ifF {c : E Bool} {a b : C} (hc : c env ρ = some (false, ρ1)) : cIf c a b env ρ = b env ρ1 := by
  unfold cIf
  rw [hc, Option.bind_some] <;> rfl
theorem e_test {f : E D} {b : Bool} (h : f env ρ = some (.bl b, ρ')) : mTest f env ρ = some (b, ρ') := by
  unfold mTest
  rw [h] <;> rfl
theorem e_cons {a : E D} {b : E (List D)} {x : D} {xs : List D} (ha : a env ρ = some (x, ρ1)) (hb : b env ρ1 = some (xs, ρ2)) : mCons a b env ρ = some (x :: xs, ρ2) := by
  unfold mCons
  rw [ha, Option.bind_some, hb] <;> rfl
theorem e_call {g : List D → Option D} {f : E (List D)} {xs : List D} {z : D} (h : f env ρ = some (xs, ρ')) (hg : g xs = some z) : mCall g f env ρ = some (z, ρ') := by
  unfold mCall
  rw [h, Option.bind_some, hg] <;> rfl
theorem e_call0 {g : List D → List D → Option (D × List D)} {f : E (List D)} {xs : List D} {z : D} {r : List D} (h : f env ρ = some (xs, ρ')) (hg : g xs [] = some (z, r)) : mCall0 (g0 g) f env ρ = some (z, ρ') := by
  unfold mCall0 g0
  rw [h, Option.bind_some, hg] <;> rfl
theorem e_mlst {f : E (List D)} {xs : List D} (h : f env ρ = some (xs, ρ')) : mLst f env ρ = some (.lst xs, ρ') := by
  unfold mLst
  rw [h] <;> rfl
theorem e_ret {f : E SV} {x : SV} {d : D} (h : f env ρ = some (x, ρ')) (hd : datOf x = some d) : cRet f env ρ = some (.rt d, env, ρ') := by
  unfold cRet
  rw [h, Option.bind_some, hd] <;> rfl
theorem e_for {it : EI} {g : D → List SV → Option (List SV)} {body : C} {ds : List D} {o : Option (Out × List SV × List D)} (h : it env ρ = some (ds, env', ρ1)) (hb : forGo g body ds env' ρ1 = o) : cFor it g body env ρ = o := by
  unfold cFor
  rw [h, Option.bind_some]
  exact hb
end
end VS
end

section
set_option Elab.async false
set_option linter.all false
set_option maxRecDepth 100000
set_option maxHeartbeats 1000000
namespace MM
open VS
theorem eqD_int (a b : Int) : eqD (.int a) (.int b) = some (.bl (decide (a = b))) := by
  have e : (a == b) = decide (a = b) := by
    by_cases h : a = b <;> simp [h]
  simp [eqD, D.ok, D.okN, D.eqv, e]
theorem neD_int (a b : Int) : neD (.int a) (.int b) = some (.bl (!decide (a = b))) := by
  have e : (a == b) = decide (a = b) := by
    by_cases h : a = b <;> simp [h]
  simp [neD, D.ok, D.okN, D.eqv, e]
theorem v_is_number (v a b : Int) (ρ : List D) : g_is_number [.int v, .int a, .int b] ρ = some (.bl (decide (a ≤ v ∧ v ≤ b)), ρ) := by
  by_cases h : a ≤ v <;> by_cases h2 : v ≤ b <;> simp [gOf, cSeq, cIf, cRet, cNil, cDrop, cAsg, cPar, cUnp, cUnpV, cAug, cMove, rDt, rW, rL, rDi, mOr, mAnd, mTest, mUn, mNot, mVar, mC, mChain, mOp, mCons, mNil, mTup, mSz, mLst, mCall, mCallF, mCallR, mCall0, mIf, mAndV, mOrV, mTru, mSeq, mBind, mB, mRowIx, cRowSet, g0, isiD, isiTD, isiDs, tyD, datOf, D.imm, D.imm.immAll, notD, kit_int_bool, kit_int_int, kit_bool_bool, kit_bool_int, kit_tuple_tuple, kit_tuple_list, kit_list_tuple, kit_list_list, kit_int_tuple, kit_int_list, kit_bool_tuple, kit_bool_list, kit_none_tuple, kit_none_list, kit_int_str, kit_bool_str, kit_none_str, kit_tuple_str, kit_none_int, kit_none_bool, kit_tuple_int, kit_tuple_bool, addD, subD, mulD, leD, gtD, geD, lenD, intD, tupleD, listF, g_is_number, c_is_number, h, h2]
theorem v_is_hall (n v : Int) (ρ : List D) : g_is_hall [.int n, .int v] ρ = some (.bl (decide (0 ≤ v ∧ v ≤ n - 1)), ρ) := by
  simp [gOf, cSeq, cIf, cRet, cNil, cDrop, cAsg, cPar, cUnp, cUnpV, cAug, cMove, rDt, rW, rL, rDi, mOr, mAnd, mTest, mUn, mNot, mVar, mC, mChain, mOp, mCons, mNil, mTup, mSz, mLst, mCall, mCallF, mCallR, mCall0, mIf, mAndV, mOrV, mTru, mSeq, mBind, mB, mRowIx, cRowSet, g0, isiD, isiTD, isiDs, tyD, datOf, D.imm, D.imm.immAll, notD, kit_int_bool, kit_int_int, kit_bool_bool, kit_bool_int, kit_tuple_tuple, kit_tuple_list, kit_list_tuple, kit_list_list, kit_int_tuple, kit_int_list, kit_bool_tuple, kit_bool_list, kit_none_tuple, kit_none_list, kit_int_str, kit_bool_str, kit_none_str, kit_tuple_str, kit_none_int, kit_none_bool, kit_tuple_int, kit_tuple_bool, addD, subD, mulD, leD, gtD, geD, lenD, intD, tupleD, listF, g_is_hall, c_is_hall, v_is_number]
theorem v_toh (n : Nat) (l : List Nat) (ρ : List D) (hl : l.length ≤ 1000000) : g_is_tuple_of_halls [hi n, .tup (l.map hi)] ρ = some (.bl (l.all fun i => decide (i < n)), ρ) := by
  have lc : mLc (mSeq (mVar 1)) [2] (gN 2) mYes (mCall0 (g0 g_is_hall) (mCons (mVar 0) (mCons (mVar 2) mNil))) [.dat (hi n), .dat (.tup (l.map hi)), .un] ρ = some (l.map fun i => .bl (decide (i < n)), ρ) := by
    refine mLc_all hi (fun i => [.dat (hi n), .dat (.tup (l.map hi)), .dat (hi i)]) _ l (by simp [gOf, cSeq, cIf, cRet, cNil, cDrop, cAsg, cPar, cUnp, cUnpV, cAug, cMove, rDt, rW, rL, rDi, mOr, mAnd, mTest, mUn, mNot, mVar, mC, mChain, mOp, mCons, mNil, mTup, mSz, mLst, mCall, mCallF, mCallR, mCall0, mIf, mAndV, mOrV, mTru, mSeq, mBind, mB, mRowIx, cRowSet, g0, isiD, isiTD, isiDs, tyD, datOf, D.imm, D.imm.immAll, notD, kit_int_bool, kit_int_int, kit_bool_bool, kit_bool_int, kit_tuple_tuple, kit_tuple_list, kit_list_tuple, kit_list_list, kit_int_tuple, kit_int_list, kit_bool_tuple, kit_bool_list, kit_none_tuple, kit_none_list, kit_int_str, kit_bool_str, kit_none_str, kit_tuple_str, kit_none_int, kit_none_bool, kit_tuple_int, kit_tuple_bool, addD, subD, mulD, leD, gtD, geD, lenD, intD, tupleD, listF]) hl fun i _ => ⟨rfl, ?_⟩
    have e : decide ((0 : Int) ≤ (i : Int) ∧ (i : Int) ≤ (n : Int) - 1) = decide (i < n) := by
      rw [decide_eq_decide]
      omega
    simp [gOf, cSeq, cIf, cRet, cNil, cDrop, cAsg, cPar, cUnp, cUnpV, cAug, cMove, rDt, rW, rL, rDi, mOr, mAnd, mTest, mUn, mNot, mVar, mC, mChain, mOp, mCons, mNil, mTup, mSz, mLst, mCall, mCallF, mCallR, mCall0, mIf, mAndV, mOrV, mTru, mSeq, mBind, mB, mRowIx, cRowSet, g0, isiD, isiTD, isiDs, tyD, datOf, D.imm, D.imm.immAll, notD, kit_int_bool, kit_int_int, kit_bool_bool, kit_bool_int, kit_tuple_tuple, kit_tuple_list, kit_list_tuple, kit_list_list, kit_int_tuple, kit_int_list, kit_bool_tuple, kit_bool_list, kit_none_tuple, kit_none_list, kit_int_str, kit_bool_str, kit_none_str, kit_tuple_str, kit_none_int, kit_none_bool, kit_tuple_int, kit_tuple_bool, addD, subD, mulD, leD, gtD, geD, lenD, intD, tupleD, listF, hi, v_is_hall, e]
    omega
  have a := allD_map (fun i => decide (i < n)) l
  simp [gOf, cSeq, cIf, cRet, cNil, cDrop, cAsg, cPar, cUnp, cUnpV, cAug, cMove, rDt, rW, rL, rDi, mOr, mAnd, mTest, mUn, mNot, mVar, mC, mChain, mOp, mCons, mNil, mTup, mSz, mLst, mCall, mCallF, mCallR, mCall0, mIf, mAndV, mOrV, mTru, mSeq, mBind, mB, mRowIx, cRowSet, g0, isiD, isiTD, isiDs, tyD, datOf, D.imm, D.imm.immAll, notD, kit_int_bool, kit_int_int, kit_bool_bool, kit_bool_int, kit_tuple_tuple, kit_tuple_list, kit_list_tuple, kit_list_list, kit_int_tuple, kit_int_list, kit_bool_tuple, kit_bool_list, kit_none_tuple, kit_none_list, kit_int_str, kit_bool_str, kit_none_str, kit_tuple_str, kit_none_int, kit_none_bool, kit_tuple_int, kit_tuple_bool, addD, subD, mulD, leD, gtD, geD, lenD, intD, tupleD, listF, g_is_tuple_of_halls, c_is_tuple_of_halls, lc, a]
/-- a map of n halls -/
def IsMap (n : Nat) (l : List Nat) : Prop := l.length = n ∧ ∀ i ∈ l, i < n
theorem v_is_map (n : Nat) (l : List Nat) (ρ : List D) (hn : n ≤ 1000000) (h : IsMap n l) : g_is_map [hi n, .tup (l.map hi)] ρ = some (.bl true, ρ) := by
  have t := v_toh n l [] (by rw [h.1]; exact hn)
  have e : (l.all fun i => decide (i < n)) = true := List.all_eq_true.mpr fun i hi => decide_eq_true (h.2 i hi)
  rw [e] at t
  have q : eqD (.int (n : Int)) (hi n) = some (.bl true) := by
    unfold hi
    rw [eqD_int] <;> simp
  simp [gOf, cSeq, cIf, cRet, cNil, cDrop, cAsg, cPar, cUnp, cUnpV, cAug, cMove, rDt, rW, rL, rDi, mOr, mAnd, mTest, mUn, mNot, mVar, mC, mChain, mOp, mCons, mNil, mTup, mSz, mLst, mCall, mCallF, mCallR, mCall0, mIf, mAndV, mOrV, mTru, mSeq, mBind, mB, mRowIx, cRowSet, g0, isiD, isiTD, isiDs, tyD, datOf, D.imm, D.imm.immAll, notD, kit_int_bool, kit_int_int, kit_bool_bool, kit_bool_int, kit_tuple_tuple, kit_tuple_list, kit_list_tuple, kit_list_list, kit_int_tuple, kit_int_list, kit_bool_tuple, kit_bool_list, kit_none_tuple, kit_none_list, kit_int_str, kit_bool_str, kit_none_str, kit_tuple_str, kit_none_int, kit_none_bool, kit_tuple_int, kit_tuple_bool, addD, subD, mulD, leD, gtD, geD, lenD, intD, tupleD, listF, g_is_map, c_is_map, t, h.1, q]
theorem v_are_maps (n : Nat) (maps : List (List Nat)) (ρ : List D) (hn : n ≤ 1000000) (h1 : 1 ≤ maps.length) (h6 : maps.length ≤ 6) (h : ∀ l ∈ maps, IsMap n l) : g_are_maps [hi n, .tup (maps.map fun l => .tup (l.map hi))] ρ = some (.bl true, ρ) := by
  have lc : mLc (mSeq (mVar 1)) [2] (gN 2) mYes (mCall0 (g0 g_is_map) (mCons (mVar 0) (mCons (mVar 2) mNil))) [.dat (hi n), .dat (.tup (maps.map fun l => .tup (l.map hi))), .un] ρ = some (maps.map fun i => .bl true, ρ) := by
    refine mLc_all (fun l => .tup (l.map hi)) (fun l => [.dat (hi n), .dat (.tup (maps.map fun l => .tup (l.map hi))), .dat (.tup (l.map hi))]) _ maps (by simp [gOf, cSeq, cIf, cRet, cNil, cDrop, cAsg, cPar, cUnp, cUnpV, cAug, cMove, rDt, rW, rL, rDi, mOr, mAnd, mTest, mUn, mNot, mVar, mC, mChain, mOp, mCons, mNil, mTup, mSz, mLst, mCall, mCallF, mCallR, mCall0, mIf, mAndV, mOrV, mTru, mSeq, mBind, mB, mRowIx, cRowSet, g0, isiD, isiTD, isiDs, tyD, datOf, D.imm, D.imm.immAll, notD, kit_int_bool, kit_int_int, kit_bool_bool, kit_bool_int, kit_tuple_tuple, kit_tuple_list, kit_list_tuple, kit_list_list, kit_int_tuple, kit_int_list, kit_bool_tuple, kit_bool_list, kit_none_tuple, kit_none_list, kit_int_str, kit_bool_str, kit_none_str, kit_tuple_str, kit_none_int, kit_none_bool, kit_tuple_int, kit_tuple_bool, addD, subD, mulD, leD, gtD, geD, lenD, intD, tupleD, listF]) (by omega) fun l hl => ⟨?_, ?_⟩
    · show some (([.dat (hi n), .dat (.tup (maps.map fun l => .tup (l.map hi))), .un] : List SV).set 2 (mk (.tup (l.map hi)))) = _
      unfold mk
      rw [imm_hi] <;> rfl
    · have v := v_is_map n l [] hn (h l hl)
      simp [gOf, cSeq, cIf, cRet, cNil, cDrop, cAsg, cPar, cUnp, cUnpV, cAug, cMove, rDt, rW, rL, rDi, mOr, mAnd, mTest, mUn, mNot, mVar, mC, mChain, mOp, mCons, mNil, mTup, mSz, mLst, mCall, mCallF, mCallR, mCall0, mIf, mAndV, mOrV, mTru, mSeq, mBind, mB, mRowIx, cRowSet, g0, isiD, isiTD, isiDs, tyD, datOf, D.imm, D.imm.immAll, notD, kit_int_bool, kit_int_int, kit_bool_bool, kit_bool_int, kit_tuple_tuple, kit_tuple_list, kit_list_tuple, kit_list_list, kit_int_tuple, kit_int_list, kit_bool_tuple, kit_bool_list, kit_none_tuple, kit_none_list, kit_int_str, kit_bool_str, kit_none_str, kit_tuple_str, kit_none_int, kit_none_bool, kit_tuple_int, kit_tuple_bool, addD, subD, mulD, leD, gtD, geD, lenD, intD, tupleD, listF, v]
  have a := allD_map (fun _ : List Nat => true) maps
  have c1 : decide ((1 : Int) ≤ (maps.length : Int)) = true := decide_eq_true (by omega)
  have c2 : decide ((maps.length : Int) ≤ 6) = true := decide_eq_true (by omega)
  have e : (maps.all fun _ => true) = true := by simp
  rw [e] at a
  simp [gOf, cSeq, cIf, cRet, cNil, cDrop, cAsg, cPar, cUnp, cUnpV, cAug, cMove, rDt, rW, rL, rDi, mOr, mAnd, mTest, mUn, mNot, mVar, mC, mChain, mOp, mCons, mNil, mTup, mSz, mLst, mCall, mCallF, mCallR, mCall0, mIf, mAndV, mOrV, mTru, mSeq, mBind, mB, mRowIx, cRowSet, g0, isiD, isiTD, isiDs, tyD, datOf, D.imm, D.imm.immAll, notD, kit_int_bool, kit_int_int, kit_bool_bool, kit_bool_int, kit_tuple_tuple, kit_tuple_list, kit_list_tuple, kit_list_list, kit_int_tuple, kit_int_list, kit_bool_tuple, kit_bool_list, kit_none_tuple, kit_none_list, kit_int_str, kit_bool_str, kit_none_str, kit_tuple_str, kit_none_int, kit_none_bool, kit_tuple_int, kit_tuple_bool, addD, subD, mulD, leD, gtD, geD, lenD, intD, tupleD, listF, g_are_maps, c_are_maps, lc, a, c1, c2, h1, h6]
end MM
end

section
set_option Elab.async false
set_option linter.all false
set_option maxRecDepth 100000
set_option maxHeartbeats 2000000
namespace MM
open VS L2
/-- the law's row, at a script ns -/
def Row (ns : List Int) (ρ : List D) : Prop := ∃ i s r : Int, 0 ≤ i ∧ ρ = [.lst (ns.map .int), .int i, .int s, .int r]
theorem row_start (m : Int) (ns : List Int) : Row ns (rho0 m ns) := ⟨0, m, 0, Int.le_refl _, rfl⟩
theorem at0 (a b c d : D) : atI [a, b, c, d] (0 : Int) = some a := rfl
theorem at1 (a b c d : D) : atI [a, b, c, d] (1 : Int) = some b := rfl
theorem at2 (a b c d : D) : atI [a, b, c, d] (2 : Int) = some c := rfl
theorem at3 (a b c d : D) : atI [a, b, c, d] (3 : Int) = some d := rfl
theorem ixN0 : ixN 4 (0 : Int) = some 0 := rfl
theorem ixN1 : ixN 4 (1 : Int) = some 1 := rfl
theorem ixN2 : ixN 4 (2 : Int) = some 2 := rfl
theorem ixN3 : ixN 4 (3 : Int) = some 3 := rfl
theorem atI_int {ns : List Int} {j : Int} (h0 : 0 ≤ j) (h : j < ns.length) : ∃ c : Int, atI (ns.map D.int) j = some (.int c) := by
  have hl : j.toNat < ns.length := by omega
  refine ⟨ns[j.toNat], ?_⟩
  unfold atI
  have e : ixN (ns.map D.int).length j = some j.toNat := by
    rw [List.length_map]
    unfold ixN
    rw [if_pos h0, if_pos h]
  rw [e, Option.bind_some, List.getElem?_map, List.getElem?_eq_getElem hl] <;> rfl
theorem v_taken {m : Int} {ns : List Int} {ρ : List D} (hm : 0 < m) (hm2 : m < 1073741824) (h : Row ns ρ) : ∃ t ρ', g__law_taken [.int m] ρ = some (.int t, ρ') ∧ 0 ≤ t ∧ t < m ∧ Row ns ρ' := by
  obtain ⟨i, s, r, hi, rfl⟩ := h
  by_cases hr : 0 < r
  · refine ⟨r % m, [.lst (ns.map .int), .int i, .int s, .int (r / m)], ?_, Int.emod_nonneg _ (by omega), Int.emod_lt_of_pos _ hm, i, s, _, hi, rfl⟩
    simp [gOf, cSeq, cIf, cRet, cNil, cDrop, cAsg, cPar, cUnp, cUnpV, cAug, cMove, rDt, rW, rL, rDi, mOr, mAnd, mTest, mUn, mNot, mVar, mC, mChain, mOp, mCons, mNil, mTup, mSz, mLst, mCall, mCallF, mCallR, mCall0, mIf, mAndV, mOrV, mTru, mSeq, mBind, mB, mRowIx, cRowSet, g0, isiD, isiTD, isiDs, tyD, datOf, D.imm, D.imm.immAll, notD, kit_int_bool, kit_int_int, kit_bool_bool, kit_bool_int, kit_tuple_tuple, kit_tuple_list, kit_list_tuple, kit_list_list, kit_int_tuple, kit_int_list, kit_bool_tuple, kit_bool_list, kit_none_tuple, kit_none_list, kit_int_str, kit_bool_str, kit_none_str, kit_tuple_str, kit_none_int, kit_none_bool, kit_tuple_int, kit_tuple_bool, addD, subD, mulD, leD, gtD, geD, lenD, intD, tupleD, listF, g__law_taken, c__law_taken, at3, ixN3, hr, modD, fdivD, hm, hm2]
  · by_cases hl : (ns.length : Int) < i + 1
    · refine ⟨((s * 48271 + 11) % 2147483647 / 7) % m, [.lst (ns.map .int), .int (i + 1), .int ((s * 48271 + 11) % 2147483647), .int r], ?_, Int.emod_nonneg _ (by omega), Int.emod_lt_of_pos _ hm, i + 1, _, r, by omega, rfl⟩
      simp [gOf, cSeq, cIf, cRet, cNil, cDrop, cAsg, cPar, cUnp, cUnpV, cAug, cMove, rDt, rW, rL, rDi, mOr, mAnd, mTest, mUn, mNot, mVar, mC, mChain, mOp, mCons, mNil, mTup, mSz, mLst, mCall, mCallF, mCallR, mCall0, mIf, mAndV, mOrV, mTru, mSeq, mBind, mB, mRowIx, cRowSet, g0, isiD, isiTD, isiDs, tyD, datOf, D.imm, D.imm.immAll, notD, kit_int_bool, kit_int_int, kit_bool_bool, kit_bool_int, kit_tuple_tuple, kit_tuple_list, kit_list_tuple, kit_list_list, kit_int_tuple, kit_int_list, kit_bool_tuple, kit_bool_list, kit_none_tuple, kit_none_list, kit_int_str, kit_bool_str, kit_none_str, kit_tuple_str, kit_none_int, kit_none_bool, kit_tuple_int, kit_tuple_bool, addD, subD, mulD, leD, gtD, geD, lenD, intD, tupleD, listF, g__law_taken, c__law_taken, at0, at1, at2, at3, ixN1, ixN2, hr, hl, modD, fdivD, hm, hm2]
    · obtain ⟨c, hc⟩ := atI_int (ns := ns) (j := i) (by omega) (by omega)
      by_cases hb : (1000000000000000000 : Int) ≤ c
      · refine ⟨c % m, [.lst (ns.map .int), .int (i + 1), .int ((s * 48271 + c + 11) % 2147483647), .int (c / m)], ?_, Int.emod_nonneg _ (by omega), Int.emod_lt_of_pos _ hm, i + 1, _, _, by omega, rfl⟩
        simp [gOf, cSeq, cIf, cRet, cNil, cDrop, cAsg, cPar, cUnp, cUnpV, cAug, cMove, rDt, rW, rL, rDi, mOr, mAnd, mTest, mUn, mNot, mVar, mC, mChain, mOp, mCons, mNil, mTup, mSz, mLst, mCall, mCallF, mCallR, mCall0, mIf, mAndV, mOrV, mTru, mSeq, mBind, mB, mRowIx, cRowSet, g0, isiD, isiTD, isiDs, tyD, datOf, D.imm, D.imm.immAll, notD, kit_int_bool, kit_int_int, kit_bool_bool, kit_bool_int, kit_tuple_tuple, kit_tuple_list, kit_list_tuple, kit_list_list, kit_int_tuple, kit_int_list, kit_bool_tuple, kit_bool_list, kit_none_tuple, kit_none_list, kit_int_str, kit_bool_str, kit_none_str, kit_tuple_str, kit_none_int, kit_none_bool, kit_tuple_int, kit_tuple_bool, addD, subD, mulD, leD, gtD, geD, lenD, intD, tupleD, listF, g__law_taken, c__law_taken, at0, at1, at2, at3, ixN1, ixN2, ixN3, hr, hl, ixD, hc, modD, fdivD, powD, hm, hm2, hb]
      · refine ⟨c % m, [.lst (ns.map .int), .int (i + 1), .int ((s * 48271 + c + 11) % 2147483647), .int r], ?_, Int.emod_nonneg _ (by omega), Int.emod_lt_of_pos _ hm, i + 1, _, _, by omega, rfl⟩
        simp [gOf, cSeq, cIf, cRet, cNil, cDrop, cAsg, cPar, cUnp, cUnpV, cAug, cMove, rDt, rW, rL, rDi, mOr, mAnd, mTest, mUn, mNot, mVar, mC, mChain, mOp, mCons, mNil, mTup, mSz, mLst, mCall, mCallF, mCallR, mCall0, mIf, mAndV, mOrV, mTru, mSeq, mBind, mB, mRowIx, cRowSet, g0, isiD, isiTD, isiDs, tyD, datOf, D.imm, D.imm.immAll, notD, kit_int_bool, kit_int_int, kit_bool_bool, kit_bool_int, kit_tuple_tuple, kit_tuple_list, kit_list_tuple, kit_list_list, kit_int_tuple, kit_int_list, kit_bool_tuple, kit_bool_list, kit_none_tuple, kit_none_list, kit_int_str, kit_bool_str, kit_none_str, kit_tuple_str, kit_none_int, kit_none_bool, kit_tuple_int, kit_tuple_bool, addD, subD, mulD, leD, gtD, geD, lenD, intD, tupleD, listF, g__law_taken, c__law_taken, at0, at1, at2, at3, ixN1, ixN2, ixN3, hr, hl, ixD, hc, modD, fdivD, powD, hm, hm2, hb]
end MM
end

section
set_option Elab.async false
set_option linter.all false
set_option maxRecDepth 1000000
set_option maxHeartbeats 2000000
namespace K13
open VS L2 PySem MM
theorem seq_nx {a b : C} {env env' : List SV} {ρ ρ' : List D} (h : a env ρ = some (.nx, env', ρ')) : cSeq a b env ρ = b env' ρ' := by
  unfold cSeq
  rw [h] <;> rfl
theorem seq_rt {a b : C} {env env' : List SV} {ρ ρ' : List D} {d : D} (h : a env ρ = some (.rt d, env', ρ')) : cSeq a b env ρ = some (.rt d, env', ρ') := by
  unfold cSeq
  rw [h] <;> rfl
theorem if_t {c : E D} {a b : C} {env : List SV} {ρ ρ' : List D} {r} (h : c env ρ = some (.bl true, ρ')) (ha : a env ρ' = r) : cIf (mTest c) a b env ρ = r := by
  unfold cIf mTest
  rw [h]
  exact ha
theorem if_f {c : E D} {a b : C} {env : List SV} {ρ ρ' : List D} {r} (h : c env ρ = some (.bl false, ρ')) (ha : b env ρ' = r) : cIf (mTest c) a b env ρ = r := by
  unfold cIf mTest
  rw [h]
  exact ha
theorem nil_nx (env : List SV) (ρ : List D) : cNil env ρ = some (.nx, env, ρ) := rfl
abbrev d_far : D := .tup [.int 4, .tup [.tup [.int 1, .int 2, .int 3, .int 0], .tup [.int 0, .int 1, .int 2, .int 0]]]
abbrev d_three : D := .tup [.int 3, .tup [.tup [.int 1, .int 0, .int 2], .tup [.int 0, .int 0, .int 2]]]
abbrev d_ring : D := .tup [.tup [.int 0, .int 1], .tup [.int 0, .int 3], .tup [.int 1, .int 2], .tup [.int 2, .int 3]]
abbrev d_five : D := .tup [.tup [.int 0, .int 1], .tup [.int 0, .int 4], .tup [.int 1, .int 2], .tup [.int 2, .int 3], .tup [.int 3, .int 4]]
abbrev d_four : D := .tup [.int 4, .tup [.tup [.int 1, .int 2, .int 3, .int 0]]]
abbrev d_klein : D := .tup [.int 4, .tup [.tup [.int 1, .int 0, .int 3, .int 2], .tup [.int 2, .int 3, .int 0, .int 1]]]
abbrev d_prime : D := .tup [.int 5, .tup [.tup [.int 1, .int 2, .int 3, .int 4, .int 0]]]
abbrev d_still : D := .tup [.int 3, .tup [.tup [.int 0, .int 1, .int 2]]]
abbrev d_six : D := .tup [.int 6, .tup [.tup [.int 1, .int 2, .int 3, .int 4, .int 0, .int 5], .tup [.int 5, .int 4, .int 2, .int 3, .int 1, .int 0]]]
def st_0 : C := (cAsg 2 (rDt (mTup (mCons (mC (.int 4)) (mCons (mTup (mCons (mTup (mCons (mC (.int 1)) (mCons (mC (.int 2)) (mCons (mC (.int 3)) (mCons (mC (.int 0)) mNil))))) (mCons (mTup (mCons (mC (.int 0)) (mCons (mC (.int 1)) (mCons (mC (.int 2)) (mCons (mC (.int 0)) mNil))))) mNil))) mNil)))))
theorem S_0 (s0 : SV) (ρ : List D) : st_0 [s0, .row, .un, .un, .un, .un, .un, .un, .un, .un, .un, .un, .un, .un] ρ = some (.nx, [s0, .row, .dat d_far, .un, .un, .un, .un, .un, .un, .un, .un, .un, .un, .un], ρ) := by kernel_rfl
def st_1 : C := (cIf (mOr (mTest (mOp neD (mCall0 (g0 g_reset) (mCons (mVar 2) mNil)) (mTup (mCons (mC (.int 1)) (mCons (mC (.int 0)) (mCons (mC (.int 0)) (mCons (mC (.int 0)) (mCons (mC (.int 1)) (mCons (mC (.int 0)) (mCons (mC (.int 0)) (mCons (mC (.int 0)) (mCons (mC (.int 1)) mNil)))))))))))) (mOr (mTest (mOp neD (mCall0 (g0 g_resets_to) (mCons (mVar 2) mNil)) (mTup (mCons (mC (.int 0)) (mCons (mC (.int 1)) (mCons (mC (.int 2)) (mCons (mC (.int 3)) mNil))))))) (mTest (mOp neD (mCall0 (g0 g_rank) (mCons (mVar 2) mNil)) (mC (.int 1)))))) (cRet (rDt (mC (.bl false)))) cNil)
theorem S_1 (s0 : SV) (ρ : List D) : st_1 [s0, .row, .dat d_far, .un, .un, .un, .un, .un, .un, .un, .un, .un, .un, .un] ρ = some (.nx, [s0, .row, .dat d_far, .un, .un, .un, .un, .un, .un, .un, .un, .un, .un, .un], ρ) := by kernel_rfl
def st_2 : C := (cIf (mTest (mOp neD (mLst (mSz (mCons (mCall0 (g0 g_homing) (mCons (mVar 2) (mCons (mTup (mCons (mC (.int 0)) (mCons (mC (.int 3)) mNil))) mNil))) (mCons (mCall0 (g0 g_meeting) (mCons (mVar 2) (mCons (mC (.int 0)) (mCons (mC (.int 2)) mNil)))) (mCons (mCall0 (g0 g_meeting) (mCons (mVar 2) (mCons (mC (.int 1)) (mCons (mC (.int 1)) mNil)))) mNil))))) (mLst (mSz (mCons (mTup (mCons (mC (.int 1)) mNil)) (mCons (mTup (mCons (mC (.int 0)) (mCons (mC (.int 1)) (mCons (mC (.int 0)) (mCons (mC (.int 0)) (mCons (mC (.int 0)) (mCons (mC (.int 1)) mNil))))))) (mCons (mTup mNil) mNil))))))) (cRet (rDt (mC (.bl false)))) cNil)
theorem S_2 (s0 : SV) (ρ : List D) : st_2 [s0, .row, .dat d_far, .un, .un, .un, .un, .un, .un, .un, .un, .un, .un, .un] ρ = some (.nx, [s0, .row, .dat d_far, .un, .un, .un, .un, .un, .un, .un, .un, .un, .un, .un], ρ) := by kernel_rfl
def st_3 : C := (cAsg 3 (rDt (mTup (mCons (mC (.int 3)) (mCons (mTup (mCons (mTup (mCons (mC (.int 1)) (mCons (mC (.int 0)) (mCons (mC (.int 2)) mNil)))) (mCons (mTup (mCons (mC (.int 0)) (mCons (mC (.int 0)) (mCons (mC (.int 2)) mNil)))) mNil))) mNil)))))
theorem S_3 (s0 : SV) (ρ : List D) : st_3 [s0, .row, .dat d_far, .un, .un, .un, .un, .un, .un, .un, .un, .un, .un, .un] ρ = some (.nx, [s0, .row, .dat d_far, .dat d_three, .un, .un, .un, .un, .un, .un, .un, .un, .un, .un], ρ) := by kernel_rfl
def st_4 : C := (cIf (mOr (mTest (mOp isNotD (mCall0 (g0 g_reset) (mCons (mVar 3) mNil)) (mC .non))) (mOr (mTest (mOp neD (mCall0 (g0 g_rank) (mCons (mVar 3) mNil)) (mC (.int 2)))) (mTest (mOp neD (mCall0 (g0 g_fewest_row) (mCons (mVar 3) mNil)) (mTup (mCons (mC (.int 1)) mNil)))))) (cRet (rDt (mC (.bl false)))) cNil)
theorem S_4 (s0 : SV) (ρ : List D) : st_4 [s0, .row, .dat d_far, .dat d_three, .un, .un, .un, .un, .un, .un, .un, .un, .un, .un] ρ = some (.nx, [s0, .row, .dat d_far, .dat d_three, .un, .un, .un, .un, .un, .un, .un, .un, .un, .un], ρ) := by kernel_rfl
def st_5 : C := (cIf (mTest (mOp neD (mCall0 (g0 g_lots) (mCons (mVar 3) mNil)) (mTup (mCons (mTup (mCons (mC (.int 0)) (mCons (mC (.int 1)) (mCons (mC (.int 2)) mNil)))) (mCons (mTup (mCons (mC (.int 0)) (mCons (mC (.int 2)) mNil))) (mCons (mTup (mCons (mC (.int 1)) (mCons (mC (.int 2)) mNil))) mNil)))))) (cRet (rDt (mC (.bl false)))) cNil)
theorem S_5 (s0 : SV) (ρ : List D) : st_5 [s0, .row, .dat d_far, .dat d_three, .un, .un, .un, .un, .un, .un, .un, .un, .un, .un] ρ = some (.nx, [s0, .row, .dat d_far, .dat d_three, .un, .un, .un, .un, .un, .un, .un, .un, .un, .un], ρ) := by kernel_rfl
def st_6 : C := (cIf (mOr (mTest (mOp neD (mCall0 (g0 g_never_meet) (mCons (mVar 3) mNil)) (mTup (mCons (mTup (mCons (mC (.int 0)) (mCons (mC (.int 2)) mNil))) (mCons (mTup (mCons (mC (.int 1)) (mCons (mC (.int 2)) mNil))) mNil))))) (mOr (mTest (mOp eqD (mOp ixD (mCall0 (g0 g_bar) (mCons (mVar 3) mNil)) (mC (.int 0))) (mTup mNil))) (mTest (mOp isNotD (mCall0 (g0 g_has_reset) (mCons (mVar 3) mNil)) (mC (.bl false)))))) (cRet (rDt (mC (.bl false)))) cNil)
theorem S_6 (s0 : SV) (ρ : List D) : st_6 [s0, .row, .dat d_far, .dat d_three, .un, .un, .un, .un, .un, .un, .un, .un, .un, .un] ρ = some (.nx, [s0, .row, .dat d_far, .dat d_three, .un, .un, .un, .un, .un, .un, .un, .un, .un, .un], ρ) := by kernel_rfl
def st_7 : C := (cIf (mOr (mTest (mOp neD (mCall0 (g0 g_led) (mCons (mVar 3) (mCons (mTup (mCons (mC (.int 0)) (mCons (mC (.int 1)) mNil))) (mCons (mTup (mCons (mC (.int 1)) (mCons (mC (.int 0)) mNil))) mNil)))) (mTup (mCons (mC (.int 1)) mNil)))) (mTest (mOp neD (mCall0 (g0 g_map_of) (mCons (mVar 3) (mCons (mTup (mCons (mC (.int 1)) (mCons (mC (.int 0)) mNil))) mNil))) (mTup (mCons (mC (.int 1)) (mCons (mC (.int 1)) (mCons (mC (.int 2)) mNil))))))) (cRet (rDt (mC (.bl false)))) cNil)
theorem S_7 (s0 : SV) (ρ : List D) : st_7 [s0, .row, .dat d_far, .dat d_three, .un, .un, .un, .un, .un, .un, .un, .un, .un, .un] ρ = some (.nx, [s0, .row, .dat d_far, .dat d_three, .un, .un, .un, .un, .un, .un, .un, .un, .un, .un], ρ) := by kernel_rfl
def st_8 : C := (cUnp (gT 2 (gsCons (gD 4) (gsCons (gD 5) gsNil))) (mTup (mCons (mTup (mCons (mTup (mCons (mC (.int 0)) (mCons (mC (.int 1)) mNil))) (mCons (mTup (mCons (mC (.int 0)) (mCons (mC (.int 3)) mNil))) (mCons (mTup (mCons (mC (.int 1)) (mCons (mC (.int 2)) mNil))) (mCons (mTup (mCons (mC (.int 2)) (mCons (mC (.int 3)) mNil))) mNil))))) (mCons (mTup (mCons (mTup (mCons (mC (.int 0)) (mCons (mC (.int 1)) mNil))) (mCons (mTup (mCons (mC (.int 0)) (mCons (mC (.int 4)) mNil))) (mCons (mTup (mCons (mC (.int 1)) (mCons (mC (.int 2)) mNil))) (mCons (mTup (mCons (mC (.int 2)) (mCons (mC (.int 3)) mNil))) (mCons (mTup (mCons (mC (.int 3)) (mCons (mC (.int 4)) mNil))) mNil)))))) mNil))))
theorem S_8 (s0 : SV) (ρ : List D) : st_8 [s0, .row, .dat d_far, .dat d_three, .un, .un, .un, .un, .un, .un, .un, .un, .un, .un] ρ = some (.nx, [s0, .row, .dat d_far, .dat d_three, .dat d_ring, .dat d_five, .un, .un, .un, .un, .un, .un, .un, .un], ρ) := by kernel_rfl
def st_9 : C := (cAsg 6 (rL (mSz (mCons (mCall0 (g0 g_greatest_clique) (mCons (mC (.int 4)) (mCons (mVar 4) mNil))) (mCons (mCall0 (g0 g_colours) (mCons (mC (.int 4)) (mCons (mVar 4) mNil))) mNil)))))
theorem S_9 (s0 : SV) (ρ : List D) : st_9 [s0, .row, .dat d_far, .dat d_three, .dat d_ring, .dat d_five, .un, .un, .un, .un, .un, .un, .un, .un] ρ = some (.nx, [s0, .row, .dat d_far, .dat d_three, .dat d_ring, .dat d_five, .lst [.tup [.int 0, .int 1], .tup [.int 0, .int 1, .int 0, .int 1]], .un, .un, .un, .un, .un, .un, .un], ρ) := by kernel_rfl
def st_10 : C := (cAsg 6 (rL (mCat (mLv 6) (mSz (mCons (mCall0 (g0 g_least_colours) (mCons (mC (.int 5)) (mCons (mVar 5) mNil))) (mCons (mCall0 (g0 g_is_barring) (mCons (mC (.int 5)) (mCons (mVar 5) mNil))) (mCons (mCall0 (g0 g_is_barring) (mCons (mC (.int 4)) (mCons (mVar 4) mNil))) mNil)))))))
theorem S_10 (s0 : SV) (ρ : List D) : st_10 [s0, .row, .dat d_far, .dat d_three, .dat d_ring, .dat d_five, .lst [.tup [.int 0, .int 1], .tup [.int 0, .int 1, .int 0, .int 1]], .un, .un, .un, .un, .un, .un, .un] ρ = some (.nx, [s0, .row, .dat d_far, .dat d_three, .dat d_ring, .dat d_five, .lst [.tup [.int 0, .int 1], .tup [.int 0, .int 1, .int 0, .int 1], .int 3, .bl false, .bl true], .un, .un, .un, .un, .un, .un, .un], ρ) := by kernel_rfl
def st_11 : C := (cIf (mTest (mOp neD (mVar 6) (mLst (mSz (mCons (mTup (mCons (mC (.int 0)) (mCons (mC (.int 1)) mNil))) (mCons (mTup (mCons (mC (.int 0)) (mCons (mC (.int 1)) (mCons (mC (.int 0)) (mCons (mC (.int 1)) mNil))))) (mCons (mC (.int 3)) (mCons (mC (.bl false)) (mCons (mC (.bl true)) mNil))))))))) (cRet (rDt (mC (.bl false)))) cNil)
theorem S_11 (s0 : SV) (ρ : List D) : st_11 [s0, .row, .dat d_far, .dat d_three, .dat d_ring, .dat d_five, .lst [.tup [.int 0, .int 1], .tup [.int 0, .int 1, .int 0, .int 1], .int 3, .bl false, .bl true], .un, .un, .un, .un, .un, .un, .un] ρ = some (.nx, [s0, .row, .dat d_far, .dat d_three, .dat d_ring, .dat d_five, .lst [.tup [.int 0, .int 1], .tup [.int 0, .int 1, .int 0, .int 1], .int 3, .bl false, .bl true], .un, .un, .un, .un, .un, .un, .un], ρ) := by kernel_rfl
def st_12 : C := (cUnp (gT 2 (gsCons (gD 7) (gsCons (gD 8) gsNil))) (mTup (mCons (mTup (mCons (mC (.int 4)) (mCons (mTup (mCons (mTup (mCons (mC (.int 1)) (mCons (mC (.int 2)) (mCons (mC (.int 3)) (mCons (mC (.int 0)) mNil))))) mNil)) mNil))) (mCons (mTup (mCons (mC (.int 4)) (mCons (mTup (mCons (mTup (mCons (mC (.int 1)) (mCons (mC (.int 0)) (mCons (mC (.int 3)) (mCons (mC (.int 2)) mNil))))) (mCons (mTup (mCons (mC (.int 2)) (mCons (mC (.int 3)) (mCons (mC (.int 0)) (mCons (mC (.int 1)) mNil))))) mNil))) mNil))) mNil))))
theorem S_12 (s0 : SV) (ρ : List D) : st_12 [s0, .row, .dat d_far, .dat d_three, .dat d_ring, .dat d_five, .lst [.tup [.int 0, .int 1], .tup [.int 0, .int 1, .int 0, .int 1], .int 3, .bl false, .bl true], .un, .un, .un, .un, .un, .un, .un] ρ = some (.nx, [s0, .row, .dat d_far, .dat d_three, .dat d_ring, .dat d_five, .lst [.tup [.int 0, .int 1], .tup [.int 0, .int 1, .int 0, .int 1], .int 3, .bl false, .bl true], .dat d_four, .dat d_klein, .un, .un, .un, .un, .un], ρ) := by kernel_rfl
def st_13 : C := (cIf (mOr (mTest (mOp neD (mCall0 (g0 g_pair_lots) (mCons (mVar 7) mNil)) (mTup (mCons (mTup (mCons (mTup (mCons (mC (.int 0)) (mCons (mC (.int 1)) mNil))) (mCons (mTup (mCons (mC (.int 0)) (mCons (mC (.int 3)) mNil))) (mCons (mTup (mCons (mC (.int 1)) (mCons (mC (.int 2)) mNil))) (mCons (mTup (mCons (mC (.int 2)) (mCons (mC (.int 3)) mNil))) mNil))))) (mCons (mTup (mCons (mTup (mCons (mC (.int 0)) (mCons (mC (.int 2)) mNil))) (mCons (mTup (mCons (mC (.int 1)) (mCons (mC (.int 3)) mNil))) mNil))) mNil))))) (mTest (mOp neD (mCall lenD (mCons (mCall0 (g0 g_kept_nets) (mCons (mVar 7) mNil)) mNil)) (mC (.int 4))))) (cRet (rDt (mC (.bl false)))) cNil)
theorem S_13 (s0 : SV) (ρ : List D) : st_13 [s0, .row, .dat d_far, .dat d_three, .dat d_ring, .dat d_five, .lst [.tup [.int 0, .int 1], .tup [.int 0, .int 1, .int 0, .int 1], .int 3, .bl false, .bl true], .dat d_four, .dat d_klein, .un, .un, .un, .un, .un] ρ = some (.nx, [s0, .row, .dat d_far, .dat d_three, .dat d_ring, .dat d_five, .lst [.tup [.int 0, .int 1], .tup [.int 0, .int 1, .int 0, .int 1], .int 3, .bl false, .bl true], .dat d_four, .dat d_klein, .un, .un, .un, .un, .un], ρ) := by kernel_rfl
def st_14 : C := (cIf (mOr (mTest (mOp neD (mCall0 (g0 g_barring_nets) (mCons (mVar 7) mNil)) (mTup (mCons (mVar 4) (mCons (mTup (mCons (mTup (mCons (mC (.int 0)) (mCons (mC (.int 2)) mNil))) (mCons (mTup (mCons (mC (.int 1)) (mCons (mC (.int 3)) mNil))) mNil))) mNil))))) (mTest (mOp neD (mCall lenD (mCons (mCall0 (g0 g_barring_nets) (mCons (mVar 8) mNil)) mNil)) (mC (.int 6))))) (cRet (rDt (mC (.bl false)))) cNil)
theorem S_14 (s0 : SV) (ρ : List D) : st_14 [s0, .row, .dat d_far, .dat d_three, .dat d_ring, .dat d_five, .lst [.tup [.int 0, .int 1], .tup [.int 0, .int 1, .int 0, .int 1], .int 3, .bl false, .bl true], .dat d_four, .dat d_klein, .un, .un, .un, .un, .un] ρ = some (.nx, [s0, .row, .dat d_far, .dat d_three, .dat d_ring, .dat d_five, .lst [.tup [.int 0, .int 1], .tup [.int 0, .int 1, .int 0, .int 1], .int 3, .bl false, .bl true], .dat d_four, .dat d_klein, .un, .un, .un, .un, .un], ρ) := by kernel_rfl
def st_15 : C := (cAsg 9 (rDt (mTup (mCons (mC (.int 5)) (mCons (mTup (mCons (mTup (mCons (mC (.int 1)) (mCons (mC (.int 2)) (mCons (mC (.int 3)) (mCons (mC (.int 4)) (mCons (mC (.int 0)) mNil)))))) mNil)) mNil)))))
theorem S_15 (s0 : SV) (ρ : List D) : st_15 [s0, .row, .dat d_far, .dat d_three, .dat d_ring, .dat d_five, .lst [.tup [.int 0, .int 1], .tup [.int 0, .int 1, .int 0, .int 1], .int 3, .bl false, .bl true], .dat d_four, .dat d_klein, .un, .un, .un, .un, .un] ρ = some (.nx, [s0, .row, .dat d_far, .dat d_three, .dat d_ring, .dat d_five, .lst [.tup [.int 0, .int 1], .tup [.int 0, .int 1, .int 0, .int 1], .int 3, .bl false, .bl true], .dat d_four, .dat d_klein, .dat d_prime, .un, .un, .un, .un], ρ) := by kernel_rfl
def st_16 : C := (cAsg 10 (rL (mSz (mCons (mVar 9) (mCons (mVar 7) (mCons (mVar 8) (mCons (mTup (mCons (mC (.int 4)) (mCons (mTup (mCons (mTup (mCons (mC (.int 1)) (mCons (mC (.int 2)) (mCons (mC (.int 0)) (mCons (mC (.int 3)) mNil))))) (mCons (mTup (mCons (mC (.int 1)) (mCons (mC (.int 0)) (mCons (mC (.int 3)) (mCons (mC (.int 2)) mNil))))) mNil))) mNil))) mNil)))))))
theorem S_16 (s0 : SV) (ρ : List D) : st_16 [s0, .row, .dat d_far, .dat d_three, .dat d_ring, .dat d_five, .lst [.tup [.int 0, .int 1], .tup [.int 0, .int 1, .int 0, .int 1], .int 3, .bl false, .bl true], .dat d_four, .dat d_klein, .dat d_prime, .un, .un, .un, .un] ρ = some (.nx, [s0, .row, .dat d_far, .dat d_three, .dat d_ring, .dat d_five, .lst [.tup [.int 0, .int 1], .tup [.int 0, .int 1, .int 0, .int 1], .int 3, .bl false, .bl true], .dat d_four, .dat d_klein, .dat d_prime, .lst [.tup [.int 5, .tup [.tup [.int 1, .int 2, .int 3, .int 4, .int 0]]], .tup [.int 4, .tup [.tup [.int 1, .int 2, .int 3, .int 0]]], .tup [.int 4, .tup [.tup [.int 1, .int 0, .int 3, .int 2], .tup [.int 2, .int 3, .int 0, .int 1]]], .tup [.int 4, .tup [.tup [.int 1, .int 2, .int 0, .int 3], .tup [.int 1, .int 0, .int 3, .int 2]]]], .un, .un, .un], ρ) := by kernel_rfl
def st_17 : C := (cIf (mTest (mOp neD (mLst (mLc (mSeq (mVar 10)) [13] (gN 13) mYes (mCall0 (g0 g_resets_all) (mCons (mVar 13) mNil)))) (mLst (mSz (mCons (mC (.bl true)) (mCons (mC (.bl false)) (mCons (mC (.bl false)) (mCons (mC (.bl true)) mNil)))))))) (cRet (rDt (mC (.bl false)))) cNil)
theorem S_17 (s0 : SV) (ρ : List D) : st_17 [s0, .row, .dat d_far, .dat d_three, .dat d_ring, .dat d_five, .lst [.tup [.int 0, .int 1], .tup [.int 0, .int 1, .int 0, .int 1], .int 3, .bl false, .bl true], .dat d_four, .dat d_klein, .dat d_prime, .lst [.tup [.int 5, .tup [.tup [.int 1, .int 2, .int 3, .int 4, .int 0]]], .tup [.int 4, .tup [.tup [.int 1, .int 2, .int 3, .int 0]]], .tup [.int 4, .tup [.tup [.int 1, .int 0, .int 3, .int 2], .tup [.int 2, .int 3, .int 0, .int 1]]], .tup [.int 4, .tup [.tup [.int 1, .int 2, .int 0, .int 3], .tup [.int 1, .int 0, .int 3, .int 2]]]], .un, .un, .un] ρ = some (.nx, [s0, .row, .dat d_far, .dat d_three, .dat d_ring, .dat d_five, .lst [.tup [.int 0, .int 1], .tup [.int 0, .int 1, .int 0, .int 1], .int 3, .bl false, .bl true], .dat d_four, .dat d_klein, .dat d_prime, .lst [.tup [.int 5, .tup [.tup [.int 1, .int 2, .int 3, .int 4, .int 0]]], .tup [.int 4, .tup [.tup [.int 1, .int 2, .int 3, .int 0]]], .tup [.int 4, .tup [.tup [.int 1, .int 0, .int 3, .int 2], .tup [.int 2, .int 3, .int 0, .int 1]]], .tup [.int 4, .tup [.tup [.int 1, .int 2, .int 0, .int 3], .tup [.int 1, .int 0, .int 3, .int 2]]]], .un, .un, .un], ρ) := by kernel_rfl
def st_18 : C := (cIf (mTest (mOp neD (mLst (mSz (mCons (mCall0 (g0 g_is_transitive) (mCons (mVar 7) mNil)) (mCons (mCall0 (g0 g_is_pairwise) (mCons (mVar 7) mNil)) (mCons (mCall0 (g0 g_is_primitive) (mCons (mVar 7) mNil)) mNil))))) (mLst (mSz (mCons (mC (.bl true)) (mCons (mC (.bl false)) (mCons (mC (.bl false)) mNil))))))) (cRet (rDt (mC (.bl false)))) cNil)
theorem S_18 (s0 : SV) (ρ : List D) : st_18 [s0, .row, .dat d_far, .dat d_three, .dat d_ring, .dat d_five, .lst [.tup [.int 0, .int 1], .tup [.int 0, .int 1, .int 0, .int 1], .int 3, .bl false, .bl true], .dat d_four, .dat d_klein, .dat d_prime, .lst [.tup [.int 5, .tup [.tup [.int 1, .int 2, .int 3, .int 4, .int 0]]], .tup [.int 4, .tup [.tup [.int 1, .int 2, .int 3, .int 0]]], .tup [.int 4, .tup [.tup [.int 1, .int 0, .int 3, .int 2], .tup [.int 2, .int 3, .int 0, .int 1]]], .tup [.int 4, .tup [.tup [.int 1, .int 2, .int 0, .int 3], .tup [.int 1, .int 0, .int 3, .int 2]]]], .un, .un, .un] ρ = some (.nx, [s0, .row, .dat d_far, .dat d_three, .dat d_ring, .dat d_five, .lst [.tup [.int 0, .int 1], .tup [.int 0, .int 1, .int 0, .int 1], .int 3, .bl false, .bl true], .dat d_four, .dat d_klein, .dat d_prime, .lst [.tup [.int 5, .tup [.tup [.int 1, .int 2, .int 3, .int 4, .int 0]]], .tup [.int 4, .tup [.tup [.int 1, .int 2, .int 3, .int 0]]], .tup [.int 4, .tup [.tup [.int 1, .int 0, .int 3, .int 2], .tup [.int 2, .int 3, .int 0, .int 1]]], .tup [.int 4, .tup [.tup [.int 1, .int 2, .int 0, .int 3], .tup [.int 1, .int 0, .int 3, .int 2]]]], .un, .un, .un], ρ) := by kernel_rfl
def st_19 : C := (cIf (mTest (mOp neD (mLst (mSz (mCons (mCall0 (g0 g_is_primitive) (mCons (mVar 9) mNil)) (mCons (mCall0 (g0 g_is_pairwise) (mCons (mVar 9) mNil)) mNil)))) (mLst (mSz (mCons (mC (.bl true)) (mCons (mC (.bl false)) mNil)))))) (cRet (rDt (mC (.bl false)))) cNil)
theorem S_19 (s0 : SV) (ρ : List D) : st_19 [s0, .row, .dat d_far, .dat d_three, .dat d_ring, .dat d_five, .lst [.tup [.int 0, .int 1], .tup [.int 0, .int 1, .int 0, .int 1], .int 3, .bl false, .bl true], .dat d_four, .dat d_klein, .dat d_prime, .lst [.tup [.int 5, .tup [.tup [.int 1, .int 2, .int 3, .int 4, .int 0]]], .tup [.int 4, .tup [.tup [.int 1, .int 2, .int 3, .int 0]]], .tup [.int 4, .tup [.tup [.int 1, .int 0, .int 3, .int 2], .tup [.int 2, .int 3, .int 0, .int 1]]], .tup [.int 4, .tup [.tup [.int 1, .int 2, .int 0, .int 3], .tup [.int 1, .int 0, .int 3, .int 2]]]], .un, .un, .un] ρ = some (.nx, [s0, .row, .dat d_far, .dat d_three, .dat d_ring, .dat d_five, .lst [.tup [.int 0, .int 1], .tup [.int 0, .int 1, .int 0, .int 1], .int 3, .bl false, .bl true], .dat d_four, .dat d_klein, .dat d_prime, .lst [.tup [.int 5, .tup [.tup [.int 1, .int 2, .int 3, .int 4, .int 0]]], .tup [.int 4, .tup [.tup [.int 1, .int 2, .int 3, .int 0]]], .tup [.int 4, .tup [.tup [.int 1, .int 0, .int 3, .int 2], .tup [.int 2, .int 3, .int 0, .int 1]]], .tup [.int 4, .tup [.tup [.int 1, .int 2, .int 0, .int 3], .tup [.int 1, .int 0, .int 3, .int 2]]]], .un, .un, .un], ρ) := by kernel_rfl
def st_20 : C := (cIf (mTest (mOp neD (mCall0 (g0 g_kept_partings) (mCons (mVar 7) mNil)) (mTup (mCons (mTup (mCons (mTup (mCons (mC (.int 0)) mNil)) (mCons (mTup (mCons (mC (.int 1)) mNil)) (mCons (mTup (mCons (mC (.int 2)) mNil)) (mCons (mTup (mCons (mC (.int 3)) mNil)) mNil))))) (mCons (mTup (mCons (mTup (mCons (mC (.int 0)) (mCons (mC (.int 1)) (mCons (mC (.int 2)) (mCons (mC (.int 3)) mNil))))) mNil)) (mCons (mTup (mCons (mTup (mCons (mC (.int 0)) (mCons (mC (.int 2)) mNil))) (mCons (mTup (mCons (mC (.int 1)) (mCons (mC (.int 3)) mNil))) mNil))) mNil)))))) (cRet (rDt (mC (.bl false)))) cNil)
theorem S_20 (s0 : SV) (ρ : List D) : st_20 [s0, .row, .dat d_far, .dat d_three, .dat d_ring, .dat d_five, .lst [.tup [.int 0, .int 1], .tup [.int 0, .int 1, .int 0, .int 1], .int 3, .bl false, .bl true], .dat d_four, .dat d_klein, .dat d_prime, .lst [.tup [.int 5, .tup [.tup [.int 1, .int 2, .int 3, .int 4, .int 0]]], .tup [.int 4, .tup [.tup [.int 1, .int 2, .int 3, .int 0]]], .tup [.int 4, .tup [.tup [.int 1, .int 0, .int 3, .int 2], .tup [.int 2, .int 3, .int 0, .int 1]]], .tup [.int 4, .tup [.tup [.int 1, .int 2, .int 0, .int 3], .tup [.int 1, .int 0, .int 3, .int 2]]]], .un, .un, .un] ρ = some (.nx, [s0, .row, .dat d_far, .dat d_three, .dat d_ring, .dat d_five, .lst [.tup [.int 0, .int 1], .tup [.int 0, .int 1, .int 0, .int 1], .int 3, .bl false, .bl true], .dat d_four, .dat d_klein, .dat d_prime, .lst [.tup [.int 5, .tup [.tup [.int 1, .int 2, .int 3, .int 4, .int 0]]], .tup [.int 4, .tup [.tup [.int 1, .int 2, .int 3, .int 0]]], .tup [.int 4, .tup [.tup [.int 1, .int 0, .int 3, .int 2], .tup [.int 2, .int 3, .int 0, .int 1]]], .tup [.int 4, .tup [.tup [.int 1, .int 2, .int 0, .int 3], .tup [.int 1, .int 0, .int 3, .int 2]]]], .un, .un, .un], ρ) := by kernel_rfl
def st_21 : C := (cIf (mTest (mOp isNotD (mCall0 (g0 g_section) (mCons (mVar 9) mNil)) (mC .non))) (cRet (rDt (mC (.bl false)))) cNil)
theorem S_21 (s0 : SV) (ρ : List D) : st_21 [s0, .row, .dat d_far, .dat d_three, .dat d_ring, .dat d_five, .lst [.tup [.int 0, .int 1], .tup [.int 0, .int 1, .int 0, .int 1], .int 3, .bl false, .bl true], .dat d_four, .dat d_klein, .dat d_prime, .lst [.tup [.int 5, .tup [.tup [.int 1, .int 2, .int 3, .int 4, .int 0]]], .tup [.int 4, .tup [.tup [.int 1, .int 2, .int 3, .int 0]]], .tup [.int 4, .tup [.tup [.int 1, .int 0, .int 3, .int 2], .tup [.int 2, .int 3, .int 0, .int 1]]], .tup [.int 4, .tup [.tup [.int 1, .int 2, .int 0, .int 3], .tup [.int 1, .int 0, .int 3, .int 2]]]], .un, .un, .un] ρ = some (.nx, [s0, .row, .dat d_far, .dat d_three, .dat d_ring, .dat d_five, .lst [.tup [.int 0, .int 1], .tup [.int 0, .int 1, .int 0, .int 1], .int 3, .bl false, .bl true], .dat d_four, .dat d_klein, .dat d_prime, .lst [.tup [.int 5, .tup [.tup [.int 1, .int 2, .int 3, .int 4, .int 0]]], .tup [.int 4, .tup [.tup [.int 1, .int 2, .int 3, .int 0]]], .tup [.int 4, .tup [.tup [.int 1, .int 0, .int 3, .int 2], .tup [.int 2, .int 3, .int 0, .int 1]]], .tup [.int 4, .tup [.tup [.int 1, .int 2, .int 0, .int 3], .tup [.int 1, .int 0, .int 3, .int 2]]]], .un, .un, .un], ρ) := by kernel_rfl
def st_22 : C := (cAsg 11 (rDt (mTup (mCons (mC (.int 3)) (mCons (mTup (mCons (mTup (mCons (mC (.int 0)) (mCons (mC (.int 1)) (mCons (mC (.int 2)) mNil)))) mNil)) mNil)))))
theorem S_22 (s0 : SV) (ρ : List D) : st_22 [s0, .row, .dat d_far, .dat d_three, .dat d_ring, .dat d_five, .lst [.tup [.int 0, .int 1], .tup [.int 0, .int 1, .int 0, .int 1], .int 3, .bl false, .bl true], .dat d_four, .dat d_klein, .dat d_prime, .lst [.tup [.int 5, .tup [.tup [.int 1, .int 2, .int 3, .int 4, .int 0]]], .tup [.int 4, .tup [.tup [.int 1, .int 2, .int 3, .int 0]]], .tup [.int 4, .tup [.tup [.int 1, .int 0, .int 3, .int 2], .tup [.int 2, .int 3, .int 0, .int 1]]], .tup [.int 4, .tup [.tup [.int 1, .int 2, .int 0, .int 3], .tup [.int 1, .int 0, .int 3, .int 2]]]], .un, .un, .un] ρ = some (.nx, [s0, .row, .dat d_far, .dat d_three, .dat d_ring, .dat d_five, .lst [.tup [.int 0, .int 1], .tup [.int 0, .int 1, .int 0, .int 1], .int 3, .bl false, .bl true], .dat d_four, .dat d_klein, .dat d_prime, .lst [.tup [.int 5, .tup [.tup [.int 1, .int 2, .int 3, .int 4, .int 0]]], .tup [.int 4, .tup [.tup [.int 1, .int 2, .int 3, .int 0]]], .tup [.int 4, .tup [.tup [.int 1, .int 0, .int 3, .int 2], .tup [.int 2, .int 3, .int 0, .int 1]]], .tup [.int 4, .tup [.tup [.int 1, .int 2, .int 0, .int 3], .tup [.int 1, .int 0, .int 3, .int 2]]]], .dat d_still, .un, .un], ρ) := by kernel_rfl
def st_23 : C := (cIf (mTest (mOp neD (mLst (mSz (mCons (mCall0 (g0 g_count_resetting) (mCons (mVar 11) mNil)) (mCons (mCall0 (g0 g_count_resetting) (mCons (mTup (mCons (mC (.int 2)) (mCons (mTup (mCons (mTup (mCons (mC (.int 1)) (mCons (mC (.int 0)) mNil))) mNil)) mNil))) mNil)) (mCons (mCall lenD (mCons (mCall0 (g0 g_resisting_maps) (mCons (mVar 11) mNil)) mNil)) mNil))))) (mLst (mSz (mCons (mC (.int 9)) (mCons (mC (.int 2)) (mCons (mC (.int 12)) mNil))))))) (cRet (rDt (mC (.bl false)))) cNil)
theorem S_23 (s0 : SV) (ρ : List D) : st_23 [s0, .row, .dat d_far, .dat d_three, .dat d_ring, .dat d_five, .lst [.tup [.int 0, .int 1], .tup [.int 0, .int 1, .int 0, .int 1], .int 3, .bl false, .bl true], .dat d_four, .dat d_klein, .dat d_prime, .lst [.tup [.int 5, .tup [.tup [.int 1, .int 2, .int 3, .int 4, .int 0]]], .tup [.int 4, .tup [.tup [.int 1, .int 2, .int 3, .int 0]]], .tup [.int 4, .tup [.tup [.int 1, .int 0, .int 3, .int 2], .tup [.int 2, .int 3, .int 0, .int 1]]], .tup [.int 4, .tup [.tup [.int 1, .int 2, .int 0, .int 3], .tup [.int 1, .int 0, .int 3, .int 2]]]], .dat d_still, .un, .un] ρ = some (.nx, [s0, .row, .dat d_far, .dat d_three, .dat d_ring, .dat d_five, .lst [.tup [.int 0, .int 1], .tup [.int 0, .int 1, .int 0, .int 1], .int 3, .bl false, .bl true], .dat d_four, .dat d_klein, .dat d_prime, .lst [.tup [.int 5, .tup [.tup [.int 1, .int 2, .int 3, .int 4, .int 0]]], .tup [.int 4, .tup [.tup [.int 1, .int 2, .int 3, .int 0]]], .tup [.int 4, .tup [.tup [.int 1, .int 0, .int 3, .int 2], .tup [.int 2, .int 3, .int 0, .int 1]]], .tup [.int 4, .tup [.tup [.int 1, .int 2, .int 0, .int 3], .tup [.int 1, .int 0, .int 3, .int 2]]]], .dat d_still, .un, .un], ρ) := by kernel_rfl
def rA : C := (cRet (rDt (mAndV (mOp isD (mCall0 (g0 g_resets_with) (mCons (mVar 7) (mCons (mTup (mCons (mC (.int 0)) (mCons (mC (.int 0)) (mCons (mC (.int 2)) (mCons (mC (.int 2)) mNil))))) mNil))) (mC (.bl false))) (mOp isD (mCall0 (g0 g_resets_with) (mCons (mVar 7) (mCons (mTup (mCons (mC (.int 0)) (mCons (mC (.int 0)) (mCons (mC (.int 2)) (mCons (mC (.int 3)) mNil))))) mNil))) (mC (.bl true))))))
theorem R_A (s0 : SV) (ρ : List D) : rA [s0, .row, .dat d_far, .dat d_three, .dat d_ring, .dat d_five, .lst [.tup [.int 0, .int 1], .tup [.int 0, .int 1, .int 0, .int 1], .int 3, .bl false, .bl true], .dat d_four, .dat d_klein, .dat d_prime, .lst [.tup [.int 5, .tup [.tup [.int 1, .int 2, .int 3, .int 4, .int 0]]], .tup [.int 4, .tup [.tup [.int 1, .int 2, .int 3, .int 0]]], .tup [.int 4, .tup [.tup [.int 1, .int 0, .int 3, .int 2], .tup [.int 2, .int 3, .int 0, .int 1]]], .tup [.int 4, .tup [.tup [.int 1, .int 2, .int 0, .int 3], .tup [.int 1, .int 0, .int 3, .int 2]]]], .dat d_still, .un, .un] ρ = some (.rt (.bl true), [s0, .row, .dat d_far, .dat d_three, .dat d_ring, .dat d_five, .lst [.tup [.int 0, .int 1], .tup [.int 0, .int 1, .int 0, .int 1], .int 3, .bl false, .bl true], .dat d_four, .dat d_klein, .dat d_prime, .lst [.tup [.int 5, .tup [.tup [.int 1, .int 2, .int 3, .int 4, .int 0]]], .tup [.int 4, .tup [.tup [.int 1, .int 2, .int 3, .int 0]]], .tup [.int 4, .tup [.tup [.int 1, .int 0, .int 3, .int 2], .tup [.int 2, .int 3, .int 0, .int 1]]], .tup [.int 4, .tup [.tup [.int 1, .int 2, .int 0, .int 3], .tup [.int 1, .int 0, .int 3, .int 2]]]], .dat d_still, .un, .un], ρ) := by kernel_rfl
def stL1 : C := (cAsg 12 (rDt (mTup (mCons (mC (.int 6)) (mCons (mTup (mCons (mTup (mCons (mC (.int 1)) (mCons (mC (.int 2)) (mCons (mC (.int 3)) (mCons (mC (.int 4)) (mCons (mC (.int 0)) (mCons (mC (.int 5)) mNil))))))) (mCons (mTup (mCons (mC (.int 5)) (mCons (mC (.int 4)) (mCons (mC (.int 2)) (mCons (mC (.int 3)) (mCons (mC (.int 1)) (mCons (mC (.int 0)) mNil))))))) mNil))) mNil)))))
theorem S_L1 (s0 : SV) (ρ : List D) : stL1 [s0, .row, .dat d_far, .dat d_three, .dat d_ring, .dat d_five, .lst [.tup [.int 0, .int 1], .tup [.int 0, .int 1, .int 0, .int 1], .int 3, .bl false, .bl true], .dat d_four, .dat d_klein, .dat d_prime, .lst [.tup [.int 5, .tup [.tup [.int 1, .int 2, .int 3, .int 4, .int 0]]], .tup [.int 4, .tup [.tup [.int 1, .int 2, .int 3, .int 0]]], .tup [.int 4, .tup [.tup [.int 1, .int 0, .int 3, .int 2], .tup [.int 2, .int 3, .int 0, .int 1]]], .tup [.int 4, .tup [.tup [.int 1, .int 2, .int 0, .int 3], .tup [.int 1, .int 0, .int 3, .int 2]]]], .dat d_still, .un, .un] ρ = some (.nx, [s0, .row, .dat d_far, .dat d_three, .dat d_ring, .dat d_five, .lst [.tup [.int 0, .int 1], .tup [.int 0, .int 1, .int 0, .int 1], .int 3, .bl false, .bl true], .dat d_four, .dat d_klein, .dat d_prime, .lst [.tup [.int 5, .tup [.tup [.int 1, .int 2, .int 3, .int 4, .int 0]]], .tup [.int 4, .tup [.tup [.int 1, .int 2, .int 3, .int 0]]], .tup [.int 4, .tup [.tup [.int 1, .int 0, .int 3, .int 2], .tup [.int 2, .int 3, .int 0, .int 1]]], .tup [.int 4, .tup [.tup [.int 1, .int 2, .int 0, .int 3], .tup [.int 1, .int 0, .int 3, .int 2]]]], .dat d_still, .dat d_six, .un], ρ) := by kernel_rfl
def rB : C := (cRet (rDt (mAndV (mOp eqD (mCall0 (g0 g_resets_all) (mCons (mVar 12) mNil)) (mCall0 (g0 g_is_pairwise) (mCons (mVar 12) mNil))) (mOp isD (mCall0 (g0 g_resets_all) (mCons (mTup (mCons (mC (.int 7)) (mCons (mTup (mCons (mCall0 (g0 g__law_circle) (mCons (mC (.int 7)) (mCons (mC (.int 1)) mNil))) mNil)) mNil))) mNil)) (mC (.bl true))))))
abbrev d_seven : D := .tup [.int 7, .tup [.tup [.int 1, .int 2, .int 3, .int 4, .int 5, .int 6, .int 0]]]
theorem v6a : g_resets_all [d_six] [] = some (.bl true, []) := by kernel_rfl
theorem v6b : g_is_pairwise [d_six] [] = some (.bl true, []) := by kernel_rfl
theorem v7 : g_resets_all [d_seven] [] = some (.bl true, []) := by kernel_rfl
theorem R_B (s0 : SV) (ρ : List D) : rB [s0, .row, .dat d_far, .dat d_three, .dat d_ring, .dat d_five, .lst [.tup [.int 0, .int 1], .tup [.int 0, .int 1, .int 0, .int 1], .int 3, .bl false, .bl true], .dat d_four, .dat d_klein, .dat d_prime, .lst [.tup [.int 5, .tup [.tup [.int 1, .int 2, .int 3, .int 4, .int 0]]], .tup [.int 4, .tup [.tup [.int 1, .int 2, .int 3, .int 0]]], .tup [.int 4, .tup [.tup [.int 1, .int 0, .int 3, .int 2], .tup [.int 2, .int 3, .int 0, .int 1]]], .tup [.int 4, .tup [.tup [.int 1, .int 2, .int 0, .int 3], .tup [.int 1, .int 0, .int 3, .int 2]]]], .dat d_still, .dat d_six, .un] ρ = some (.rt (.bl true), [s0, .row, .dat d_far, .dat d_three, .dat d_ring, .dat d_five, .lst [.tup [.int 0, .int 1], .tup [.int 0, .int 1, .int 0, .int 1], .int 3, .bl false, .bl true], .dat d_four, .dat d_klein, .dat d_prime, .lst [.tup [.int 5, .tup [.tup [.int 1, .int 2, .int 3, .int 4, .int 0]]], .tup [.int 4, .tup [.tup [.int 1, .int 2, .int 3, .int 0]]], .tup [.int 4, .tup [.tup [.int 1, .int 0, .int 3, .int 2], .tup [.int 2, .int 3, .int 0, .int 1]]], .tup [.int 4, .tup [.tup [.int 1, .int 2, .int 0, .int 3], .tup [.int 1, .int 0, .int 3, .int 2]]]], .dat d_still, .dat d_six, .un], ρ) := by
  have a7 : (mCons (mTup (mCons (mC (.int 7)) (mCons (mTup (mCons (mCall0 (g0 g__law_circle) (mCons (mC (.int 7)) (mCons (mC (.int 1)) mNil))) mNil)) mNil))) mNil) [s0, .row, .dat d_far, .dat d_three, .dat d_ring, .dat d_five, .lst [.tup [.int 0, .int 1], .tup [.int 0, .int 1, .int 0, .int 1], .int 3, .bl false, .bl true], .dat d_four, .dat d_klein, .dat d_prime, .lst [.tup [.int 5, .tup [.tup [.int 1, .int 2, .int 3, .int 4, .int 0]]], .tup [.int 4, .tup [.tup [.int 1, .int 2, .int 3, .int 0]]], .tup [.int 4, .tup [.tup [.int 1, .int 0, .int 3, .int 2], .tup [.int 2, .int 3, .int 0, .int 1]]], .tup [.int 4, .tup [.tup [.int 1, .int 2, .int 0, .int 3], .tup [.int 1, .int 0, .int 3, .int 2]]]], .dat d_still, .dat d_six, .un] ρ = some ([d_seven], ρ) := by kernel_rfl
  have h1 : (mOp eqD (mCall0 (g0 g_resets_all) (mCons (mVar 12) mNil)) (mCall0 (g0 g_is_pairwise) (mCons (mVar 12) mNil))) [s0, .row, .dat d_far, .dat d_three, .dat d_ring, .dat d_five, .lst [.tup [.int 0, .int 1], .tup [.int 0, .int 1, .int 0, .int 1], .int 3, .bl false, .bl true], .dat d_four, .dat d_klein, .dat d_prime, .lst [.tup [.int 5, .tup [.tup [.int 1, .int 2, .int 3, .int 4, .int 0]]], .tup [.int 4, .tup [.tup [.int 1, .int 2, .int 3, .int 0]]], .tup [.int 4, .tup [.tup [.int 1, .int 0, .int 3, .int 2], .tup [.int 2, .int 3, .int 0, .int 1]]], .tup [.int 4, .tup [.tup [.int 1, .int 2, .int 0, .int 3], .tup [.int 1, .int 0, .int 3, .int 2]]]], .dat d_still, .dat d_six, .un] ρ = some (.bl true, ρ) := e_op (e_call0 (xs := [d_six]) rfl v6a) (e_call0 (xs := [d_six]) rfl v6b) rfl
  have h2 : (mOp isD (mCall0 (g0 g_resets_all) (mCons (mTup (mCons (mC (.int 7)) (mCons (mTup (mCons (mCall0 (g0 g__law_circle) (mCons (mC (.int 7)) (mCons (mC (.int 1)) mNil))) mNil)) mNil))) mNil)) (mC (.bl true))) [s0, .row, .dat d_far, .dat d_three, .dat d_ring, .dat d_five, .lst [.tup [.int 0, .int 1], .tup [.int 0, .int 1, .int 0, .int 1], .int 3, .bl false, .bl true], .dat d_four, .dat d_klein, .dat d_prime, .lst [.tup [.int 5, .tup [.tup [.int 1, .int 2, .int 3, .int 4, .int 0]]], .tup [.int 4, .tup [.tup [.int 1, .int 2, .int 3, .int 0]]], .tup [.int 4, .tup [.tup [.int 1, .int 0, .int 3, .int 2], .tup [.int 2, .int 3, .int 0, .int 1]]], .tup [.int 4, .tup [.tup [.int 1, .int 2, .int 0, .int 3], .tup [.int 1, .int 0, .int 3, .int 2]]]], .dat d_still, .dat d_six, .un] ρ = some (.bl true, ρ) := e_op (y := .bl true) (e_call0 a7 v7) rfl rfl
  have h3 : mAndV (mOp eqD (mCall0 (g0 g_resets_all) (mCons (mVar 12) mNil)) (mCall0 (g0 g_is_pairwise) (mCons (mVar 12) mNil))) (mOp isD (mCall0 (g0 g_resets_all) (mCons (mTup (mCons (mC (.int 7)) (mCons (mTup (mCons (mCall0 (g0 g__law_circle) (mCons (mC (.int 7)) (mCons (mC (.int 1)) mNil))) mNil)) mNil))) mNil)) (mC (.bl true))) [s0, .row, .dat d_far, .dat d_three, .dat d_ring, .dat d_five, .lst [.tup [.int 0, .int 1], .tup [.int 0, .int 1, .int 0, .int 1], .int 3, .bl false, .bl true], .dat d_four, .dat d_klein, .dat d_prime, .lst [.tup [.int 5, .tup [.tup [.int 1, .int 2, .int 3, .int 4, .int 0]]], .tup [.int 4, .tup [.tup [.int 1, .int 2, .int 3, .int 0]]], .tup [.int 4, .tup [.tup [.int 1, .int 0, .int 3, .int 2], .tup [.int 2, .int 3, .int 0, .int 1]]], .tup [.int 4, .tup [.tup [.int 1, .int 2, .int 0, .int 3], .tup [.int 1, .int 0, .int 3, .int 2]]]], .dat d_still, .dat d_six, .un] ρ = some (.bl true, ρ) := by
    unfold mAndV
    rw [h1, Option.bind_some]
    exact h2
  exact e_ret (e_dat h3 rfl) rfl
theorem law_eq : c_law = (cSeq st_0 (cSeq st_1 (cSeq st_2 (cSeq st_3 (cSeq st_4 (cSeq st_5 (cSeq st_6 (cSeq st_7 (cSeq st_8 (cSeq st_9 (cSeq st_10 (cSeq st_11 (cSeq st_12 (cSeq st_13 (cSeq st_14 (cSeq st_15 (cSeq st_16 (cSeq st_17 (cSeq st_18 (cSeq st_19 (cSeq st_20 (cSeq st_21 (cSeq st_22 (cSeq st_23 (cSeq (cIf (mTest (mOp gtD (mCallR 1 g__law_taken (mCons (mC (.int 12)) mNil)) (mC (.int 0)))) rA cNil) (cSeq stL1 rB)))))))))))))))))))))))))) := rfl
theorem good : ∀ ns : List Int, ns.length ≤ 63 → ∃ env' ρ', c_law (env0 14 ns) (rho0 5513 ns) = some (.rt (.bl true), env', ρ') := by
  intro ns _
  rw [law_eq]
  have e0 : env0 14 ns = [.dat (.lst (ns.map .int)), .row, .un, .un, .un, .un, .un, .un, .un, .un, .un, .un, .un, .un] := rfl
  rw [e0]
  generalize (SV.dat (.lst (ns.map D.int))) = s0
  rw [seq_nx (S_0 s0 _)]
  rw [seq_nx (S_1 s0 _)]
  rw [seq_nx (S_2 s0 _)]
  rw [seq_nx (S_3 s0 _)]
  rw [seq_nx (S_4 s0 _)]
  rw [seq_nx (S_5 s0 _)]
  rw [seq_nx (S_6 s0 _)]
  rw [seq_nx (S_7 s0 _)]
  rw [seq_nx (S_8 s0 _)]
  rw [seq_nx (S_9 s0 _)]
  rw [seq_nx (S_10 s0 _)]
  rw [seq_nx (S_11 s0 _)]
  rw [seq_nx (S_12 s0 _)]
  rw [seq_nx (S_13 s0 _)]
  rw [seq_nx (S_14 s0 _)]
  rw [seq_nx (S_15 s0 _)]
  rw [seq_nx (S_16 s0 _)]
  rw [seq_nx (S_17 s0 _)]
  rw [seq_nx (S_18 s0 _)]
  rw [seq_nx (S_19 s0 _)]
  rw [seq_nx (S_20 s0 _)]
  rw [seq_nx (S_21 s0 _)]
  rw [seq_nx (S_22 s0 _)]
  rw [seq_nx (S_23 s0 _)]
  obtain ⟨t, ρ', hv, h0, h1, _⟩ := v_taken (m := 12) (by omega) (by omega) (row_start 5513 ns)
  have hc : (mOp gtD (mCallR 1 g__law_taken (mCons (mC (.int 12)) mNil)) (mC (.int 0))) [s0, .row, .dat d_far, .dat d_three, .dat d_ring, .dat d_five, .lst [.tup [.int 0, .int 1], .tup [.int 0, .int 1, .int 0, .int 1], .int 3, .bl false, .bl true], .dat d_four, .dat d_klein, .dat d_prime, .lst [.tup [.int 5, .tup [.tup [.int 1, .int 2, .int 3, .int 4, .int 0]]], .tup [.int 4, .tup [.tup [.int 1, .int 2, .int 3, .int 0]]], .tup [.int 4, .tup [.tup [.int 1, .int 0, .int 3, .int 2], .tup [.int 2, .int 3, .int 0, .int 1]]], .tup [.int 4, .tup [.tup [.int 1, .int 2, .int 0, .int 3], .tup [.int 1, .int 0, .int 3, .int 2]]]], .dat d_still, .un, .un] (rho0 5513 ns) = some (.bl (decide (0 < t)), ρ') := by
    simp [gOf, cSeq, cIf, cRet, cNil, cDrop, cAsg, cPar, cUnp, cUnpV, cAug, cMove, rDt, rW, rL, rDi, mOr, mAnd, mTest, mUn, mNot, mVar, mC, mChain, mOp, mCons, mNil, mTup, mSz, mLst, mCall, mCallF, mCallR, mCall0, mIf, mAndV, mOrV, mTru, mSeq, mBind, mB, mRowIx, cRowSet, g0, isiD, isiTD, isiDs, tyD, datOf, D.imm, D.imm.immAll, notD, kit_int_bool, kit_int_int, kit_bool_bool, kit_bool_int, kit_tuple_tuple, kit_tuple_list, kit_list_tuple, kit_list_list, kit_int_tuple, kit_int_list, kit_bool_tuple, kit_bool_list, kit_none_tuple, kit_none_list, kit_int_str, kit_bool_str, kit_none_str, kit_tuple_str, kit_none_int, kit_none_bool, kit_tuple_int, kit_tuple_bool, addD, subD, mulD, leD, gtD, geD, lenD, intD, tupleD, listF, hv, gtD]
  by_cases ht : 0 < t
  · rw [decide_eq_true ht] at hc
    exact ⟨[s0, .row, .dat d_far, .dat d_three, .dat d_ring, .dat d_five, .lst [.tup [.int 0, .int 1], .tup [.int 0, .int 1, .int 0, .int 1], .int 3, .bl false, .bl true], .dat d_four, .dat d_klein, .dat d_prime, .lst [.tup [.int 5, .tup [.tup [.int 1, .int 2, .int 3, .int 4, .int 0]]], .tup [.int 4, .tup [.tup [.int 1, .int 2, .int 3, .int 0]]], .tup [.int 4, .tup [.tup [.int 1, .int 0, .int 3, .int 2], .tup [.int 2, .int 3, .int 0, .int 1]]], .tup [.int 4, .tup [.tup [.int 1, .int 2, .int 0, .int 3], .tup [.int 1, .int 0, .int 3, .int 2]]]], .dat d_still, .un, .un], ρ', seq_rt (if_t hc (R_A s0 ρ'))⟩
  · rw [decide_eq_false ht] at hc
    rw [seq_nx (if_f (a := rA) (b := cNil) hc (nil_nx _ _)), seq_nx (S_L1 s0 ρ')]
    exact ⟨_, _, R_B s0 ρ'⟩
end K13
end

section
theorem K13.holds : PySem.Challenge.rw_resetcalls_k13_known_houses.Holds := K13.holds_of K13.good
end

theorem PySem.Challenge.cw_resetcalls_k13_known_houses_holds : PySem.Challenge.rw_resetcalls_k13_known_houses.Holds :=
  K13.holds
