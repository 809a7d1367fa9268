import PyProof.Rows.All
import Wide.All
import OpenK.AllK
import Wide.FinOn
import PyProof.ReprRoads
import HandS.ForMost
import HandS.Exc
import HandS.ExcOwn
import HandS.ExcInit
import HandS.ExcIs
import HandS.ExcField
import HandS.IsInst
import HandS.Defaults
import HandS.WordsExc
import KE.KExcIs
import HandS.TryOnly
import HandS.HeadHook4
import HandS.ExcValue
import HandS.TupSets
import HandS.Strs
import KE.SortData
import HandS.MakeKw
import HandS.Ends
import HandS.HeadEnd
import PyProof.FitsInt
import PyProof.ReprLen
import HandS.ReplaceLit
import HandS.ReplaceDef
import PyProof.Draws
import PyProof.WalksEnum
import PyProof.EnumMake
import HandS.Walk
import HandS.Style
import HandS.Codes
import HandS.Wide
import HandS.WideBits
import Lean
import HandS.More
import HandS.Head0
import HandS.Head1
import HandS.Head2
import HandS.HeadHook1
import HandS.HeadHook2
import HandS.OwnEq
import PyProof.EqKinds
import PyProof.InstNe
import PyProof.FactsAll.dict
import PyProof.FactsAll.list
import HandS.Comp
import HandS.DictComp
import HandS.Deep
import HandS.SetBool
import HandS.DictTup
import HandS.Conv
import HandS.MakeKwOnly
import PySem.Challenge.RW_hearunlike_k28_whole_plans_behind_one_an
set_option Elab.async false
set_option linter.all false
set_option maxRecDepth 100000
set_option maxHeartbeats 0
/-! Own ground, part A: defs that know that no repr is under way; repr of data. -/
namespace Xa
open PySem PySem.Spec PyProof.Rows L2

/-! ### no repr is under way -/
def NoRep (A : Around) : Prop := A.guards = some []
theorem NoRep.deeper {A : Around} (n : NoRep A) (en : Env) : NoRep (A.deeper en) := n

/-- a def's promise where no repr is under way and nothing leaves it -/
structure FnG (P : Program) (w : World) (K : PySem.W.Frag) (mg : Str → Option Value) (base : Heap) (lev : Nat) (at_ : Addr) (fd : FuncData) (ps : List Str) (pr : Sp) : Prop where
  size : ∀ xs H Q E, pr xs H Q E → xs.length = ps.length
  go : ∀ (A : Around) (out : List Env) (st : Shared) (H : Hp) (ar : Args) (us : List Value) (xs : List V) (Q : VK) (E : XK), Room lev A → NoRep A →
    Env0 P w K mg base A out st H → BindsTo st fd ar (ps.zip us) → Vals xs us → pr xs H Q E → codeAny (model P w) A (.call (.ref at_) ar) (CR CX0 out P w H st Q E) st

section
variable {P : Program} {w : World} {K : PySem.W.Frag} {mg : Str → Option Value} {base : Heap} {x qual : Str} {params : Arguments} {body : List Stmt} {scope : Scope} {dvs : List V} {kws : List (Str × V)} {at_ : Addr} {fd : FuncData}
theorem okG {N ps : List Str} {lev : Nat} {pr : Sp} (F : FunD K x qual params body scope dvs kws at_ fd) (S : FnScope N ps scope) (size : ∀ xs H Q E, pr xs H Q E → xs.length = ps.length)
    (hb : ∀ (cdv : Value) (A : Around) (out : List Env) (st : Shared) (H : Hp) (xs : List V) (Q : VK) (E : XK), Room lev (A.deeper (envOfC qual scope st.heap.objs.size at_ cdv)) → NoRep (A.deeper (envOfC qual scope st.heap.objs.size at_ cdv)) → pr xs H Q E →
      ∃ t, PSs (cxOf CX0 P w K mg base N qual scope at_ cdv A out st H E).nox body t ∧ t { nx := fun _ H' => Q .non H', rt := Q } (start N xs) H) : FnG P w K mg base (lev + 1) at_ fd ps pr := by
  obtain ⟨oc, od, dV, kV, doc, pm, an, cdv, ct, osl, rfl, lk, hcd, _, _⟩ := F.ex
  refine ⟨size, fun A out st H ar us xs Q E hr hn e0 bnd rel hp => ?_⟩
  have sz := size _ _ _ _ hp
  have inK : K.In st.heap := e0.mod.kin.keeps fun b o z => (e0.bs b o z).1
  have noLim : st.heap.NoLimit := e0.mod.nolimit.keeps fun b o z => (e0.bs b o z).1
  refine codeAny_call_function hr.depth (inK _ _ lk) rfl S.co S.gen rfl (PySem.W.codeRec_of inK hcd) (bnd _ _ _ _ ?_)
  refine wpAny_newFunctionEnv_cells S.kind (fun ⟨n, v⟩ hy => ?_) fun env he s1 ic => ?_
  · exact (S.par n (List.of_mem_zip hy).1).elim .inl fun z => .inr ⟨z, PySem.W.cellsFrom_some _ _ _ (.inl z)⟩
  subst he
  refine ⟨noLim.keeps ic.toInCall.keep, codeAny_func ?_⟩
  obtain ⟨t, ht, hq⟩ := hb cdv A out st H xs Q E (hr.deeper _) (hn.deeper _) hp
  have I : Inv (cxOf CX0 P w K mg base N qual scope at_ cdv A out st H E) [] (start N xs) H s1 := inv_start S hr.hd e0 sz rel ic
  refine wpAny_mono (ht.nox.run [] s1 (start N xs) H _ I hq) (fun fl s2 hs => ?_) fun e s2 hs => hs
  cases fl with
  | ret u => exact let ⟨v, _, H', J, rv, q⟩ := hs; ⟨v, H', J.os, J.bare, J.base, J.hok, rv, q⟩
  | next => exact let ⟨_, H', J, q⟩ := hs; ⟨V.non, H', J.os, J.bare, J.base, J.hok, rfl, q⟩
  | brk => exact let ⟨_, _, _, q⟩ := hs; False.elim q
  | cont => exact let ⟨_, _, _, q⟩ := hs; False.elim q
theorem FnG.up {ps : List Str} {i j : Nat} {pr : Sp} (G : FnG P w K mg base i at_ fd ps pr) (h : i ≤ j) : FnG P w K mg base j at_ fd ps pr :=
  ⟨G.size, fun A out st H ar us xs Q E hr => G.go A out st H ar us xs Q E (hr.mono h)⟩
end

section
variable {X : Cx} {lev : Nat} {at_ : Addr} {fd : FuncData} {ps : List Str} {pr : Sp} {x : Str} {p pos : Pos} {e : Expr} {es : List Expr} {ta : TA}
theorem run_G {pins : List (Addr × Obj)} {σ : L2.St} {H : Hp} {st : Shared} {Q : VK} {us : List Value} {xs : List V} (G : FnG X.prog X.w X.K X.mg X.base lev at_ fd ps pr) (hr : Room lev X.A) (hn : NoRep X.A) (hb : Binds X.K fd ps [])
    (I : Inv X pins σ H st) (rel : Vals xs us) (hp : pr xs H Q E0) : wpAny (model X.prog X.w) X.A (call (.ref at_) us) (EP X pins σ Q) X.xe st := by
  have sz : us.length = ps.length := by rw [← rel.length]; exact G.size _ _ _ _ hp
  have bnd := hb st us I.kIn (by rw [List.append_nil]; exact sz)
  rw [List.append_nil] at bnd
  refine wpAny_call (codeAny_mono (G.go X.A X.stack st H ⟨us, []⟩ us xs Q E0 hr hn I.env0 bnd rel hp) fun r s2 hq => ?_)
  cases r with
  | error er => exact False.elim hq
  | ok fl =>
    cases fl with
    | ret u => exact I.after hq
    | next => exact False.elim hq
    | brk => exact False.elim hq
    | cont => exact False.elim hq
/-- f(e, ..) of such a def -/
theorem pe_callG (G : FnG X.prog X.w X.K X.mg X.base lev at_ fd ps pr) (hr : Room lev X.A) (hn : NoRep X.A) (hg : Gl X x) (hm : X.mg x = some (.ref at_)) (kp : PySem.W.keepIn X.K (.ref at_) = true) (hb : Binds X.K fd ps [])
    (ha : PA X (e :: es) ta) (hdb : (x == ("__debug__" : Str)) = false := by decide) (he : starEach (e :: es) X.env = (false, eval e X.env) :: starEach es X.env := by rfl)
    (hpl : (backTo pos (starEach es X.env)).any (·.1) = false := by rfl) : PE X (.Call (.Name x p) (e :: es) [] pos) (tCall pr [] E0 ta) := by
  refine ⟨fun pins st σ H Q I h => wpAny_Call_Name_kw (ld_glob I hg hm ?_ hdb)⟩
  refine PySem.W.callWith_K (h₀ := X.base) I.ok.mod.kin kp (thn (ha.run pos pins st σ H _ I h) fun us s1 ⟨xs, H1, I1, rel, q⟩ => ⟨I1.kIn, ?_⟩) he hpl
  exact run_G G hr hn hb I1 rel (by rw [← List.append_nil xs]; exact q)
theorem pe_callG0 (G : FnG X.prog X.w X.K X.mg X.base lev at_ fd ps pr) (hr : Room lev X.A) (hn : NoRep X.A) (hg : Gl X x) (hm : X.mg x = some (.ref at_)) (kp : PySem.W.keepIn X.K (.ref at_) = true) (hb : Binds X.K fd ps [])
    (hdb : (x == ("__debug__" : Str)) = false := by decide) : PE X (.Call (.Name x p) [] [] pos) (tCall pr [] E0 tNil) := by
  refine ⟨fun pins st σ H Q I h => wpAny_Call_Name_kw (ld_glob I hg hm ?_ hdb)⟩
  exact PySem.W.callWith_K0 I.kIn kp (run_G (us := []) (xs := []) G hr hn hb I .nil h)
end

/-! ### repr of data -/
mutual
/-- v is the datum d, met through the lists at ls: as Dp, and dicts with int and text keys -/
inductive Dq (K : PySem.W.Frag) (H : Hp) : V → PyData → List Addr → Prop
  | non : Dq K H .non .none []
  | bl (b : Bool) : Dq K H (.bl b) (.bool b) []
  | int (i : Int) : Dq K H (.int i) (.int i) []
  | str (z : Str) : Dq K H (.str z) (.str z) []
  | lst {a : Addr} {xs : List V} {ds : List PyData} {ls : List Addr} : SqL K H a xs → Dqs K H xs ds ls → Dq K H (.ref a) (.list ds) (a :: ls)
  | tup {a : Addr} {xs : List V} {ds : List PyData} {ls : List Addr} : SqT K H a xs → Dqs K H xs ds ls → Dq K H (.ref a) (.tuple ds) ls
  | dic {a : Addr} {kvs : List (Key × V)} {ds : List (PyData × PyData)} {l1 l2 : List Addr} : H a = some (.dK kvs) → Dqs K H (kvs.map fun p => kV p.1) (ds.map (·.1)) l1 → Dqs K H (kvs.map (·.2)) (ds.map (·.2)) l2 → Dq K H (.ref a) (.dict ds) (l1 ++ l2)
inductive Dqs (K : PySem.W.Frag) (H : Hp) : List V → List PyData → List Addr → Prop
  | nil : Dqs K H [] [] []
  | cons {v : V} {vs : List V} {d : PyData} {ds : List PyData} {l1 l2 : List Addr} : Dq K H v d l1 → Dqs K H vs ds l2 → Dqs K H (v :: vs) (d :: ds) (l1 ++ l2)
end
theorem kv_vals : ∀ {kvs : List (Key × V)} {us : List (Key × Value)} {P : Program} {w : World} {es : List DictEntry}, KV kvs us → Pairs (mixKind P w) es us → Vals (kvs.map (·.2)) (es.map (·.val)) ∧ Vals (kvs.map fun p => kV p.1) (es.map (·.key))
  | [], _, _, _, _, .nil, .nil => ⟨.nil, .nil⟩
  | (k, v) :: r, _, _, _, _, .cons (b := (k', u)) h t, .cons (e := e) he hv q => by
    obtain ⟨r1, r2⟩ := kv_vals t q
    obtain ⟨e1, e2⟩ := h
    have e1' : k = k' := e1
    subst e1'
    refine ⟨.cons (show RelV v e.val from by rw [hv]; exact e2) r1, .cons ?_ r2⟩
    rcases keyIs_shape (show keyIs k e.key = true from he) with ⟨i, t, rfl, z⟩ | ⟨x, t, rfl, z⟩
    · exact ⟨t, z⟩
    · exact ⟨t, z⟩
section
variable {X : Cx} {pins : List (Addr × Obj)} {σ : L2.St} {H : Hp} {st : Shared}
/-- what stands behind such a datum, as the library reads it -/
def Sees (h : Heap) (u : Value) (d : PyData) (ls : List Addr) : Prop := ∃ as, Reads h u d as ∧ ∀ a ∈ as, a ∈ ls ∨ (a == sysModules) = false
def SeesAll (h : Heap) (us : List Value) (ds : List PyData) (ls : List Addr) : Prop := ∃ as, ReadsAll h us ds as ∧ ∀ a ∈ as, a ∈ ls ∨ (a == sysModules) = false
mutual
theorem Dq.sees (I : Inv X pins σ H st) : ∀ (v : V) (d : PyData) (ls : List Addr) (u : Value), Dq X.K H v d ls → RelV v u → Sees st.heap u d ls
  | _, _, _, _, .non, r => by
    cases r
    exact ⟨_, .none, fun _ z => nomatch z⟩
  | _, _, _, _, .bl b, r => by
    cases r
    exact ⟨_, .bool b, fun _ z => nomatch z⟩
  | _, _, _, _, .int i, r => by
    obtain ⟨t, rfl⟩ := r
    exact ⟨_, .int i t, fun _ z => nomatch z⟩
  | _, _, _, _, .str z, r => by
    obtain ⟨t, rfl⟩ := r
    exact ⟨_, .str z t, fun _ z => nomatch z⟩
  | _, _, _, _, .lst (a := a) hq hs, r => by
    obtain rfl := (show _ = Value.ref a from r)
    obtain ⟨its, rv, ⟨o, n, ho, hc, _, hd⟩, _⟩ := I.list hq
    obtain ⟨as, ra, ha⟩ := Dqs.sees I _ _ _ _ hs rv
    exact ⟨_, .list ho hc hd ra, fun b hb => (List.mem_cons.mp hb).elim (fun z => .inl (z ▸ List.mem_cons_self)) fun z => (ha b z).imp (List.mem_cons_of_mem _) id⟩
  | _, _, _, _, .tup (a := a) hq hs, r => by
    obtain rfl := (show _ = Value.ref a from r)
    obtain ⟨its, rv, ⟨o, ho, hc, n, hd⟩, _⟩ := I.tuple hq
    obtain ⟨as, ra, ha⟩ := Dqs.sees I _ _ _ _ hs rv
    exact ⟨_, .tuple ho hc hd ra, ha⟩
  | _, _, _, _, .dic (a := a) (kvs := kvs) ha hk hv, r => by
    obtain rfl := (show _ = Value.ref a from r)
    obtain ⟨_, hm, us, kv, o, es, ep, ho, hx, hd, _, hp, _⟩ := (show ObjOk X.prog X.w H st.heap a (.dK kvs) from I.hok a _ ha)
    obtain ⟨rv, rk⟩ := kv_vals kv hp
    obtain ⟨as, r1, h1⟩ := Dqs.sees I _ _ _ _ hk rk
    obtain ⟨bs, r2, h2⟩ := Dqs.sees I _ _ _ _ hv rv
    refine ⟨_, .dict ho hx.1 hd r1 r2, fun b hb => ?_⟩
    rcases List.mem_append.mp hb with hb | hb
    · rcases List.mem_cons.mp hb with rfl | hb
      · exact .inr hm
      · exact (h1 b hb).imp (List.mem_append_left _) id
    · exact (h2 b hb).imp (List.mem_append_right _) id
theorem Dqs.sees (I : Inv X pins σ H st) : ∀ (vs : List V) (ds : List PyData) (ls : List Addr) (us : List Value), Dqs X.K H vs ds ls → Vals vs us → SeesAll st.heap us ds ls
  | _, _, _, _, .nil, .nil => ⟨_, .nil, fun _ z => nomatch z⟩
  | _, _, _, _, .cons h t, .cons r rs => by
    obtain ⟨as, r1, h1⟩ := Dq.sees I _ _ _ _ h r
    obtain ⟨bs, r2, h2⟩ := Dqs.sees I _ _ _ _ t rs
    refine ⟨_, .cons r1 r2, fun b hb => ?_⟩
    rcases List.mem_append.mp hb with hb | hb
    · exact (h1 b hb).imp (List.mem_append_left _) id
    · exact (h2 b hb).imp (List.mem_append_right _) id
end
end
section
variable {X : Cx}
/-- repr(v), v a datum -/
def rRepr (K : PySem.W.Frag) : List V → Hp → VK → Prop := fun xs H Q => ∃ (v : V) (d : PyData) (ls : List Addr), xs = [v] ∧ Dq K H v d ls ∧ (d.hasDict = true → sysModules ∉ ls) ∧ d.showable = true ∧ d.depth ≤ 60 ∧ d.shown.length ≤ sizeLine ∧ Q (.str d.shown) H
theorem call_repr (hn : NoRep X.A) (hu : X.A.units + 64 < cLine) : CallR X (.builtin "repr") (rRepr X.K) := by
  intro pins st σ H xs us Q I r h
  obtain ⟨v, d, ls, rfl, hd, hs, sh, dp, sz, q⟩ := h
  obtain ⟨u, rfl, ru⟩ := vals1 r
  obtain ⟨as, rd, ha⟩ := Dq.sees I v d ls u hd ru
  have no : d.hasDict = true → sysModules ∉ as := fun z hm => by
    rcases ha _ hm with k | k
    · exact hs z k
    · exact absurd (beq_self_eq_true sysModules) (by rw [k]; exact Bool.false_ne_true)
  have fin : ∀ {tk tk2 : Nat} {h' : Heap}, (∀ b o, st.heap.get? b = some o → h'.get? b = some o) → EP X pins σ Q (.str d.shown tk) { st with heap := h', toks := tk2 } := fun k => ⟨.str _, H, I.kept k, ⟨_, rfl⟩, q⟩
  cases hd with
  | non =>
    obtain rfl := (show u = Value.none from ru)
    exact PySem.P.repr_of_none (fin (h' := st.heap) fun _ _ z => z)
  | bl b =>
    obtain rfl := (show u = Value.bool b from ru)
    exact PySem.P.repr_of_bool (fin (h' := st.heap) fun _ _ z => z)
  | int i =>
    obtain ⟨t, rfl⟩ := (show ∃ t, u = Value.int i t from ru)
    exact PySem.P.repr_of_int (of_decide_eq_true sh) (fin (h' := st.heap) fun _ _ z => z)
  | str z =>
    obtain ⟨t, rfl⟩ := (show ∃ t, u = Value.str z t from ru)
    exact PySem.P.repr_of_str (fin (h' := st.heap) fun _ _ z => z) sz
  | lst hq hx =>
    obtain rfl := (show u = Value.ref _ from ru)
    exact repr_of_reads' rd sh no hn (by omega) (fun _ _ z => z) (fun h' _ _ k => fin k) sz
  | tup hq hx =>
    obtain rfl := (show u = Value.ref _ from ru)
    exact repr_of_reads' rd sh no hn (by omega) (fun _ _ z => z) (fun h' _ _ k => fin k) sz
  | dic hq hk hv =>
    obtain rfl := (show u = Value.ref _ from ru)
    exact repr_of_reads' rd sh no hn (by omega) (fun _ _ z => z) (fun h' _ _ k => fin k) sz
end
end Xa
/-! Own ground, part B: exceptions of own classes over an own WatchError: made, raised, caught and kept, their field, isinstance. -/
namespace Xb
open PySem PySem.Spec PyProof.Rows L2 Xa

/-! ### what the text says of a class -/
/-- C is such a class: its instances' field is called f -/
structure XCls (K : PySem.W.Frag) (C : Addr) (f : Str) : Prop where
  oex : OexC K C
  xf : XfC K C
  isx : ExcC K C
  nof : PySem.W.findIn K (.ref C) f = some none
def ocB (K : PySem.W.Frag) (C : Addr) : Bool := match K.lookup C with
  | some ⟨.type "type", _, .cls ⟨_, _, .ref C2 :: bm, _, _, true, _, _, _, _, false⟩, ⟨[_, _, _, _, some (.builtin n), _]⟩⟩ => C2 == C && (n == "ValueError.__new__" && HandSPX.refsVE bm)
  | _ => false
theorem ocB_ok {K : PySem.W.Frag} {C : Addr} (h : ocB K C = true) : ∃ nm q N bs bm sn sub ab col dd k0 k1 k2 k3 k5, K.lookup C = some (excClassObj nm q C N bs bm true sn sub ab col dd k0 k1 k2 k3 k5 "ValueError.__new__") ∧ HandSPX.refsVE bm = true := by
  unfold ocB at h
  split at h
  · rename_i e
    obtain ⟨h1, h2⟩ := He.ba h
    obtain ⟨h3, h4⟩ := He.ba h2
    have e1 := beq_iff_eq.mp h1
    have e2 := beq_iff_eq.mp h3
    subst e1 e2
    exact ⟨_, _, _, _, _, _, _, _, _, _, _, _, _, _, _, e, h4⟩
  · cases h
def vEq (a b : Option (Option Value)) : Bool := decide (a = b)
def xclsB (K : PySem.W.Frag) (C : Addr) (f : Str) : Bool := ocB K C && (He.eqO (PySem.W.findIn K (.ref C) "__setattr__") (some (some (.builtin "object.__setattr__"))) && (decide (PySem.W.subIn K (.ref C) (.type "BaseException") = some true) &&
  (decide (PySem.W.typeIn K (.ref C) = some (.type "type")) && (PySem.W.keepIn K (.ref C) && (xfB K C && (He.eqO (PySem.W.findIn K (.ref C) "__class__") (some (some (.builtin "object.__class__"))) &&
  (He.eqO (PySem.W.specialIn K (.builtin "object.__class__") "__get__") (some (some (.builtin "getset_descriptor.__get__"))) && (decide (PySem.W.takesIn K (.builtin "object.__class__") = some true) && (decide (PySem.W.mroIn K C (.type "object") = some true) &&
  He.eqO (PySem.W.findIn K (.ref C) f) (some none))))))))))
theorem xcls_ok {K : PySem.W.Frag} {C : Addr} {f : Str} (h : xclsB K C f = true) : XCls K C f := by
  obtain ⟨h1, h⟩ := He.ba h
  obtain ⟨h2, h⟩ := He.ba h
  obtain ⟨h3, h⟩ := He.ba h
  obtain ⟨h4, h⟩ := He.ba h
  obtain ⟨h5, h⟩ := He.ba h
  obtain ⟨h6, h⟩ := He.ba h
  obtain ⟨h7, h⟩ := He.ba h
  obtain ⟨h8, h⟩ := He.ba h
  obtain ⟨h9, h⟩ := He.ba h
  obtain ⟨h10, h11⟩ := He.ba h
  have x := xfB_ok h6
  exact ⟨⟨ocB_ok h1, He.eqO_ok h2, of_decide_eq_true h3, of_decide_eq_true h4, h5⟩, x, ⟨x.ga, x.gg, x.exC, x.hdC, He.eqO_ok h7, He.eqO_ok h8, of_decide_eq_true h9, of_decide_eq_true h10⟩, He.eqO_ok h11⟩

/-! ### an exception as a tracked thing -/
/-- at a: an exception of the class at C, its own dict at d -/
def xob (a C d : Addr) : HO := .ext fun h => ∃ (oe : Obj) (vs : Array Value), h.get? a = some oe ∧ oe.cls = .ref C ∧ oe.dict = some d ∧ oe.data = .fields vs
theorem xob_ok {P : Program} {w : World} {H : Hp} {h : Heap} {a C d : Addr} {oe : Obj} (e : h.get? a = some oe) (c : oe.cls = .ref C) (hd : oe.dict = some d) (hf : ∃ vs, oe.data = .fields vs) : ObjOk P w H h a (xob a C d) := by
  obtain ⟨vs, hf⟩ := hf
  exact ⟨⟨oe, vs, e, c, hd, hf⟩, ⟨oe, e⟩, fun _ _ z k => let ⟨o, v, q, r⟩ := z; ⟨o, v, k o q, r⟩⟩
section
variable {X : Cx} {pins : List (Addr × Obj)} {σ : L2.St} {H : Hp} {st : Shared}
theorem xob_inst {a C d : Addr} {fs : List (Str × V)} (I : Inv X pins σ H st) (ha : H a = some (xob a C d)) (hd : H d = some (.xd fs)) :
    ∃ (ox od : Obj) (mA : Str → Option Value), PySem.W.InstAt st.heap a ox C (some od) ∧ (∀ n, PySem.W.lookIn n od = some (mA n)) ∧ ∀ n, RelO (fs.lookup n) (mA n) := by
  obtain ⟨⟨oe, vs, e, c, ed, ef⟩, _⟩ := (show ObjOk X.prog X.w H st.heap a (xob a C d) from I.hok a _ ha)
  obtain ⟨mA, hns, hr⟩ := (show ObjOk X.prog X.w H st.heap d (.xd fs) from I.hok d _ hd)
  obtain ⟨od, ho, hl⟩ := lookIn_ns hns
  exact ⟨oe, od, mA, ⟨e, c, by unfold PySem.W.notCls; rw [ef] <;> rfl, by rw [ed]; exact ho⟩, hl, hr⟩
end
/-- e.f, an exception's field -/
def tXv (K : PySem.W.Frag) (f : Str) (te : TE) : TE := fun σ H Q => te σ H fun x H1 => ∃ (a C d : Addr) (fs : List (Str × V)) (v : V), x = .ref a ∧ H1 a = some (xob a C d) ∧ H1 d = some (.xd fs) ∧ XCls K C f ∧ fs.lookup f = some v ∧ Q v H1
/-- isinstance(e, c), e such an exception -/
def rIsx (K : PySem.W.Frag) : List V → Hp → VK → Prop := fun xs H Q => ∃ (a C d : Addr) (fs : List (Str × V)) (c : V) (cv : Value) (b : Bool), xs = [.ref a, c] ∧ H a = some (xob a C d) ∧ H d = some (.xd fs) ∧ ExcC K C ∧ ClsV c cv ∧ PySem.W.kitOne K (.ref C) cv = some b ∧ Q (.bl b) H
section
variable {X : Cx} {e : Expr} {te : TE} {pos : Pos} {f : Str}
theorem pe_xv (he : PE X e te) (hb : attributeBase e f X.env (eval e X.env) = eval e X.env := by rfl) : PE X (.Attribute e f pos) (tXv X.K f te) := by
  refine ⟨fun pins st σ H Q I h => attr_of hb (thn (he.run pins st σ H _ I h) fun u s1 ⟨x, H1, I1, rx, a, C, d, fs, v, ex, ea, ed, T, l, q⟩ => ?_)⟩
  subst ex
  obtain rfl : u = Value.ref a := rx
  obtain ⟨ox, od, mA, J, hl, hr⟩ := xob_inst I1 ea ed
  obtain ⟨u, hu, ru⟩ := RelO.some_of (v := v) (o := mA f) (by rw [← l]; exact hr f)
  exact HandSPX.exc_get I1.kIn J T.xf.ga T.xf.gg T.xf.exC (PySem.W.findObj_own T.xf.hdC T.nof rfl (by rw [hl, hu])) (handed_of ru) ⟨v, H1, I1.tok _, ru, q⟩
theorem call_isx : CallR X (.builtin "isinstance") (rIsx X.K) := by
  intro pins st σ H xs us Q I r h
  obtain ⟨a, C, d, fs, c, cv, b, rfl, ha, hd, T, k, e, q⟩ := h
  obtain ⟨u1, u2, rfl, r1, r2⟩ := vals2 r
  have e2 := k.eq r2
  subst e2
  obtain rfl := (show u1 = Value.ref a from r1)
  obtain ⟨ox, od, mA, J, _, _⟩ := xob_inst I ha hd
  have hc : (PySem.W.clsIn X.K C).isSome = true := by
    obtain ⟨cd, hcd, _⟩ := PySem.W.any_some T.hd
    rw [hcd]
    rfl
  exact PySem.W.kia_one (PySem.W.kitx_exc hc T.hg T.hk T.hs T.ha T.hn T.ht T.hm) I.kIn J e (fun z => nomatch z) fun tk => ⟨.bl b, H, I.tok tk, rfl, q⟩
end

/-! ### WatchError.__init__(self, ..), within the __init__ of a class over it -/
structure WBase (K : PySem.W.Frag) (mg : Str → Option Value) (wn : Str) : Prop where
  ex : ∃ (W : Addr) (mc : Value), mg wn = some (.ref W) ∧ PySem.W.readsIn K W mc = true ∧ PySem.W.specialIn K (.ref W) "__getattribute__" = some (some (.builtin "type.__getattribute__")) ∧
    PySem.W.findCls K (.ref W) mc "__init__" = some (.val (.builtin "ValueError.__init__"))
section
variable {X : Cx} {e : Expr} {es : List Expr} {ta : TA} {wn : Str} {p1 p2 pos : Pos}
theorem pe_winit {pl : Sem Bool} (hg : Gl X wn) (T : WBase X.K X.mg wn) (ha : PA X (e :: es) ta) (hdb : (wn == ("__debug__" : Str)) = false := by decide)
    (hc : eval (.Call (.Attribute (.Name wn p1) "__init__" p2) (e :: es) [] pos) X.env = (do
      let ov ← eval (.Name wn p1) X.env
      standAt p2.atName
      let (g, fst) ← holding [ov] (getMethod ov "__init__" pl)
      callWith pos g fst (backTo pos (starEach (e :: es) X.env)) (backToKw pos (keywordEach [] X.env))) := by rfl)
    (he : starEach (e :: es) X.env = (false, eval e X.env) :: starEach es X.env := by rfl) (hpl : (backTo pos (starEach es X.env)).any (·.1) = false := by rfl) :
    PE X (.Call (.Attribute (.Name wn p1) "__init__" p2) (e :: es) [] pos) (tVeI X.K ta) := by
  obtain ⟨W, mc, gW, rd, ga, fc⟩ := T.ex
  refine ⟨fun pins st σ H Q I h => PySem.W.methodCall_KW (ld_glob I hg gW ?_ hdb) hc⟩
  refine PySem.W.method_cls I.kIn ga (PySem.W.cls_value I.kIn rd fc rfl ?_)
  show wpAny _ _ (callWith pos (Value.builtin "ValueError.__init__") [] (backTo pos (starEach (e :: es) X.env)) []) _ _ _
  refine PyProof.Rows.callWith_method1 (thn (ha.run pos pins _ σ H _ (I.tok _) h) fun us s1 ⟨xs, H1, I1, rel, a, C, ws, ev, hl, Tc, ea, q⟩ => ?_) he hpl
  subst ev
  cases rel with
  | @cons _ u0 _ ur ra rw' =>
    obtain rfl : u0 = Value.ref a := ra
    have hlen : ur.length ≤ sizeLine := by
      rw [← Paired.length rw', sizeLine_eq]
      omega
    exact oinit_ok Tc I1 ea hlen fun s2 J => ⟨.non, H1, J, rfl, q⟩
end
end Xb
/-! Own ground, part C: such exceptions raised, caught and kept. -/
namespace Xc
open PySem PySem.Spec PyProof.Rows L2 Xa Xb

/-- a reading closed under weaker wishes -/
def tUp (te : TE) : TE := fun σ H Q => ∃ Q0 : VK, te σ H Q0 ∧ ∀ v H1, Q0 v H1 → Q v H1
theorem pe_up {X : Cx} {e : Expr} {te : TE} (he : PE X e te) : PE X e (tUp te) :=
  ⟨fun pins st σ H Q I ⟨Q0, h, k⟩ => thn (he.run pins st σ H Q0 I h) fun _ _ ⟨v, H1, I1, r, q⟩ => ⟨v, H1, I1, r, k v H1 q⟩⟩

/-! ### __init__ -/
/-- what __init__ of such a class promises -/
def spXi (C : Addr) (f : Str) : Sp := fun xs H Q _ => ∃ (a : Addr) (v : V), xs = [.ref a, v] ∧ H a = some (exo a C none) ∧ ∀ dx, H dx = none → dx ≠ a → Q .non (upd (upd H dx (exd dx [(f, v)])) a (exo a C (some dx)))
def xiBody (msg f : Str) (k : Nat) (p1 p2 p3 p4 p5 p6 p7 p8 p9 p10 : Pos) : List Stmt :=
  [.Expr (.Call (.Attribute (.Name "WatchError" p1) "__init__" p2) [.Name "self" p3, .Constant (.str msg) k p4] [] p5) p6, .Assign [.Attribute (.Name "self" p7) f p8] (.Name f p9) p10]
/-- how the call of WatchError.__init__ is run there (rfl at each class) -/
def XiRun (qual : Str) (scope : Scope) (msg : Str) (k : Nat) (p1 p2 p3 p4 p5 : Pos) : Prop := ∀ (n g : Addr) (cdv : Value), ∃ pl : Sem Bool,
  eval (.Call (.Attribute (.Name "WatchError" p1) "__init__" p2) [.Name "self" p3, .Constant (.str msg) k p4] [] p5) (envOfC qual scope n g cdv) = (do
    let ov ← eval (.Name "WatchError" p1) (envOfC qual scope n g cdv)
    standAt p2.atName
    let (m, fst) ← holding [ov] (getMethod ov "__init__" pl)
    callWith p5 m fst (backTo p5 (starEach [.Name "self" p3, .Constant (.str msg) k p4] (envOfC qual scope n g cdv))) (backToKw p5 (keywordEach [] (envOfC qual scope n g cdv))))
theorem ok_xi {P : Program} {w : World} {K : PySem.W.Frag} {mg : Str → Option Value} {base : Heap} {C fI : Addr} {fd : FuncData} {qual msg f : Str} {params : Arguments} {scope : Scope} {dvs : List V} {k : Nat} {p1 p2 p3 p4 p5 p6 p7 p8 p9 p10 : Pos}
    (F : FunD K "__init__" qual params (xiBody msg f k p1 p2 p3 p4 p5 p6 p7 p8 p9 p10) scope dvs [] fI fd) (S : FnScope ["self", f] ["self", f] scope) (T : XCls K C f) (B : WBase K mg "WatchError")
    (hs : scope.names.lookup ("self" : Str) = some .local) (hf : scope.names.lookup f = some .local) (hw : scope.names.lookup ("WatchError" : Str) = some .globalImplicit) (run : XiRun qual scope msg k p1 p2 p3 p4 p5) (f1 : (f == ("__debug__" : Str)) = false) (f2 : (f == ("__classdict__" : Str)) = false) :
    FnOk P w K mg base CX0 1 fI fd ["self", f] (spXi C f) := by
  refine F.ok S (fun xs H Q E h => ?_) (fun cdv A outer s H vs Q E hr h => ?_)
  · obtain ⟨a, v, rfl, _⟩ := h
    rfl
  · obtain ⟨a, v, rfl, ha, q⟩ := h
    obtain ⟨pl, hc⟩ := run s.heap.objs.size fI cdv
    refine ⟨_, PSs.nox (pss_cons (ps_expr (pe_winit (pl := pl) hw B (pa_cons (pe_var (i := 0) rfl (.inl hs)) (pa_cons pe_str pa_nil)) (by decide) hc)) (pss_one (ps_ost (pe_var (i := 0) rfl (.inl hs)) (pe_var (i := 1) rfl (.inl hf) f1 f2)))), ?_⟩
    refine ⟨_, rfl, a, C, [.str msg], rfl, (by show 1 ≤ 1000; decide), T.oex, ha, ?_⟩
    exact ⟨_, rfl, _, rfl, a, C, rfl, T.oex, T.nof, .inl ⟨ha, fun dx n ne => q dx n ne⟩⟩

/-! ### raise C(e) -/
/-- the class is known by the name x, its __init__ stands at fI -/
structure XMake (P : Program) (w : World) (K : PySem.W.Frag) (mg : Str → Option Value) (base : Heap) (x : Str) (C : Addr) (f : Str) : Prop where
  cls : XCls K C f
  glo : mg x = some (.ref C)
  ini : ∃ (fI : Addr) (fd : FuncData), PySem.W.findIn K (.ref C) "__init__" = some (some (.ref fI)) ∧ PySem.W.typeIn K (.ref fI) = some (.type "function") ∧ FnOk P w K mg base CX0 1 fI fd ["self", f] (spXi C f) ∧ Binds K fd ["self", f] []
def tRz (C : Addr) (f : Str) (W : WX) (te : TE) : TS := fun _ σ H => te σ H fun v H1 => ∀ d, H1 d = none → W (.ref C) (some d) σ (upd H1 d (.xd [(f, v)]))
theorem new_heap {H : Hp} {a C d : Addr} {f : Str} {v : V} (ha : H a = none) (hd : d ≠ a) :
    upd (del (upd (upd (upd H a (exo a C none)) d (exd d [(f, v)])) a (exo a C (some d))) a) d (.xd [(f, v)]) = upd H d (.xd [(f, v)]) := by
  funext b
  by_cases h1 : b = d
  · rw [h1, upd_same, upd_same]
  · rw [upd_ne h1, upd_ne h1]
    by_cases h2 : b = a
    · rw [h2, del_same, ha]
    · rw [del_ne h2, upd_ne h2, upd_ne h1, upd_ne h2]
theorem ps_rz {X : Cx} {x f : Str} {C : Addr} {W : WX} {e : Expr} {te : TE} {p pos pos2 : Pos} (hc : X.calm = true) (M : XMake X.prog X.w X.K X.mg X.base x C f) (hr : Room 2 X.A) (tk : Takes X W) (hg : Gl X x) (he : PE X e te)
    (hdb : (x == ("__debug__" : Str)) = false := by decide) (hst : starEach [e] X.env = (false, eval e X.env) :: starEach [] X.env := by rfl) (hpl : (backTo pos (starEach [] X.env)).any (·.1) = false := by rfl) :
    PS X (.Raise (some (.Call (.Name x p) [e] [] pos)) none pos2) (tRz C f W te) := by
  obtain ⟨fI, fd, i1, i2, F, b⟩ := M.ini
  have R := ps_raise (pos := pos2) hc tk (pmk_oex (p := p) (pos := pos) (k := 1) M.cls.oex i1 i2 F hr b .nil pass0 hg M.glo (pa_cons (pe_up he) pa_nil hst) hdb hst hpl)
  refine ⟨fun pins st σ H D I h => R.run pins st σ H D I ⟨_, h, fun v H1 q => ⟨(by show 1 ≤ 1000; decide), fun a na => ⟨a, v, rfl, upd_same, fun dx ndx ne => ⟨rfl, dx, [(f, v)], upd_same, ?_, ?_, ?_⟩⟩⟩⟩⟩
  · rw [upd_ne ne, upd_same]
  · rw [upd_ne ne] at ndx
    exact ndx
  · rw [new_heap na ne]
    rw [upd_ne ne] at ndx
    exact q dx ndx
end Xc
/-! Own ground, part D: try: body / except X as n: c = n, the exception kept and tracked. -/
namespace Xd
open PySem PySem.Spec PyProof.Rows L2 Xa Xb Xc

section
variable {X : Cx} {pins : List (Addr × Obj)} {σ : L2.St} {H : Hp} {st : Shared} {a C d : Addr} {oe : Obj}
/-- a pinned exception, new since the entry, is tracked from here on -/
theorem track (I : Inv X ((a, oe) :: pins) σ H st) (n0 : X.s_0.heap.get? a = none) (np : ∀ p ∈ X.pn ++ pins, p.1 ≠ a) (hc : oe.cls = .ref C) (hd : oe.dict = some d) (hf : ∃ vs, oe.data = .fields vs) : Inv X pins σ (upd H a (xob a C d)) st := by
  obtain ⟨ha, hn, hL, hF, hcell⟩ := I.pin (a, oe) (List.mem_append_right _ List.mem_cons_self)
  have n1 : ∀ b o, X.s_0.heap.get? b = some o → b ≠ a := fun b o z q => by rw [q, n0] at z; cases z
  refine ⟨I.ok, I.os, I.bare, ⟨I.base.keep, I.base.slot, fun b o z n hx => ?_, I.base.there, fun b xs z => ?_, fun b o u z => ?_, fun b ps z => ?_⟩, I.loc, I.cell, ?_, fun x c z => ?_, fun p hp => ?_, ?_, I.len⟩
  · rw [upd_ne (n1 b o z)]
    exact I.base.free b o z n hx
  · have q := I.base.tups b xs z
    rw [upd_ne (ne_of_none q hn)]
    exact q
  · have q := I.base.frzs b o u z
    rw [upd_ne (ne_of_none q hn)]
    exact q
  · obtain ⟨m, q⟩ := I.base.tbls b ps z
    exact ⟨m, by rw [upd_ne (ne_of_none q hn)]; exact q⟩
  · rw [upd_ne (Ne.symm hL)]
    exact I.free
  · have q : c ≠ a := fun e => by
      obtain ⟨v, o, ho, hv⟩ := I.cell x c z
      rw [e, ha] at ho
      exact hcell v (by rw [Option.some.inj ho]; exact hv)
    rw [upd_ne q]
    exact I.freeC x c z
  · have q : p ∈ X.pn ++ (a, oe) :: pins := by
      rcases List.mem_append.mp hp with z | z
      · exact List.mem_append_left _ z
      · exact List.mem_append_right _ (List.mem_cons_of_mem _ z)
    obtain ⟨k1, k2, k3⟩ := I.pin p q
    exact ⟨k1, by rw [upd_ne (np p hp)]; exact k2, k3⟩
  · exact I.hok.laidN (fun _ _ z => z) hn (xob_ok ha hc hd hf)
end

/-- what the clause wishes of an exception of the body: n stands in slot i, c in slot j -/
def wKeep (K : PySem.W.Frag) (cv : Value) (i j : Nat) (D : Ends) : WX := fun cls d σ H => ∃ C dx : Addr, cls = .ref C ∧ d = some dx ∧ PySem.W.exmOne K cls cv = some true ∧ ∀ a, H a = none → D.nx (((σ.set i (some (.ref a))).set j (some (.ref a))).set i none) (upd H a (xob a C dx))
section
variable {X : Cx} {x n : Str} {cv : Value} {i j : Nat} {body : List Stmt} {keep : Stmt} {np hp pos : Pos} {tb : WX → TS}
theorem ps_keep (hs : X.stack = X.env :: X.outer) (hf : X.env.frame = some X.env.locals) (hex : X.ex = []) (nd : X.N.Nodup) (hi : X.N[i]? = some n) (hln : X.env.kindOf n = some .local) (hlen : i < X.N.length) (hc : Names X x cv)
    (hb : ∀ (W : WX) (pn : List (Addr × Obj)) (xe : Value → Shared → Prop), Takes (X.tr pn xe) W → PassesOwn (model X.prog X.w) X.A X.env xe → PSs (X.tr pn xe) body (tb W))
    (hk : ∀ (a : Addr) (pn : List (Addr × Obj)), PSs (X.suite a pn) [keep] (tAsg (tVar i) (gName j))) :
    PS X (.Try body [.ExceptHandler (some (.Name x np)) (some n) [keep] hp] [] [] pos) (fun D σ H => tb (wKeep X.K cv i j D) D σ H) := by
  refine ⟨fun pins st σ H D I h => ?_⟩
  have ok := I.ok
  have frm : X.A.frames = some (X.env :: X.outer) := by rw [ok.frames, hs]
  refine wpAny_Try_except ?_
  refine wpAny_mono ((hb (wKeep X.K cv i j D) (X.pn ++ pins) (fun u t1 => wpAny (model X.prog X.w) X.A (noteFrame u X.env) (fun _ t2 => wpAny (model X.prog X.w) X.A (setFlight u none) (fun _ t3 =>
    wpAny (model X.prog X.w) X.A (handleBy u X.env [.ExceptHandler (some (.Name x np)) (some n) [keep] hp]) (SP X pins D) X.xe t3) X.xe t2) X.xe t1) (fun u s2 air => ?_) PassesOwn.looking).run [] st σ H D (I.toTry _) h) (fun fl s1 sp => ?_) (fun _ _ z => z)
  · obtain ⟨a, B, sI, pins2, σ2, H2, cls, d, rfl, J0, nb, up, sky, na, os, ag, C, dx, ec, ed, em, go⟩ := air
    subst ec ed
    have J : Inv X pins σ2 H2 sI := J0.ofTry ok
    have sky2 : Sky B (X.env :: X.outer) a (Zc (.ref C) (some dx)) X.env.locals s2.heap := by rw [← hs]; exact sky
    show wpAny (model X.prog X.w) X.A (noteFrame (.ref a) X.env) _ _ _
    refine Sky.land Zc.steady frm hf sky2 fun h3 fl3 up3 => ?_
    have J3 : Inv X pins σ2 H2 { s2 with heap := h3 } := J.landed nb fl3.1 (up.trans up3) os ag
    obtain ⟨o3, v3, g3, z3, d3⟩ := fl3.there
    have off : a ∉ frs (X.env :: X.outer) := fun hm => by
      obtain ⟨_, o', e', hnf⟩ := fl3.2.2.1.mem hm
      rw [g3] at e'
      cases e'
      exact hnf _ d3
    have nL : a ≠ X.env.locals := fun z => off (List.mem_filterMap.mpr ⟨X.env, List.mem_cons_self, by rw [hf, z]⟩)
    have nF : a ∉ X.fs := fun hm => by
      obtain ⟨e, he, q⟩ := List.mem_filterMap.mp hm
      exact off (List.mem_filterMap.mpr ⟨e, List.mem_cons_of_mem _ he, q⟩)
    have offS : ∀ b, b ≠ X.env.locals → b ∉ X.fs → b ∉ frs X.stack := fun b h1 h2 hm => (List.mem_cons.mp (J.stkSub b hm)).elim h1 h2
    have inB : ∀ b o, b ≠ X.env.locals → b ∉ X.fs → sI.heap.get? b = some o → b ≠ a := fun b o h1 h2 z q => by
      have y := nb b o z (offS b h1 h2)
      rw [q, fl3.2.1] at y
      cases y
    have n0 : X.s_0.heap.get? a = none := by
      cases z : X.s_0.heap.get? a with
      | none => rfl
      | some o =>
        obtain ⟨o', y⟩ := J.base.there a o z (by rw [hex]; exact fun k => nomatch k)
        exact absurd rfl (inB a o' nL nF y)
    have npin : ∀ p ∈ X.pn ++ pins, p.1 ≠ a := fun p hp => by
      obtain ⟨k1, _, k3, k4, _⟩ := J.pin p hp
      exact inB p.1 p.2 k3 k4 k1
    have S3 := J3.suite g3 d3 na nL nF
    refine wpAny_handleBy_cons (codeAny_handlers_test ?_) (by intro q; cases q)
    have LT : PySem.W.Looks (model X.prog X.w) h3 (typeOf (.ref a)) (.ref C) := fun _ _ _ _ k q => wpAny_typeOf_ref (k _ _ g3) (by rw [z3.1]; exact q)
    have LM := PySem.W.exm_one (M := model X.prog X.w) (J3.kIn) LT em
    have named : ∀ {Q : Value → Shared → Prop} {E : Value → Shared → Prop}, Q cv { s2 with heap := h3 } → wpAny (model X.prog X.w) (X.A.mark (some (.ref a))) (eval (.Name x np) X.env) Q E { s2 with heap := h3 } := fun {Q E} q => by
      obtain ⟨hg, hdbg, hm | ⟨hm, hv, hnn⟩⟩ := hc
      · exact ld_glob (X := X.suite a ((a, o3) :: (X.pn ++ pins))) S3 hg hm q hdbg
      · exact ld_blt (X := X.suite a ((a, o3) :: (X.pn ++ pins))) S3 hg hm hv q hnn hdbg
    refine named (LM.here ?_)
    refine codeAny_handlers_suite_as ?_
    refine HandSPX.lands_againZ fl3 fun h4 fl4 up4 => ?_
    have J4 : Inv X pins σ2 H2 { s2 with heap := h4 } := J.landed nb fl4.1 ((up.trans up3).trans up4) os ag
    obtain ⟨o4, v4, g4, z4, d4⟩ := fl4.there
    have S4 := J4.suite g4 d4 na nL nF
    refine store_ok (X := X.suite a ((a, o4) :: (X.pn ++ pins))) (v := .ref a) S4 nd hi (.inl hln) rfl (fun s5 S5 => ?_) (.inr hln)
    have hl5 : i < σ2.length := by rw [J.len]; exact hlen
    refine wpAny_mono ((hk a ((a, o4) :: (X.pn ++ pins))).run [] s5 _ H2 { nx := fun σ6 H6 => σ6 = (σ2.set i (some (.ref a))).set j (some (.ref a)) ∧ H6 = H2, rt := fun _ _ => False } S5
      ⟨.ref a, by rw [List.getElem?_set_self hl5], rfl, rfl⟩) (fun fl s6 sp6 => ?_) (fun _ _ z => False.elim z)
    cases fl with
    | next =>
      obtain ⟨σ6, H6, S6, e1, e2⟩ := sp6
      subst e1 e2
      have P6 : Inv X ((a, o4) :: pins) _ H6 s6 := ⟨ok, S6.os, S6.bare, S6.base, S6.loc, S6.cell, S6.free, S6.freeC, fun p hp => S6.pin p (by
        rw [List.append_nil]
        rcases List.mem_append.mp hp with z | z
        · exact List.mem_cons_of_mem _ (List.mem_append_left _ z)
        · rcases List.mem_cons.mp z with z | z
          · rw [z]
            exact List.mem_cons_self
          · exact List.mem_cons_of_mem _ (List.mem_append_right _ z)), S6.hok, S6.len⟩
      exact gone_ok P6 nd hi hln fun s7 J7 => ⟨_, _, track J7 n0 npin z4.1 z4.2 ⟨_, d4⟩, go a na⟩
    | brk => exact let ⟨_, _, _, q⟩ := sp6; False.elim q
    | cont => exact let ⟨_, _, _, q⟩ := sp6; False.elim q
    | ret u => exact let ⟨_, _, _, _, _, q⟩ := sp6; False.elim q
  · cases fl with
    | next => exact let ⟨σ2, H2, J2, q⟩ := sp; wpAny_execs_nil ⟨σ2, H2, J2.ofTry ok, q⟩
    | brk => exact let ⟨σ2, H2, J2, q⟩ := sp; ⟨σ2, H2, J2.ofTry ok, q⟩
    | cont => exact let ⟨σ2, H2, J2, q⟩ := sp; ⟨σ2, H2, J2.ofTry ok, q⟩
    | ret u => exact let ⟨v, σ2, H2, J2, r, q⟩ := sp; ⟨v, σ2, H2, J2.ofTry ok, r, q⟩
end
end Xd
/-! Own ground, part S: sets of tuples of ints that grow: set(), add, in. -/
namespace Xs
open PySem PySem.Spec PyProof.Rows L2 Xa Xb Xc

section
variable {P : Program} {w : World} {A : Around} {E : Value → Shared → Prop} {s : Shared} {a : Addr} {L : List (Addr × List Int)} {es : Array (Int × Value)} {ep : Nat} {t : SetTable}
/-- the c-th place that is looked at -/
abbrev prb (t : SetTable) (h : Int) (c : Nat) : SetTable.Probe := nth t.mask (runAt t.mask (SetTable.bits h % (t.mask + 1)) (SetTable.bits h)) c
theorem prb_clean (t : SetTable) (h : Int) (c : Nat) : (prb t h c).dummy = none := by
  have go : ∀ (n : Nat) (p : SetTable.Probe), p.dummy = none → (nth t.mask p n).dummy = none := fun n => by
    induction n with
    | zero => exact fun _ z => z
    | succ n ih =>
      refine fun p z => ih (adv t.mask p) ?_
      unfold adv
      split <;> exact z
  exact go c _ rfl
theorem prb_on (t : SetTable) (h : Int) (c q : Nat) : nth t.mask (prb t h c) q = prb t h (c + q) := (nth_add t.mask c _ q).symm
/-- what is looked for stands (or doesn't) among the tuples of L: the search of in -/
theorem seek (R : SetTR P w s.heap a L es ep t) {x : Addr} {k : List Int} (hx : IsT P w s.heap k x) (hu : A.units < cLine) {z : Nat} (z1 : z < 10 * SetTable.turns t.mask) (z2 : way t.mask (thash P w k) z ∉ t.place.toList)
    (z3 : ∀ c, c < z → way t.mask (thash P w k) c ∈ t.place.toList) {Q : SetFound → Shared → Prop} (yes : ∀ i, k ∈ L.map (·.2) → Q (.there (some i)) s) (no : k ∉ L.map (·.2) → Q (.free (way t.mask (thash P w k) z) false) s) :
    ∀ (f c : Nat) (at_ : Option SetTable.Probe), at_.getD (t.probeStart (thash P w k)) = prb t (thash P w k) c → c ≤ z → z - c < f →
      (∀ (i : Nat) p, L[i]? = some p → p.2 = k → ∃ c', c ≤ c' ∧ c' < z ∧ t.place.toList[i]? = some (way t.mask (thash P w k) c')) →
      wpAny (model P w) A (setSearchFrom a (.ref x) (thash P w k) false f at_) Q E s := by
  obtain ⟨o, ho, _, hd⟩ := R.ob
  intro f
  induction f with
  | zero => exact fun c _ _ _ hf => absurd hf (Nat.not_lt_zero _)
  | succ f ih =>
    intro c at_ hat hc hf ahead
    rw [setSearchFrom_succ]
    refine wpAny_bind (wpAny_setState_of ho hd R.fits ?_)
    dsimp only
    refine wp_if_neg R.gw ?_
    try refine wpAny_bind (wpAny_pure ?_)
    have go := go_spec t R.tab.ris R.tab.dm (fun i => (es[i]?.map (·.1)).getD 0) (thash P w k) (10 * SetTable.turns t.mask) (z - c) _ (prb_clean t (thash P w k) c) (by omega)
      (fun q hq => by rw [prb_on]; exact z3 (c + q) (by omega)) (by rw [prb_on, show c + (z - c) = z by omega]; exact z2)
    have hash_of : ∀ (i : Nat) p, L[i]? = some p → (es[i]?.map (·.1)).getD 0 = thash P w p.2 := fun i p hp => by rw [R.entry hp] <;> rfl
    rcases go with ⟨q, i, hq, hi, hh, before, met⟩ | ⟨before, met⟩
    · rw [hat, show t.probe _ (thash P w k) (prb t (thash P w k) c) = _ from met]
      dsimp only
      rw [prb_on] at hi
      have hil : i < L.length := by
        have y1 := (List.getElem?_eq_some_iff.mp hi).1
        have y2 := R.tab.sz
        rw [List.length_map] at y2
        rw [Array.length_toList] at y1
        omega
      obtain ⟨p, hp⟩ : ∃ p, L[i]? = some p := ⟨_, List.getElem?_eq_getElem hil⟩
      have pin := List.mem_of_getElem? hp
      have live : t.slot (way t.mask (thash P w k) (c + q)) = .live i := slot_live R.tab.ris hi
      have behind : wpAny (model P w) A (searchRest a (.ref x) (thash P w k) false f es t (way t.mask (thash P w k) (c + q)) i (prb t (thash P w k) (c + (q + 1)))) Q E s := by
        unfold searchRest
        rw [R.entry hp]
        dsimp only
        refine wpAny_bind (wpAny_holding (wpAny_eqBool_tuple hu (R.tup p pin) hx ?_))
        refine wpAny_bind (wpAny_setState_of ho hd R.fits ?_)
        dsimp only
        refine wp_if_neg (by simp) ?_
        try refine wpAny_bind (wpAny_pure ?_)
        rw [sameMem]
        dsimp only
        simp only [if_true, live, R.entry hp]
        refine wpAny_bind (wpAny_isSame_ref_self (wpAny_bind (wpAny_pure ?_)))
        simp only [if_true]
        by_cases e : p.2 = k
        · refine wp_if_pos (by simp [e]) (wpAny_pure (yes i (List.mem_map.mpr ⟨p, pin, e⟩)))
        · refine wp_if_neg (by simp [e]) (ih (c + (q + 1)) _ rfl (by omega) (by omega) fun j r hj hr => ?_)
          obtain ⟨c', y1, y2, y3⟩ := ahead j r hj hr
          refine ⟨c', ?_, y2, y3⟩
          rcases Nat.lt_trichotomy c' (c + q) with y | y | y
          · exact absurd ((hash_of j r hj).trans (congrArg (thash P w) hr)) (before (c' - c) j (by omega) (by rw [prb_on, show c + (c' - c) = c' by omega]; exact y3))
          · rw [y] at y3
            have l2 := slot_live R.tab.ris y3
            rw [live] at l2
            injection l2 with l2
            rw [← l2, hp] at hj
            exact absurd ((congrArg Prod.snd (Option.some.inj hj)).trans hr) e
          · omega
      have nxt : nth t.mask (prb t (thash P w k) c) (q + 1) = prb t (thash P w k) (c + (q + 1)) := prb_on ..
      have plc : (nth t.mask (prb t (thash P w k) c) q).j = way t.mask (thash P w k) (c + q) := congrArg SetTable.Probe.j (prb_on t (thash P w k) c q)
      rw [nxt, plc]
      by_cases led : t.led = true
      · refine wp_if_neg (by simp [led]) ?_
        try refine wpAny_bind (wpAny_pure ?_)
        exact behind
      · refine wp_if_pos (by simp [led]) (wpAny_bind (seen_tup hx (fun y hy => ?_) (wp_if_neg (by decide) ?_)))
        · obtain ⟨e, he, rfl⟩ := List.mem_map.mp hy
          have e1 : e ∈ es.toList := by
            have e2 : e ∈ es ∧ e.1 = thash P w k := by simpa using he
            simpa using e2.1
          rw [R.rows] at e1
          obtain ⟨p2, hp2, rfl⟩ := List.mem_map.mp e1
          exact ⟨p2.2, p2.1, rfl, R.tup p2 hp2⟩
        · try refine wpAny_bind (wpAny_pure ?_)
          exact behind
    · have plc : (nth t.mask (prb t (thash P w k) c) (z - c)).j = way t.mask (thash P w k) z := by
        rw [prb_on, show c + (z - c) = z by omega]
      rw [hat, show t.probe _ (thash P w k) (prb t (thash P w k) c) = _ from met]
      dsimp only
      rw [plc]
      refine wpAny_pure (no fun hm => ?_)
      obtain ⟨p, hp, hk⟩ := List.mem_map.mp hm
      obtain ⟨i, hi, rfl⟩ := List.getElem_of_mem hp
      have hi2 := List.getElem?_eq_getElem hi
      obtain ⟨c', y1, y2, y3⟩ := ahead i _ hi2 hk
      exact before (c' - c) i (by omega) (by rw [prb_on, show c + (c' - c) = c' by omega]; exact y3) ((hash_of i _ hi2).trans (congrArg (thash P w) hk))
theorem seek_all (R : SetTR P w s.heap a L es ep t) {x : Addr} {k : List Int} (hx : IsT P w s.heap k x) (hu : A.units < cLine) {Q : Option Nat → Shared → Prop} (h : ∀ r, r.isSome = decide (k ∈ L.map (·.2)) → Q r s) :
    wpAny (model P w) A (setFind a (.ref x) (thash P w k)) Q E s := by
  obtain ⟨o, ho, _, hd⟩ := R.ob
  have room := R.room
  obtain ⟨z, z1, z2, z3⟩ := R.tab.first (by rw [List.length_map]; omega) (thash P w k)
  have zb : z < 100000 := by
    have : 10 * SetTable.turns t.mask ≤ 1420 := by
      unfold SetTable.turns
      rcases R.tab.mok with e | e | e <;> omega
    omega
  unfold setFind
  rw [show (100000 : Nat) = 99999 + 1 from rfl]
  unfold setFindIn
  refine wpAny_bind (wpAny_setState_of ho hd R.fits ?_)
  dsimp only
  refine wp_if_neg (by simp [byScan, Value.scannable]) ?_
  try refine wpAny_bind (wpAny_pure ?_)
  unfold setSearch
  refine wpAny_bind (seek R hx hu z1 z2 z3 (fun i m => ?_) (fun m => ?_) 100000 0 none rfl (Nat.zero_le _) (by omega) fun i p hp hk => ?_)
  · dsimp only
    exact wpAny_pure (h (some i) (by rw [decide_eq_true m] <;> rfl))
  · dsimp only
    exact wpAny_pure (h none (by rw [decide_eq_false m] <;> rfl))
  · have y1 : (L.map fun p => thash P w p.2)[i]? = some (thash P w k) := by rw [List.getElem?_map, hp, ← hk] <;> rfl
    have y2 : i < t.place.toList.length := by
      have e1 := (List.getElem?_eq_some_iff.mp hp).1
      have e2 := R.tab.sz
      rw [List.length_map] at e2
      rw [Array.length_toList]
      omega
    have y3 := List.getElem?_eq_getElem y2
    obtain ⟨c, hc, e⟩ := R.tab.before z2 y1 y3
    exact ⟨c, Nat.zero_le _, hc, by rw [y3, e]⟩
/-- x in a -/
theorem in_tups (R : SetTR P w s.heap a L es ep t) {x : Addr} {k : List Int} (hx : IsT P w s.heap k x) (hu : A.units + 8 < cLine) {Q : Value → Shared → Prop} (h : ∀ tk, Q (.bool (decide (k ∈ L.map (·.2)))) { s with toks := tk }) :
    wpAny (model P w) A (compareOp .In (.ref x) (.ref a)) Q E s := by
  obtain ⟨o, ho, hex, hd⟩ := R.ob
  have hT : s.TypeIs (.ref a) "set" := ⟨o, ho, hex.1⟩
  show wpAny _ _ (contains (.ref a) (.ref x) >>= fun b => pure (.bool b)) Q E s
  refine wpAny_bind ?_
  unfold contains
  try with_reducible refine wpAny_holding ?_
  refine wpAny_bind (wpAny_specialOf hT F.slot_set_contains.lookup ?_)
  show wpAny _ _ (if (some (Value.builtin "set.__contains__") == some Value.none) = true then _ else _) _ E s
  rw [if_neg (by rw [beq_builtin_none]; exact Bool.false_ne_true)]
  refine wpAny_bind (wpAny_callSpecialUnlessNone?_slot (name := Str.ofString "__contains__") hT F.slot_set_contains (wpAny_call_entry F.slot_set_contains hT entry_set_contains ?_ (F.args_set_contains_2 _ _)))
  unfold Builtin.«frozenset.__contains__» Builtin.Frozenset.oneOther
  simp only [List.isEmpty_nil, bind_assoc]
  unfold Builtin.Frozenset.addrOf Builtin.Frozenset.withSetAsKey setContains
  refine wpAny_bind (wpAny_pure ?_)
  try dsimp only
  refine wpAny_bind (wpAny_pure ?_)
  try dsimp only
  refine wpAny_bind (wpAny_tryCatch ?_)
  refine wpAny_holding ?_
  refine wpAny_bind (wpAny_pyHash_tuple ?_ hx ?_)
  · show A.units + 1 < cLine
    omega
  refine wpAny_bind ?_
  refine seek_all (s := { s with toks := s.toks + (k.length + 1) }) R hx ?_ fun r hr => ?_
  · show A.units + 1 < cLine
    omega
  refine wpAny_pure ?_
  show wpAny _ _ (ret (Value.bool r.isSome)) _ _ _
  rw [hr]
  exact wpAny_pure ⟨_, rfl, wpAny_truthy_bool (wpAny_pure (h _))⟩
/-- a.add(x) -/
theorem add_tups (R : SetTR P w s.heap a L es ep t) {x : Addr} {k : List Int} (hx : IsT P w s.heap k x) (hu : A.units + 8 < cLine) (few : L.length + 1 < 64) {Q : Value → Shared → Prop}
    (h : ∀ h' tk L' es' ep' t', Heap.SameBut a s.heap h' → SetTR P w h' a L' es' ep' t' → (k ∈ L.map (·.2) → L' = L) → (k ∉ L.map (·.2) → L'.Perm ((x, k) :: L)) → Q .none { s with heap := h', toks := tk }) :
    wpAny (model P w) A (call (.builtin "set.add") [.ref a, .ref x]) Q E s := by
  obtain ⟨o, ho, hex, hd⟩ := R.ob
  have hT : s.TypeIs (.ref a) "set" := ⟨o, ho, hex.1⟩
  refine wpAny_call_entry F.slot_set_add hT F.entry_set_add ?_ (F.args_set_add_2 _ _)
  unfold Builtin.«set.add» Builtin.Frozenset.oneOther
  simp only [List.isEmpty_nil, bind_assoc]
  unfold Builtin.Frozenset.addrOf setAdd
  refine wpAny_bind (wpAny_pure ?_)
  try dsimp only
  refine wpAny_bind (wpAny_pure ?_)
  try dsimp only
  refine wpAny_bind (wpAny_holding ?_)
  refine wpAny_bind (wpAny_pyHash_tuple ?_ hx ?_)
  · show A.units + 1 < cLine
    omega
  refine add_at (s := { s with toks := s.toks + (k.length + 1) }) R hx ?_ few fun b h' L' es' ep' t' sb R' i1 i2 => ?_
  · show A.units + 1 < cLine
    omega
  show wpAny _ _ (ret Value.none) _ _ _
  exact wpAny_pure ⟨_, rfl, h h' _ L' es' ep' t' sb R' i1 i2⟩
end

/-! ### rules -/
section
variable {X : Cx}
theorem setTO_full {pins : List (Addr × Obj)} {σ : L2.St} {H : Hp} {s : Shared} {a : Addr} {L : List (Addr × List Int)} (I : Inv X pins σ H s) (ha : H a = some (SetTO X.prog X.w a L)) (hl : ∀ p ∈ L, SqT X.K H p.1 (p.2.map V.int)) :
    ∃ es ep t, SetTR X.prog X.w s.heap a L es ep t := ((show ObjOk X.prog X.w H s.heap a (SetTO X.prog X.w a L) from I.hok a _ ha).1).full fun p hp => I.isT (hl p hp)
/-- set() -/
def rSetT0 (P : Program) (w : World) : List V → Hp → VK → Prop := fun xs H Q => xs = [] ∧ ∀ p, H p = none → Q (.ref p) (upd H p (SetTO P w p []))
theorem cr_setT0 : CallR X (.type "set") (rSetT0 X.prog X.w) := by
  intro pins s σ H xs us Q I r h
  obtain ⟨rfl, q⟩ := h
  cases r
  refine setR_new fun _ => ?_
  refine ⟨.ref _, upd H s.heap.objs.size (SetTO X.prog X.w s.heap.objs.size []), I.laid (t' := s.toks) (fun b u e => Heap.get?_push_of_some _ e) (Nat.le_refl _) (setTO_new ?_), rfl, q _ (I.hok.fresh (Nat.le_refl _))⟩
  exact (setTR_fresh (w := X.w) (P := X.prog) (Heap.get?_push_size _ rfl)).t0
/-- x in a, x not in a -/
def rInT (K : PySem.W.Frag) (P : Program) (w : World) (neg : Bool) : R2 := fun x y H Q => ∃ (p a : Addr) (k : List Int) (L : List (Addr × List Int)), x = .ref p ∧ y = .ref a ∧ SqT K H p (k.map V.int) ∧ H a = some (SetTO P w a L) ∧ (∀ q ∈ L, SqT K H q.1 (q.2.map V.int)) ∧
  Q (.bl (if neg then !decide (k ∈ L.map (·.2)) else decide (k ∈ L.map (·.2)))) H
theorem op_inT (hu : X.A.units + 64 < cLine) : OpR X (compareOp .In) (rInT X.K X.prog X.w false) := by
  rintro pins s σ H x y v u Q I rx ry ⟨p, a, k, L, rfl, rfl, hp, ha, hl, q⟩
  obtain rfl := (show v = Value.ref p from rx)
  obtain rfl := (show u = Value.ref a from ry)
  obtain ⟨es, ep, t, R⟩ := setTO_full I ha hl
  exact in_tups R (I.isT hp) (by omega) fun tk => ⟨.bl _, H, I.tok tk, rfl, q⟩
/-- a.add(x) -/
def tAddT (K : PySem.W.Frag) (P : Program) (w : World) (to te : TE) : TE := fun σ H Q => to σ H fun x H1 => (∃ a L, x = V.ref a ∧ H1 a = some (SetTO P w a L) ∧ ∀ q ∈ L, SqT K H1 q.1 (q.2.map V.int)) ∧ tCons te tNil σ H1 fun ys H2 => ∃ (a p : Addr) (k : List Int) (L : List (Addr × List Int)),
  x = V.ref a ∧ ys = [V.ref p] ∧ H2 a = some (SetTO P w a L) ∧ (∀ q ∈ L, SqT K H2 q.1 (q.2.map V.int)) ∧ SqT K H2 p (k.map V.int) ∧ L.length + 1 < 64 ∧
  ∀ L', (k ∈ L.map (·.2) → L' = L) → (k ∉ L.map (·.2) → L'.Perm ((p, k) :: L)) → Q .non (upd H2 a (SetTO P w a L'))
theorem pe_addT {o e : Expr} {to te : TE} {apos cpos : Pos} (hu : X.A.units + 64 < cLine) (ho : PE X o to) (he : PE X e te)
    (hbase : attributeBase o "add" X.env (eval o X.env) = eval o X.env := by rfl)
    (hfew : ((backTo cpos (starEach [e] X.env)).all (fun x => !x.1) && (backToKw cpos (keywordEach [] X.env)).all (fun x => x.1.isSome)
      && decide ([e].length + ([] : List Keyword).length + (if ([] : List Keyword).isEmpty then 0 else 1) < 30)) = true := by rfl)
    (hline : (apos.endLine == cpos.line) = true := by rfl) (hs : starEach [e] X.env = (false, eval e X.env) :: starEach [] X.env := by rfl) (hpl : (backTo cpos (starEach [] X.env)).any (·.1) = false := by rfl) :
    PE X (.Call (.Attribute o "add" apos) [e] [] cpos) (tAddT X.K X.prog X.w to te) := by
  refine ⟨fun pins s σ H Q I h => ?_⟩
  refine wpAny_Call_method_late hbase hfew hline rfl (thn (ho.run pins s σ H _ I h) fun v s1 ⟨x, H1, I1, r1, ⟨a0, L0, e0, ha0, hl0⟩, q1⟩ => ?_)
  subst e0
  obtain rfl := (show v = Value.ref a0 from r1)
  obtain ⟨es, ep, t, R0⟩ := setTO_full I1 ha0 hl0
  obtain ⟨o0, ho0, hex0, _⟩ := R0.ob
  refine ⟨"set", "set.add", F.plainAttrs_set, F.slot_set_add, F.type_set_add, ⟨o0, ho0, hex0.1⟩, ?_, ?_⟩
  · intro b eb
    cases eb
    exact ⟨o0, ho0, hex0.2.1⟩
  · have hA := (pa_cons he pa_nil hs).run cpos pins s1 σ H1 _ I1 q1
    rw [hs] at hA ⊢
    refine Calls.callWith_builtin (by show (false || (backTo cpos (starEach [] X.env)).any (·.1)) = false; rw [hpl] <;> rfl) (Calls.evalArgs_plain ?_)
    refine thn hA fun us s2 ⟨ys, H2, I2, r2, a, p, k, L, ea, ep2, ha, hl, hp, few, q⟩ => ?_
    subst ep2
    cases ea
    rw [Vals.ref1 r2]
    obtain ⟨es, ep, t, R⟩ := setTO_full I2 ha hl
    refine add_tups R (I2.isT hp) (by omega) few fun h' tk L' es' ep' t' sb R' i1 i2 => ?_
    have old : ∃ u, h'.get? a0 = some u := by
      obtain ⟨o1, g1, _⟩ := R'.ob
      exact ⟨o1, g1⟩
    exact ⟨.non, _, I2.write (e := a0) (t' := tk) (by rw [ha]; trivial) (.inl rfl) (fun b u hb z => (sb.2 b hb).trans z) old (setTO_new R'.t0), rfl, q L' i1 i2⟩
end
end Xs

namespace Xs
open PySem PySem.Spec PyProof.Rows L2 Xa Xb Xc
/-! ### sorted(xs), xs a list of tuples of ints of one length -/
def encT (p : Addr × List Int) : PyData := .tuple (p.2.map .int)
/-- the list in order -/
def srt (ks : List (Addr × List Int)) : List (Addr × List Int) := ks.mergeSort (PySem.W.dataLe false encT)
theorem srt_perm (ks : List (Addr × List Int)) : (srt ks).Perm ks := List.mergeSort_perm _ _
/-- sorted(xs) -/
def rSortL (K : PySem.W.Frag) : List V → Hp → VK → Prop := fun vs H Q => ∃ (a : Addr) (ks : List (Addr × List Int)) (d : Nat), vs = [V.ref a] ∧ SqL K H a (ks.map fun p => V.ref p.1) ∧ (∀ p ∈ ks, SqT K H p.1 (p.2.map V.int)) ∧ (∀ p ∈ ks, p.2.length = d + 1) ∧
  ∀ p, H p = none → Q (.ref p) (upd H p (.lst ((srt ks).map fun q => V.ref q.1)))
theorem alike_ints : ∀ (xs ys : List Int), PySem.W.alikeAll (xs.map .int) (ys.map .int) = true
  | [], [] => by simp [PySem.W.alikeAll]
  | [], _ :: _ => by simp [PySem.W.alikeAll]
  | _ :: _, [] => by simp [PySem.W.alikeAll]
  | x :: xs, y :: ys => by
    have := alike_ints xs ys
    simp [PySem.W.alikeAll, PySem.W.alike, this]
theorem depth_ints : ∀ xs : List Int, PyData.depthAll (xs.map .int) ≤ 1
  | [] => by simp [PyData.depthAll]
  | x :: xs => by
    have := depth_ints xs
    simp only [List.map_cons, PyData.depthAll, PyData.depth]
    omega
theorem each_refs {R : Value → (Addr × List Int) → Prop} : ∀ {ks : List (Addr × List Int)}, (∀ p ∈ ks, R (.ref p.1) p) → PySem.W.EachIs R (ks.map fun p => Value.ref p.1) ks
  | [], _ => .nil
  | p :: ks, h => .cons (h p List.mem_cons_self) (each_refs fun q hq => h q (List.mem_cons_of_mem _ hq))
theorem refs_each : ∀ {ks : List (Addr × List Int)} {vs : List Value}, PySem.W.EachIs (fun v (p : Addr × List Int) => v = .ref p.1) vs ks → Vals (ks.map fun p => V.ref p.1) vs
  | _, _, .nil => .nil
  | _, _, .cons e t => .cons e (refs_each t)
section
variable {X : Cx}
theorem isT_reads {P : Program} {w : World} {h : Heap} {b : Addr} {k : List Int} (x : IsT P w h k b) : ∃ as, Reads h (.ref b) (.tuple (k.map .int)) as := by
  obtain ⟨o, its, n, ho, hc, hd, hi⟩ := x
  have all : ∀ {k : List Int} {us : List Value}, IntsAre us k → ∃ as, ReadsAll h us (k.map .int) as := by
    intro k us r
    induction r with
    | nil => exact ⟨_, .nil⟩
    | cons n t _ ih =>
      obtain ⟨as, q⟩ := ih
      exact ⟨_, .cons (.int n t) q⟩
  obtain ⟨as, q⟩ := all (ints_of_items hi)
  exact ⟨as, .tuple ho hc hd q⟩
theorem cr_sortL (hc : X.calm = true) (hu : X.A.units + 64 < cLine) : CallR X (.builtin "sorted") (rSortL X.K) := by
  intro pins s σ H vs us Q I r h
  obtain ⟨a, ks, d, rfl, hl, ht, hd, q⟩ := h
  rw [Vals.ref1 r]
  obtain ⟨its, rv, pl, hz⟩ := I.list hl
  have e0 : its = ks.map fun p => Value.ref p.1 := refs_of_vals rv
  subst e0
  have hn : H (s.heap.objs.size + 1) = none := I.hok.fresh (Nat.le_succ _)
  rw [List.length_map] at hz
  refine PySem.W.sorted_data (bs := ks) (enc := encT) (R := fun v (p : Addr × List Int) => v = .ref p.1) pl.isList (each_refs fun p _ => rfl) (each_refs fun p hp => isT_reads (P := X.prog) (w := X.w) (I.isT (ht p hp))) ?_ (.inl fun e he => ?_) hz (fun p hp => ?_) fun out lo eo => ?_
  · intro e he e' he'
    obtain ⟨p, hp, rfl⟩ := List.mem_map.mp he
    obtain ⟨p', hp', rfl⟩ := List.mem_map.mp he'
    simp only [encT, PySem.W.alike, alike_ints]
  · obtain ⟨p, hp, rfl⟩ := List.mem_map.mp he
    have := hd p hp
    obtain ⟨b, l⟩ := p
    cases l with
    | nil => simp at this
    | cons x l => exact ⟨.int x, l.map .int, rfl⟩
  · have := depth_ints p.2
    show X.A.units + 2 + (PyData.tuple (p.2.map .int)).depth < cLine
    simp only [PyData.depth]
    omega
  · obtain ⟨c, hc2⟩ := PyProof.Rows.sortedAll_at s.heap (ks.map fun p => Value.ref p.1) out.toArray
    have hv := refs_each eo
    have hlen : ((srt ks).map fun q => V.ref q.1).length ≤ sizeLine := by rw [List.length_map, (srt_perm ks).length_eq]; exact hz
    refine ⟨.ref (s.heap.objs.size + 1), upd H (s.heap.objs.size + 1) (.lst ((srt ks).map fun q => V.ref q.1)), I.laid (a := s.heap.objs.size + 1) (o := .lst ((srt ks).map fun q => V.ref q.1)) (t' := s.toks) (fun b u e => PyProof.Rows.sortedAll_old e) (Nat.le_succ _) ⟨hlen, out, c, hv, hc2⟩, rfl, q _ hn⟩
end
end Xs
/-! Own ground, part P: defs that can be called by name; what kind a value is. -/
namespace Xp
open PySem PySem.Spec PyProof.Rows L2 Xa Xb Xc

/-! ### defs that can be called by their names -/
def Can (P : Program) (w : World) (K : PySem.W.Frag) (mg : Str → Option Value) (base : Heap) (C : CXT) (lev : Nat) (x : Str) (ps : List Str) (pr : Sp) : Prop :=
  ∃ (f : Addr) (fd : FuncData), FnOk P w K mg base C lev f fd ps pr ∧ mg x = some (.ref f) ∧ PySem.W.keepIn K (.ref f) = true ∧ Binds K fd ps []
def CanG (P : Program) (w : World) (K : PySem.W.Frag) (mg : Str → Option Value) (base : Heap) (lev : Nat) (x : Str) (ps : List Str) (pr : Sp) : Prop :=
  ∃ (f : Addr) (fd : FuncData), FnG P w K mg base lev f fd ps pr ∧ mg x = some (.ref f) ∧ PySem.W.keepIn K (.ref f) = true ∧ Binds K fd ps []
section
variable {X : Cx} {C : CXT} {lev : Nat} {x : Str} {ps : List Str} {pr : Sp} {E : XK} {p pos : Pos} {e : Expr} {es : List Expr} {t : TA}
theorem pe_can (c : Can X.prog X.w X.K X.mg X.base C lev x ps pr) (hr : Room lev X.A) (hx : Passes C X E) (ha : PA X (e :: es) t) (hg : Gl X x := by rfl) (hdb : (x == ("__debug__" : Str)) = false := by decide)
    (he : starEach (e :: es) X.env = (false, eval e X.env) :: starEach es X.env := by rfl) (hpl : (backTo pos (starEach es X.env)).any (·.1) = false := by rfl) : PE X (.Call (.Name x p) (e :: es) [] pos) (tCall pr [] E t) := by
  obtain ⟨f, fd, F, g, k, b⟩ := c
  exact pe_call F hr hg g k b .nil hx ha hdb he hpl
theorem pe_canG (c : CanG X.prog X.w X.K X.mg X.base lev x ps pr) (hr : Room lev X.A) (hn : NoRep X.A) (ha : PA X (e :: es) t) (hg : Gl X x := by rfl) (hdb : (x == ("__debug__" : Str)) = false := by decide)
    (he : starEach (e :: es) X.env = (false, eval e X.env) :: starEach es X.env := by rfl) (hpl : (backTo pos (starEach es X.env)).any (·.1) = false := by rfl) : PE X (.Call (.Name x p) (e :: es) [] pos) (tCall pr [] E0 t) := by
  obtain ⟨f, fd, F, g, k, b⟩ := c
  exact pe_callG F hr hn hg g k b ha hdb he hpl
theorem pe_canG0 (c : CanG X.prog X.w X.K X.mg X.base lev x ps pr) (hr : Room lev X.A) (hn : NoRep X.A) (hg : Gl X x := by rfl) (hdb : (x == ("__debug__" : Str)) = false := by decide) : PE X (.Call (.Name x p) [] [] pos) (tCall pr [] E0 tNil) := by
  obtain ⟨f, fd, F, g, k, b⟩ := c
  exact pe_callG0 F hr hn hg g k b hdb
theorem pa1 (he : PE X e te) (hs : starEach (e :: []) X.env = (false, eval e X.env) :: starEach [] X.env := by rfl) : PA X [e] (tCons te tNil) := pa_cons he pa_nil hs
/-- a built-in function by its name -/
theorem pe_bi {id : String} {r : List V → Hp → VK → Prop} (hc : CallR X (.builtin id) r) (hm : X.mg x = none) (ha : PA X (e :: es) t) (hg : Gl X x := by rfl) (hv : bootBuiltins x = some (.builtin id) := by decide +kernel) (hn : x ≠ "__name__" := by decide)
    (hdb : (x == ("__debug__" : Str)) = false := by decide) (he : starEach (e :: es) X.env = (false, eval e X.env) :: starEach es X.env := by rfl) (hpl : (backTo pos (starEach es X.env)).any (·.1) = false := by rfl) : PE X (.Call (.Name x p) (e :: es) [] pos) (tCB r t) :=
  pe_callB hc hg hm hv ha hn hdb he hpl
/-- a built-in type, called -/
theorem pe_ty {T : String} {r : List V → Hp → VK → Prop} (hc : CallR X (.type T) r) (hm : X.mg x = none) (ha : PA X (e :: es) t) (hg : Gl X x := by rfl) (hv : bootBuiltins x = some (.type T) := by decide +kernel) (hn : x ≠ "__name__" := by decide)
    (hdb : (x == ("__debug__" : Str)) = false := by decide) (he : starEach (e :: es) X.env = (false, eval e X.env) :: starEach es X.env := by rfl) (hpl : (backTo pos (starEach es X.env)).any (·.1) = false := by rfl) : PE X (.Call (.Name x p) (e :: es) [] pos) (tCB r t) :=
  pe_callTy hc hg hm hv ha hn hdb he hpl
/-- a built-in type as a value -/
theorem pe_tyv (T : String) (hm : X.mg x = none) (hg : Gl X x := by rfl) (hv : bootBuiltins x = some (.type T) := by decide +kernel) (hn : x ≠ "__name__" := by decide) (hdb : (x == ("__debug__" : Str)) = false := by decide) : PE X (.Name x p) (tC (.ty T)) :=
  pe_bltn hg hm hv rfl hn hdb
end
section
variable {K : PySem.W.Frag} {x qual : Str} {params : Arguments} {body : List Stmt} {scope : Scope} {f : Addr} {fd : FuncData} {P : Program} {w : World} {mg : Str → Option Value} {base : Heap} {C : CXT} {lev : Nat} {ps : List Str} {pr : Sp}
theorem FnOk.can (F : FnOk P w K mg base C lev f fd ps pr) (D : FunD K x qual params body scope [] [] f fd) (g : mg x = some (.ref f))
    (b : ∀ (kV doc pm : Value) (an : Option Addr) (cdv ct : Value) (us : List Value), us.length = ps.length → bindArgs (PySem.W.fnOf x qual params body scope .none kV doc pm an cdv ct) ⟨us, []⟩ = pure (ps.zip us)) : Can P w K mg base C lev x ps pr := ⟨f, fd, F, g, D.kp, D.bindsN b⟩
theorem FnG.can (F : FnG P w K mg base lev f fd ps pr) (D : FunD K x qual params body scope [] [] f fd) (g : mg x = some (.ref f))
    (b : ∀ (kV doc pm : Value) (an : Option Addr) (cdv ct : Value) (us : List Value), us.length = ps.length → bindArgs (PySem.W.fnOf x qual params body scope .none kV doc pm an cdv ct) ⟨us, []⟩ = pure (ps.zip us)) : CanG P w K mg base lev x ps pr := ⟨f, fd, F, g, D.kp, D.bindsN b⟩
end

/-! ### what kind a value is -/
/-- v's built-in type -/
def Kd (K : PySem.W.Frag) (H : Hp) (v : V) (T : String) : Prop := TyX K H v (.type T)
/-- whether v is a whole number -/
def Whl (K : PySem.W.Frag) (H : Hp) (v : V) (b : Bool) : Prop := ∃ (T : String) (b1 b2 : Bool), Kd K H v T ∧ kitB T "int" = some b1 ∧ kitB T "bool" = some b2 ∧ b = (b1 && !b2)
section
variable {K : PySem.W.Frag} {H : Hp}
theorem whl_int (i : Int) : Whl K H (.int i) true := ⟨"int", true, false, .base (.int i), by decide +kernel, by decide +kernel, rfl⟩
theorem whl_non : Whl K H .non false := ⟨"NoneType", false, false, .base .non, by decide +kernel, by decide +kernel, rfl⟩
theorem whl_bl (b : Bool) : Whl K H (.bl b) false := ⟨"bool", true, true, .base (.bl b), by decide +kernel, by decide +kernel, rfl⟩
theorem whl_str (z : Str) : Whl K H (.str z) false := ⟨"str", false, false, .base (.str z), by decide +kernel, by decide +kernel, rfl⟩
theorem whl_lst {a : Addr} {xs : List V} (e : H a = some (.lst xs)) : Whl K H (.ref a) false := ⟨"list", false, false, .base (.lst e), by decide +kernel, by decide +kernel, rfl⟩
theorem whl_tup {a : Addr} {xs : List V} (e : H a = some (.tup xs)) : Whl K H (.ref a) false := ⟨"tuple", false, false, .base (.tup e), by decide +kernel, by decide +kernel, rfl⟩
theorem whl_dic {a : Addr} {kvs : List (Key × V)} (e : H a = some (.dK kvs)) : Whl K H (.ref a) false := ⟨"dict", false, false, .base (.dK e), by decide +kernel, by decide +kernel, rfl⟩
end
/-- v as a number, if it is one -/
inductive Num (K : PySem.W.Frag) (H : Hp) : V → Option Int → Prop
  | is (i : Int) : Num K H (.int i) (some i)
  | no {v : V} (h : Whl K H v false) : Num K H v none
theorem Num.whl {K : PySem.W.Frag} {H : Hp} {v : V} {o : Option Int} : Num K H v o → Whl K H v o.isSome
  | .is i => whl_int i
  | .no h => h
def inR (o : Option Int) (lo hi : Int) : Bool := match o with
  | some i => decide (lo ≤ i) && decide (i ≤ hi)
  | none => false
/-- v is of a kind, T2 is asked -/
def IsK (K : PySem.W.Frag) (H : Hp) (v : V) (T2 : String) (b : Bool) : Prop := ∃ T, Kd K H v T ∧ kitB T T2 = some b
section
variable {K : PySem.W.Frag} {H : Hp}
theorem isk_non (T : String) {b : Bool} (h : kitB "NoneType" T = some b) : IsK K H .non T b := ⟨_, .base .non, h⟩
theorem isk_bl (x : Bool) (T : String) {b : Bool} (h : kitB "bool" T = some b) : IsK K H (.bl x) T b := ⟨_, .base (.bl x), h⟩
theorem isk_int (i : Int) (T : String) {b : Bool} (h : kitB "int" T = some b) : IsK K H (.int i) T b := ⟨_, .base (.int i), h⟩
theorem isk_str (z : Str) (T : String) {b : Bool} (h : kitB "str" T = some b) : IsK K H (.str z) T b := ⟨_, .base (.str z), h⟩
theorem isk_lst {a : Addr} {xs : List V} (e : H a = some (.lst xs)) (T : String) {b : Bool} (h : kitB "list" T = some b) : IsK K H (.ref a) T b := ⟨_, .base (.lst e), h⟩
theorem isk_tup {a : Addr} {xs : List V} (e : H a = some (.tup xs)) (T : String) {b : Bool} (h : kitB "tuple" T = some b) : IsK K H (.ref a) T b := ⟨_, .base (.tup e), h⟩
theorem isk_dic {a : Addr} {kvs : List (Key × V)} (e : H a = some (.dK kvs)) (T : String) {b : Bool} (h : kitB "dict" T = some b) : IsK K H (.ref a) T b := ⟨_, .base (.dK e), h⟩
end
/-- isinstance(v, T), v of a built-in kind -/
def rKd (K : PySem.W.Frag) : List V → Hp → VK → Prop := fun xs H Q => ∃ (v : V) (T : String) (b : Bool), xs = [v, .ty T] ∧ IsK K H v T b ∧ Q (.bl b) H
theorem call_kd {X : Cx} : CallR X (.builtin "isinstance") (rKd X.K) := by
  intro pins s σ H xs us Q I r h
  obtain ⟨v, T, b, rfl, ⟨T1, k, e⟩, q⟩ := h
  exact call_isi pins s σ H [v, .ty T] us Q I r ⟨v, .ty T, .type T1, .type T, b, rfl, .ty T, k, kit_ty e, q⟩
end Xp

namespace Xp
open PySem PySem.Spec PyProof.Rows L2 Xa Xb Xc
/-! ### FARTHEST[places]: a written dict of two ints -/
def farB (K : PySem.W.Frag) (F : Addr) : Bool := match K.lookup F with
  | some ⟨.type "dict", none, .dict ⟨[⟨h1, .int a _, .int b _⟩, ⟨h2, .int c _, .int d _⟩]⟩ _, ⟨[]⟩⟩ => decide (h1 = hashInt 1) && (decide (h2 = hashInt 2) && (decide (a = 1) && (decide (b = 2) && (decide (c = 2) && decide (d = 1)))))
  | _ => false
def rFar (K : PySem.W.Frag) : R2 := fun x y H Q => ∃ F, x = .ref F ∧ farB K F = true ∧ ((y = .int 1 ∧ Q (.int 2) H) ∨ (y = .int 2 ∧ Q (.int 1) H))
theorem far_ok {K : PySem.W.Frag} {F : Addr} (h : farB K F = true) : ∃ n t1 t2 t3 t4, K.lookup F = some ⟨.type "dict", none, .dict #[⟨hashInt 1, .int 1 t1, .int 2 t2⟩, ⟨hashInt 2, .int 2 t3, .int 1 t4⟩] n, #[]⟩ := by
  unfold farB at h
  split at h
  · rename_i e
    obtain ⟨e1, h⟩ := He.ba h
    obtain ⟨e2, h⟩ := He.ba h
    obtain ⟨e3, h⟩ := He.ba h
    obtain ⟨e4, h⟩ := He.ba h
    obtain ⟨e5, e6⟩ := He.ba h
    have e1 := of_decide_eq_true e1
    have e2 := of_decide_eq_true e2
    have e3 := of_decide_eq_true e3
    have e4 := of_decide_eq_true e4
    have e5 := of_decide_eq_true e5
    have e6 := of_decide_eq_true e6
    subst e1 e2 e3 e4 e5 e6
    exact ⟨_, _, _, _, _, e⟩
  · cases h
theorem ix_far {X : Cx} : IxR X (rFar X.K) := by
  intro value slice pins s σ H x y v u Q I rx ry h hs
  obtain ⟨F, rfl, hf, q⟩ := h
  obtain rfl : v = Value.ref F := rx
  obtain ⟨n, t1, t2, t3, t4, lk⟩ := far_ok hf
  have ho := I.kIn _ _ lk
  have hm : s.heap.MapOf (PySem.intKind X.prog X.w) F (findBy (PySem.intKind X.prog X.w).is #[⟨hashInt 1, .int 1 t1, .int 2 t2⟩, ⟨hashInt 2, .int 2 t3, .int 1 t4⟩]) := by
    refine ⟨_, _, _, ho, ⟨rfl, rfl, rfl⟩, rfl, fun e he => ?_, fun k => rfl⟩
    have he : e = ⟨hashInt 1, .int 1 t1, .int 2 t2⟩ ∨ e = ⟨hashInt 2, .int 2 t3, .int 1 t4⟩ := by simpa using he
    rcases he with rfl | rfl
    · exact ⟨1, PySem.intKind_is _ _ _ _, rfl⟩
    · exact ⟨2, PySem.intKind_is _ _ _ _, rfl⟩
  have is_ : ∀ (a b : Int) (t : Tok), (PySem.intKind X.prog X.w).is a (.int b t) = decide (a = b) := fun a b t => by
    show Value.isInt a (.int b t) = _
    unfold Value.isInt
    by_cases e : a = b
    · subst e
      simp
    · rw [decide_eq_false e]
      first | exact beq_false_of_ne (Ne.symm e) | exact beq_false_of_ne e
  rcases q with ⟨rfl, q⟩ | ⟨rfl, q⟩
  · obtain ⟨t, rfl⟩ := ry
    exact tail_any hm.typeIs slot_dict_getitem.lookup (wpAny_getItem_of (PySem.intKind_is X.prog X.w 1 t) hm (v := .int 2 t2) (by simp [findBy, is_]) ⟨.int 2, H, I.tok _, ⟨_, rfl⟩, q⟩) hs
  · obtain ⟨t, rfl⟩ := ry
    exact tail_any hm.typeIs slot_dict_getitem.lookup (wpAny_getItem_of (PySem.intKind_is X.prog X.w 2 t) hm (v := .int 1 t4) (by simp [findBy, is_]) ⟨.int 1, H, I.tok _, ⟨_, rfl⟩, q⟩) hs
end Xp
/-! Own ground, part H: the law called from outside, for defs that know that no repr is under way. -/
namespace Xh
open PySem PySem.Spec PyProof.Rows L2 Xa
/-- what can be tracked at the law's call: at most the script, and that as it stands -/
structure Track (P : Program) (w : World) (K : PySem.W.Frag) (h : Heap) (a : Addr) (ns : List Int) (H : Hp) : Prop where
  only : Only H
  seq : SqL K H a (ns.map V.int)
  hok : HOk P w H h
  just : ∀ b, H b ≠ none → b = a
  notK : H a ≠ none → K.lookup a = none
theorem track_ex {P : Program} {w : World} {K : PySem.W.Frag} {h : Heap} {a : Addr} {vs : List Value} {ns : List Int} (KX : K.In h) (ha : h.get? a = some { cls := .type "list", data := .seq vs.toArray }) (hi : IntsAre vs ns) (hl : ns.length ≤ sizeLine) : ∃ H, Track P w K h a ns H := by
  have rv := vals_ints hi
  have hlen : (ns.map V.int).length ≤ sizeLine := by rw [List.length_map] <;> exact hl
  by_cases hk : K.lookup a = none
  · refine ⟨upd (fun _ => none) a (.frz { cls := .type "list", data := .seq vs.toArray } (.lst (ns.map V.int))), fun b => ?_, .inl (.inr ⟨_, upd_same⟩), fun b u e => ?_, fun b nb => ?_, fun _ => hk⟩
    · by_cases e : b = a
      · rw [e, upd_same]
        exact .inr ⟨_, _, rfl⟩
      · rw [upd_ne e]
        exact .inl rfl
    · by_cases q : b = a
      · rw [q, upd_same] at e
        rw [← Option.some.inj e, q]
        exact ⟨ha, hlen, vs, _, rv, ha⟩
      · rw [upd_ne q] at e
        cases e
    · by_cases e : b = a
      · exact e
      · rw [upd_ne e] at nb
        exact absurd rfl nb
  · obtain ⟨o, ho⟩ := Option.ne_none_iff_exists'.mp hk
    have e := KX a o ho
    rw [ha] at e
    have eo := Option.some.inj e
    subst eo
    exact ⟨fun _ => none, fun _ => .inl rfl, .inr ⟨_, vs.toArray, _, ho, rfl, rfl, rfl, by rw [List.size_toArray, hi.length]; exact hl, by simpa using rv⟩, fun b u z => (nomatch z), fun b z => absurd rfl z, fun z => absurd rfl z⟩
/-- the call -/
theorem lawG {P : Program} {w : World} {K : PySem.W.Frag} {mg mb : Str → Option Value} {k : Nat} {fa a : Addr} {fd : FuncData} {x : Str} {sp : Sp} {s : Shared} {vs : List Value} {ns : List Int} (KX : K.In s.heap) (hns : s.heap.Ns mainGlobals mg) (hb : s.heap.Ns builtinsNs mb)
    (hbb : ∀ x : Str, x ≠ "__name__" → mb x = bootBuiltins x) (hlim : s.heap.NoLimit) (hg : s.gens = #[]) (ha : s.heap.get? a = some { cls := .type "list", data := .seq vs.toArray }) (hi : IntsAre vs ns) (hl : ns.length ≤ sizeLine) (hr : Room k callerA) (hn : NoRep callerA)
    (F : ∀ base : Heap, FnG P w K mg base k fa fd [x] sp) (hbind : ∀ (s : Shared) (u : Value), BindsTo s fd ⟨[u], []⟩ [(x, u)]) (hsp : ∀ H : Hp, SqL K H a (ns.map V.int) → sp [.ref a] H (fun v _ => v = .bl true) E0) :
    codeAny (model P w) callerA (.call (.ref fa) ⟨[.ref a], []⟩) (fun r s' => r = .ok (.ret (.bool true)) ∧ OldK s.heap s'.heap ∧ s'.os = s.os ∧ AllBare s'.gens) s := by
  obtain ⟨H, T⟩ := track_ex (P := P) (w := w) KX ha hi hl
  have free : ∀ {b : Addr} {o : Obj}, s.heap.get? b = some o → (∀ vs n, o.data ≠ .seq vs n) → H b = none := fun {b o} e ne => by
    cases q : H b with
    | none => rfl
    | some u =>
      have eb := T.just b (by rw [q]; simp)
      rw [eb, ha] at e
      have eo := Option.some.inj e
      subst eo
      exact absurd rfl (ne _ _)
  have names : ∀ {b : Addr} {m : Str → Option Value}, s.heap.Ns b m → (hidT s.heap H).Ns b m := fun ⟨o, es, ep, e, d, r⟩ => ⟨o, es, ep, hidT_get e (free e fun vs n z => by rw [d] at z; cases z), d, r⟩
  have kin : K.In (hidT s.heap H) := fun b o e => hidT_get (KX b o e) (by
    cases q : H b with
    | none => rfl
    | some u =>
      have eb := T.just b (by rw [q]; simp)
      have nk := T.notK (by rw [← eb, q]; simp)
      rw [eb, nk] at e
      cases e)
  have md : Mod K mg (hidT s.heap H) := ⟨kin, names hns, ⟨mb, names hb, hbb⟩, let ⟨mc, h1, h2⟩ := hlim; ⟨mc, names h1, h2⟩⟩
  have e0 : Env0 P w K mg (hidT s.heap H) callerA [] s H := ⟨rfl, md, fun b o e => of_hidT e, Nat.le_of_eq (hidT_size _ _), trivial, fun b z => absurd (show b ∈ ([] : List Addr) from z) List.not_mem_nil, T.hok, .of_eq hg⟩
  refine codeAny_mono ((F (hidT s.heap H)).go callerA [] s H ⟨[.ref a], []⟩ [.ref a] [.ref a] _ _ hr hn e0 (hbind s (.ref a)) (.cons rfl .nil) (hsp H T.seq)) fun r s' h => ?_
  cases r with
  | error e => exact False.elim h
  | ok fl =>
    cases fl with
    | next => exact False.elim h
    | brk => exact False.elim h
    | cont => exact False.elim h
    | ret u =>
      obtain ⟨v, H', os, bare, un, hok', r', q⟩ := h
      obtain rfl : v = .bl true := q
      obtain rfl : u = Value.bool true := r'
      refine ⟨rfl, OldK.of_keep fun b o e => ?_, os, bare⟩
      rcases T.only b with z | ⟨ob, xs, z⟩
      · exact un.keep b o e z (fun q => absurd (show b ∈ ([] : List Addr) from q) List.not_mem_nil) List.not_mem_nil
      · obtain ⟨e1, _⟩ := T.hok b _ z
        obtain ⟨e2, _⟩ := hok' b _ (un.frzs b ob _ z)
        rw [← Option.some.inj (e1.symm.trans e)]
        exact e2
/-- the walk behind the head -/
theorem walkG {l : PySem.W.OpenLaw} {n k : Nat} {q : Program} {loose : List Str} {XP : (Str → Option Value) → Heap → Prop} {YP : World → Heap → Prop} {d : DefRec} {x : Str} (hm : l.most = some n) (hn2 : n ≤ sizeLine) (hdf : d.params.defaults = []) (hr : Room k callerA) (hn : NoRep callerA)
    (F : ∀ (w : World) (mg : Str → Option Value) (fa : Addr) (h : Heap), YP w h → h.Ns mainGlobals mg → mg d.name = some (.ref fa) →
      ∃ (K : PySem.W.Frag) (fd : FuncData) (sp : Sp), K.In h ∧ (∀ (s : Shared) (u : Value), BindsTo s fd ⟨[u], []⟩ [(x, u)]) ∧ (∀ (H : Hp) (a : Addr) (ns : List Int), SqL K H a (ns.map V.int) → sp [.ref a] H (fun v _ => v = .bl true) E0) ∧ ∀ base : Heap, FnG l.prog w K mg base k fa fd [x] sp) :
    PySem.W.WalkO q loose XP YP l.row.toRowW d [] (fun f vs => PySem.call f vs) := by
  refine Att.attach_call hm hdf fun w s₀ s₁ mg mb fa o pm cd doc a vs ns G Y ho hd hcd hmg hobj hints hlen hg => ?_
  obtain ⟨K, fd, sp, KX, hb, hsp, hF⟩ := F w mg fa _ Y G.T.g hmg
  exact lawG KX G.T.g G.T.b G.T.builtins G.T.nolimit hg hobj hints (Nat.le_trans hlen hn2) hr hn hF hb fun H hS => hsp H a ns hS
end Xh
/-! Own ground, part M: methods called with keywords; what leaves them may be taken by a try. -/
namespace Xm
open PySem PySem.Spec PyProof.Rows L2 Xa Xb Xc Xp
/-- keywords for keyword-only parameters, no defaults ahead of these -/
theorem kb0 {K : PySem.W.Frag} {x qual : Str} {params : Arguments} {body : List Stmt} {scope : Scope} {kws : List (Str × V)} {f : Addr} {fd : FuncData} {ps : List Str} (F : FunD K x qual params body scope [] kws f fd) (n : Nat) (ks : List Str)
    (h : ∀ (kV doc pm : Value) (an : Option Addr) (cdv ct : Value) (us ws : List Value), us.length = n → ws.length = ks.length → bindArgs (PySem.W.fnOf x qual params body scope .none kV doc pm an cdv ct) ⟨us, ks.zip ws⟩ = pure (ps.zip (us ++ ws))) :
    KBn K fd ps n ks (fun us ws => us ++ ws) (fun vs zs => vs ++ zs) := by
  obtain ⟨oc, od, dV, kV, doc, pm, an, cdv, ct, osl, rfl, lk, hcd, hD, hK⟩ := F.ex
  rcases hD with ⟨_, rfl⟩ | ⟨e, _⟩
  · exact ⟨fun s us ws _ l1 l2 => .of_eq (h kV doc pm an cdv ct us ws l1 l2), fun r1 r2 => r1.append r2⟩
  · exact absurd rfl e
/-- nothing leaves -/
theorem passAt0 {X : Cx} (σ : L2.St) : PassesAt (L2.CX X.prog X.w) X σ E0 := fun _ _ _ _ _ _ ⟨_, _, _, _, _, _, _, _, _, _, _, _, q⟩ => False.elim q
/-- o.m(e, .., k = v, ..) -/
def tMethN (C : Addr) (m : Str) (n j : Nat) (sp : Sp) (gV : List V → List V → List V) (E : L2.St → XK) (ta : TE) (t tk : TA) : TE := fun σ H Q => ta σ H fun x H1 => ∃ a dx fs, x = .ref a ∧ H1 a = some (.ins C dx fs) ∧ fs.lookup m = none ∧
  t σ H1 fun vs H2 => tk σ H2 fun zs H3 => (x :: vs).length = n ∧ zs.length = j ∧ sp (gV (x :: vs) zs) H3 Q (E σ)
/-- o.m(e, ..) -/
def tMethD (C : Addr) (m : Str) (sp : Sp) (dvs : List V) (E : L2.St → XK) (ta : TE) (t : TA) : TE := fun σ H Q => ta σ H fun x H1 => ∃ a dx fs, x = .ref a ∧ H1 a = some (.ins C dx fs) ∧ fs.lookup m = none ∧ t σ H1 fun vs H2 => sp (x :: (vs ++ dvs)) H2 Q (E σ)
section
variable {X : Cx} {CX : CXT} {k n : Nat} {f C : Addr} {fd : FuncData} {ps ks : List Str} {sp : Sp} {E : L2.St → XK} {m : Str} {p pos apos : Pos} {o e : Expr} {es : List Expr} {kws : List Keyword} {ta : TE} {t tk : TA} {g : List Value → List Value → List Value} {gV : List V → List V → List V} {ds : List Value} {dvs : List V}
theorem fin_call {pins : List (Addr × Obj)} {σ : L2.St} {H : Hp} {s : Shared} {Q : VK} {ar : Args} {us : List Value} {vs : List V} (F : FnOk X.prog X.w X.K X.mg X.base CX k f fd ps sp) (hr : Room k X.A) (hx : PassesAt CX X σ (E σ)) (I : Inv X pins σ H s)
    (hb : BindsTo s fd ar (ps.zip us)) (r : Vals vs us) (h : sp vs H Q (E σ)) : wpAny (model X.prog X.w) X.A (call (.ref f) ar.pos ar.kw) (EP X pins σ Q) X.xe s := by
  refine wpAny_call (codeAny_mono (F.run X.A X.stack s H ar us vs Q (E σ) hr I.env0 hb r h) fun r s' hq => ?_)
  cases r with
  | error e => exact hx pins H s e s' I hq
  | ok fl =>
    cases fl with
    | ret u => exact I.after hq
    | next => exact False.elim hq
    | brk => exact False.elim hq
    | cont => exact False.elim hq
theorem pe_methN {pl : Sem Bool} (he : PE X o ta) (c : Cls X.K C) (hm : Meth X.K C m f) (F : FnOk X.prog X.w X.K X.mg X.base CX k f fd ps sp) (hr : Room k X.A) (hb : KBn X.K fd ps n ks g gV) (hx : ∀ σ, PassesAt CX X σ (E σ)) (ha : PA X (e :: es) t) (hkw : PK X kws tk)
    (hall : (backToKw pos (keywordEach kws X.env)).all (·.1.isSome) = true := by rfl) (hks : (backToKw pos (keywordEach kws X.env)).filterMap (·.1) = ks := by rfl)
    (hst : starEach (e :: es) X.env = (false, eval e X.env) :: starEach es X.env := by rfl) (hpl : ((backTo pos (starEach (e :: es) X.env)).any (·.1) || (backToKw pos (keywordEach kws X.env)).any (·.1.isNone)) = false := by rfl)
    (ht : eval (.Call (.Attribute o m apos) (e :: es) kws pos) X.env = (do
      let ov ← eval o X.env
      standAt apos.atName
      let (f, first) ← holding [ov] (getMethod ov m pl)
      callWith pos f first (backTo pos (starEach (e :: es) X.env)) (backToKw pos (keywordEach kws X.env))) := by rfl) :
    PE X (.Call (.Attribute o m apos) (e :: es) kws pos) (tMethN C m n ks.length sp gV E ta t tk) := by
  refine ⟨fun pins s σ H Q I h => ?_⟩
  refine PySem.W.methodCall_KW (pl := pl) (thn (he.run pins s σ H _ I h) fun u s1 ⟨x, H1, I1, rx, a, dx, fs, ex, ea, l, q⟩ => ?_) ht
  subst ex
  obtain rfl : u = Value.ref a := rx
  refine getmeth_ok I1 ea c hm l ?_
  refine PySem.W.callWith_KW (first := [.ref a]) (h₀ := X.base) I.ok.mod.kin hm.kp hall (thn (ha.run pos pins s1 σ H1 _ I1 q) fun us s2 ⟨vs, H2, I2, r, q2⟩ => ?_) hpl hst
  refine thn (hkw.run pos pins s2 σ H2 _ I2 q2) fun ws s3 ⟨zs, H3, I3, rz, l1, l2, q3⟩ => ⟨I3.kIn, ?_⟩
  rw [hks]
  have r1 : Vals (V.ref a :: vs) (Value.ref a :: us) := .cons rfl r
  exact fin_call (ar := ⟨.ref a :: us, ks.zip ws⟩) F hr (hx σ) I3 (hb.to s3 (.ref a :: us) ws I3.kIn (r1.length.symm.trans l1) (rz.length.symm.trans l2)) (hb.rel r1 rz) q3
theorem pe_methD {pl : Sem Bool} (he : PE X o ta) (c : Cls X.K C) (hm : Meth X.K C m f) (F : FnOk X.prog X.w X.K X.mg X.base CX k f fd ps sp) (hr : Room k X.A) (hb : Binds X.K fd ps ds) (hd : Vals dvs ds) (hx : ∀ σ, PassesAt CX X σ (E σ)) (ha : PA X (e :: es) t)
    (hst : starEach (e :: es) X.env = (false, eval e X.env) :: starEach es X.env := by rfl) (hpl : (backTo pos (starEach es X.env)).any (·.1) = false := by rfl)
    (ht : eval (.Call (.Attribute o m apos) (e :: es) [] pos) X.env = (do
      let ov ← eval o X.env
      standAt apos.atName
      let (f, first) ← holding [ov] (getMethod ov m pl)
      callWith pos f first (backTo pos (starEach (e :: es) X.env)) (backToKw pos (keywordEach [] X.env))) := by rfl) :
    PE X (.Call (.Attribute o m apos) (e :: es) [] pos) (tMethD C m sp dvs E ta t) := by
  refine ⟨fun pins s σ H Q I h => ?_⟩
  refine PySem.W.methodCall_KW (pl := pl) (thn (he.run pins s σ H _ I h) fun u s1 ⟨x, H1, I1, rx, a, dx, fs, ex, ea, l, q⟩ => ?_) ht
  subst ex
  obtain rfl : u = Value.ref a := rx
  refine getmeth_ok I1 ea c hm l ?_
  refine PySem.W.callWith_K (first := [.ref a]) (h₀ := X.base) I.ok.mod.kin hm.kp (thn (ha.run pos pins s1 σ H1 _ I1 q) fun us s2 ⟨vs, H2, I2, r, q2⟩ => ⟨I2.kIn, ?_⟩) hst hpl
  have r2 : Vals (V.ref a :: (vs ++ dvs)) (Value.ref a :: (us ++ ds)) := .cons rfl (r.append hd)
  have hl : (Value.ref a :: (us ++ ds)).length = ps.length := by rw [← r2.length]; exact F.len _ _ _ _ q2
  exact fin_call (ar := ⟨.ref a :: us, []⟩) F hr (hx σ) I2 (hb s2 (.ref a :: us) I2.kIn hl) r2 q2
end
end Xm
/-! Own ground, part R: what can be told by repr; kinds, under growth. -/
namespace Xr
open PySem PySem.Spec PyProof.Rows L2 Xa Xb Xc Xp
section
variable {K : PySem.W.Frag} {H H' : Hp}
theorem sqt_same (e : Same H H') {a : Addr} {xs : List V} (h : SqT K H a xs) : SqT K H' a xs := by
  rcases h with (h | ⟨o, h⟩) | h
  · exact .inl (.inl (e _ _ h))
  · exact .inl (.inr ⟨o, e _ _ h⟩)
  · exact .inr h
mutual
theorem dq_same (e : Same H H') : ∀ {v : V} {d : PyData} {ls : List Addr}, Dq K H v d ls → Dq K H' v d ls
  | _, _, _, .non => .non
  | _, _, _, .bl b => .bl b
  | _, _, _, .int i => .int i
  | _, _, _, .str z => .str z
  | _, _, _, .lst h t => .lst (e.seq h) (dqs_same e t)
  | _, _, _, .tup h t => .tup (sqt_same e h) (dqs_same e t)
  | _, _, _, .dic h t1 t2 => .dic (e _ _ h) (dqs_same e t1) (dqs_same e t2)
theorem dqs_same (e : Same H H') : ∀ {v : List V} {d : List PyData} {ls : List Addr}, Dqs K H v d ls → Dqs K H' v d ls
  | _, _, _, .nil => .nil
  | _, _, _, .cons h t => .cons (dq_same e h) (dqs_same e t)
end
theorem ty_same (e : Same H H') {v : V} {t : Value} (h : TyX K H v t) : TyX K H' v t := by
  cases h with
  | base h =>
    cases h with
    | non => exact .base .non
    | bl x => exact .base (.bl x)
    | int x => exact .base (.int x)
    | str x => exact .base (.str x)
    | flt x => exact .base (.flt x)
    | lst h => exact .base (.lst (e _ _ h))
    | frz h => exact .base (.frz (e _ _ h))
    | tup h => exact .base (.tup (e _ _ h))
    | dK h => exact .base (.dK (e _ _ h))
    | dT h => exact .base (.dT (e _ _ h))
    | ins h a b c d k => exact .base (.ins (e _ _ h) a b c d k)
  | byt b => exact .byt b
  | set h => exact .set (e _ _ h)
  | kList h c => exact .kList h c
  | kTuple h c => exact .kTuple h c
  | kDict h c => exact .kDict h c
  | fTuple h => exact .fTuple (e _ _ h)
  | fDict h => exact .fDict (e _ _ h)
theorem isk_same (e : Same H H') {v : V} {T : String} {b : Bool} (h : IsK K H v T b) : IsK K H' v T b :=
  let ⟨t, k, q⟩ := h
  ⟨t, ty_same e k, q⟩
end
/-- v is told as txt -/
def Rep (K : PySem.W.Frag) (H : Hp) (v : V) (txt : Str) : Prop := ∃ (d : PyData) (ls : List Addr), Dq K H v d ls ∧ (d.hasDict = true → sysModules ∉ ls) ∧ d.showable = true ∧ d.depth ≤ 60 ∧ d.shown.length ≤ sizeLine ∧ PyData.strOk d.shown = true ∧ txt = d.shown
theorem rep_same {K : PySem.W.Frag} {H H' : Hp} (e : Same H H') {v : V} {t : Str} : Rep K H v t → Rep K H' v t := fun ⟨d, ls, h, r⟩ => ⟨d, ls, dq_same e h, r⟩
theorem Rep.ok {K : PySem.W.Frag} {H : Hp} {v : V} {t : Str} : Rep K H v t → PyData.strOk t = true := fun ⟨_, _, _, _, _, _, _, h, e⟩ => by rw [e] <;> exact h
/-- the reading of repr, by Rep -/
theorem rep_r {K : PySem.W.Frag} {H : Hp} {v : V} {t : Str} {Q : VK} (r : Rep K H v t) (q : Q (.str t) H) : rRepr K [v] H Q := by
  obtain ⟨d, ls, h, h1, h2, h3, h4, h5, rfl⟩ := r
  exact ⟨v, d, ls, rfl, h, h1, h2, h3, h4, q⟩
/-- v is told as txt by one who lengthens lists; behind that the heap is the last -/
inductive Res (K : PySem.W.Frag) (H : Hp) : V → Str → Hp → Prop
  | other {v : V} {t : Str} (k : IsK K H v "list" false) (r : Rep K H v t) : Res K H v t H
  | list {a : Addr} {xs : List V} {t : Str} (e : H a = some (.lst xs)) (z : xs.length < 900) (r : Rep K (upd H a (.lst (xs ++ [.str "more"]))) (.ref a) t) : Res K H (.ref a) t (upd H a (.lst (xs ++ [.str "more"])))
theorem Res.rep {K : PySem.W.Frag} {H H2 : Hp} {v : V} {t : Str} : Res K H v t H2 → Rep K H2 v t
  | .other _ r => r
  | .list _ _ r => r
end Xr
/-! Own ground, part L: written data, laid anew. -/
namespace Xl
open PySem PySem.Spec PyProof.Rows L2 Xa Xb Xc Xp Xr
mutual
inductive Lt (H : Hp) : V → PyData → List Addr → Prop
  | non : Lt H .non .none []
  | bl (b : Bool) : Lt H (.bl b) (.bool b) []
  | int (i : Int) : Lt H (.int i) (.int i) []
  | str (z : Str) : Lt H (.str z) (.str z) []
  | lst {a : Addr} {xs : List V} {ds : List PyData} {ls : List Addr} : H a = some (.lst xs) → Lts H xs ds ls → Lt H (.ref a) (.list ds) (a :: ls)
  | tup {a : Addr} {xs : List V} {ds : List PyData} {ls : List Addr} : H a = some (.tup xs) → Lts H xs ds ls → Lt H (.ref a) (.tuple ds) ls
  | dic {a : Addr} : H a = some (.dK []) → Lt H (.ref a) (.dict []) []
inductive Lts (H : Hp) : List V → List PyData → List Addr → Prop
  | nil : Lts H [] [] []
  | cons {v : V} {vs : List V} {d : PyData} {ds : List PyData} {l1 l2 : List Addr} : Lt H v d l1 → Lts H vs ds l2 → Lts H (v :: vs) (d :: ds) (l1 ++ l2)
end
section
variable {H H' : Hp} {K : PySem.W.Frag}
mutual
theorem lt_dq : ∀ {v : V} {d : PyData} {ls : List Addr}, Lt H v d ls → Dq K H v d ls
  | _, _, _, .non => .non
  | _, _, _, .bl b => .bl b
  | _, _, _, .int i => .int i
  | _, _, _, .str z => .str z
  | _, _, _, .lst h t => .lst (SqL.of h) (lts_dq t)
  | _, _, _, .tup h t => .tup (SqT.of h) (lts_dq t)
  | _, _, _, .dic h => .dic (kvs := []) (ds := []) h .nil .nil
theorem lts_dq : ∀ {v : List V} {d : List PyData} {ls : List Addr}, Lts H v d ls → Dqs K H v d ls
  | _, _, _, .nil => .nil
  | _, _, _, .cons h t => .cons (lt_dq h) (lts_dq t)
end
mutual
theorem lt_but {a : Addr} (e : ∀ c o, H c = some o → c ≠ a → H' c = some o) (ha : ∃ xs, H a = some (.lst xs)) : ∀ {v : V} {d : PyData} {ls : List Addr}, Lt H v d ls → a ∉ ls → Lt H' v d ls
  | _, _, _, .non, _ => .non
  | _, _, _, .bl b, _ => .bl b
  | _, _, _, .int i, _ => .int i
  | _, _, _, .str z, _ => .str z
  | _, _, _, .lst h t, n => .lst (e _ _ h fun z => n (by rw [z] <;> exact List.mem_cons_self)) (lts_but e ha t fun z => n (List.mem_cons_of_mem _ z))
  | _, _, _, .tup h t, n => .tup (e _ _ h fun z => by obtain ⟨xs, q⟩ := ha; rw [z, q] at h; cases h) (lts_but e ha t n)
  | _, _, _, .dic h, _ => .dic (e _ _ h fun z => by obtain ⟨xs, q⟩ := ha; rw [z, q] at h; cases h)
theorem lts_but {a : Addr} (e : ∀ c o, H c = some o → c ≠ a → H' c = some o) (ha : ∃ xs, H a = some (.lst xs)) : ∀ {v : List V} {d : List PyData} {ls : List Addr}, Lts H v d ls → a ∉ ls → Lts H' v d ls
  | _, _, _, .nil, _ => .nil
  | _, _, _, .cons h t, n => .cons (lt_but e ha h fun z => n (List.mem_append_left _ z)) (lts_but e ha t fun z => n (List.mem_append_right _ z))
end
mutual
theorem lt_same (e : Same H H') : ∀ {v : V} {d : PyData} {ls : List Addr}, Lt H v d ls → Lt H' v d ls
  | _, _, _, .non => .non
  | _, _, _, .bl b => .bl b
  | _, _, _, .int i => .int i
  | _, _, _, .str z => .str z
  | _, _, _, .lst h t => .lst (e _ _ h) (lts_same e t)
  | _, _, _, .tup h t => .tup (e _ _ h) (lts_same e t)
  | _, _, _, .dic h => .dic (e _ _ h)
theorem lts_same (e : Same H H') : ∀ {v : List V} {d : List PyData} {ls : List Addr}, Lts H v d ls → Lts H' v d ls
  | _, _, _, .nil => .nil
  | _, _, _, .cons h t => .cons (lt_same e h) (lts_same e t)
end
mutual
theorem lt_at : ∀ {v : V} {d : PyData} {ls : List Addr}, Lt H v d ls → ∀ a ∈ ls, ∃ xs, H a = some (.lst xs)
  | _, _, _, .non, _, z => nomatch z
  | _, _, _, .bl b, _, z => nomatch z
  | _, _, _, .int i, _, z => nomatch z
  | _, _, _, .str s, _, z => nomatch z
  | _, _, _, .lst h t, b, z => (List.mem_cons.mp z).elim (fun q => ⟨_, (congrArg H q).trans h⟩) fun q => lts_at t b q
  | _, _, _, .tup h t, b, z => lts_at t b z
  | _, _, _, .dic h, _, z => nomatch z
theorem lts_at : ∀ {v : List V} {d : List PyData} {ls : List Addr}, Lts H v d ls → ∀ a ∈ ls, ∃ xs, H a = some (.lst xs)
  | _, _, _, .nil, _, z => nomatch z
  | _, _, _, .cons h t, b, z => (List.mem_append.mp z).elim (lt_at h b) (lts_at t b)
end
theorem lts_app : ∀ {vs vs' : List V} {ds ds' : List PyData} {ls ls' : List Addr}, Lts H vs ds ls → Lts H vs' ds' ls' → Lts H (vs ++ vs') (ds ++ ds') (ls ++ ls')
  | _, _, _, _, _, _, .nil, t => t
  | _, _, _, _, _, _, .cons (l1 := l1) (l2 := l2) h t, t' => by
    rw [List.append_assoc]
    exact .cons h (lts_app t t')
theorem lts_len : ∀ {vs : List V} {ds : List PyData} {ls : List Addr}, Lts H vs ds ls → vs.length = ds.length
  | _, _, _, .nil => rfl
  | _, _, _, .cons _ t => congrArg Nat.succ (lts_len t)
theorem lts_get : ∀ {vs : List V} {ds : List PyData} {ls : List Addr}, Lts H vs ds ls → ∀ (i : Nat) (v : V), vs[i]? = some v → ∃ d l, ds[i]? = some d ∧ Lt H v d l ∧ ∀ a ∈ l, a ∈ ls
  | _, _, _, .nil, i, v, h => by simp at h
  | _, _, _, .cons (d := d) (l1 := l1) h t, 0, v, e => by
    obtain rfl := Option.some.inj e
    exact ⟨d, l1, rfl, h, fun a z => List.mem_append_left _ z⟩
  | _, _, _, .cons h t, i + 1, v, e => by
    obtain ⟨d, l, e1, e2, e3⟩ := lts_get t i v e
    exact ⟨d, l, e1, e2, fun a z => List.mem_append_right _ (e3 a z)⟩
/-- a list of the data at the top: it is met in no other one -/
theorem lts_sep : ∀ {vs : List V} {ds : List PyData} {ls : List Addr}, Lts H vs ds ls → ls.Nodup → ∀ (j : Nat) (v : V), vs[j]? = some v → ∃ d l, ds[j]? = some d ∧ Lt H v d l ∧ (∀ a ∈ l, a ∈ ls) ∧
    ∀ (i : Nat) (x : V), i ≠ j → vs[i]? = some x → ∃ d' l', ds[i]? = some d' ∧ Lt H x d' l' ∧ ∀ a ∈ l, a ∉ l'
  | _, _, _, .nil, _, i, v, h => by simp at h
  | _, _, _, .cons (d := d) (l1 := l1) (l2 := l2) h t, nd, 0, v, e => by
    obtain rfl := Option.some.inj e
    refine ⟨d, l1, rfl, h, fun a z => List.mem_append_left _ z, fun i x ne ex => ?_⟩
    cases i with
    | zero => exact absurd rfl ne
    | succ i =>
      obtain ⟨d', l', e1, e2, e3⟩ := lts_get t i x ex
      exact ⟨d', l', e1, e2, fun a z z' => (List.nodup_append.mp nd).2.2 a z a (e3 a z') rfl⟩
  | _, _, _, .cons (d := d) (l1 := l1) (l2 := l2) h t, nd, j + 1, v, e => by
    obtain ⟨d1, l, e1, e2, e3, e4⟩ := lts_sep t (List.nodup_append.mp nd).2.1 j v e
    refine ⟨d1, l, e1, e2, fun a z => List.mem_append_right _ (e3 a z), fun i x ne ex => ?_⟩
    cases i with
    | zero =>
      obtain rfl := Option.some.inj ex
      exact ⟨d, l1, rfl, h, fun a z z' => (List.nodup_append.mp nd).2.2 a z' a (e3 a z) rfl⟩
    | succ i => exact e4 i x (fun z => ne (by rw [z])) ex
end
/-! ### kinds of data -/
def numD : PyData → Option Int
  | .int i => some i
  | _ => none
def kindD : PyData → String
  | .none => "NoneType"
  | .bool _ => "bool"
  | .int _ => "int"
  | .str _ => "str"
  | .list _ => "list"
  | .tuple _ => "tuple"
  | .dict _ => "dict"
mutual
def nol : PyData → Bool
  | .list _ => false
  | .tuple ds => nols ds
  | .dict _ => true
  | _ => true
def nols : List PyData → Bool
  | [] => true
  | d :: ds => nol d && nols ds
end
section
variable {H : Hp} {K : PySem.W.Frag}
theorem lt_num {v : V} {d : PyData} {ls : List Addr} (h : Lt H v d ls) : Num K H v (numD d) := by
  cases h with
  | non => exact .no whl_non
  | bl b => exact .no (whl_bl b)
  | int i => exact .is i
  | str z => exact .no (whl_str z)
  | lst h t => exact .no (whl_lst h)
  | tup h t => exact .no (whl_tup h)
  | dic h => exact .no (whl_dic h)
theorem lt_isk {v : V} {d : PyData} {ls : List Addr} {T : String} {b : Bool} (h : Lt H v d ls) (e : kitB (kindD d) T = some b) : IsK K H v T b := by
  cases h with
  | non => exact isk_non _ e
  | bl b => exact isk_bl b _ e
  | int i => exact isk_int i _ e
  | str z => exact isk_str z _ e
  | lst h t => exact isk_lst h _ e
  | tup h t => exact isk_tup h _ e
  | dic h => exact isk_dic h _ e
mutual
theorem lt_nol : ∀ {v : V} {d : PyData} {ls : List Addr}, Lt H v d ls → nol d = true → ls = []
  | _, _, _, .non, _ => rfl
  | _, _, _, .bl b, _ => rfl
  | _, _, _, .int i, _ => rfl
  | _, _, _, .str z, _ => rfl
  | _, _, _, .lst h t, e => by simp [nol] at e
  | _, _, _, .tup h t, e => lts_nol t (by simpa [nol] using e)
  | _, _, _, .dic h, _ => rfl
theorem lts_nol : ∀ {v : List V} {d : List PyData} {ls : List Addr}, Lts H v d ls → nols d = true → ls = []
  | _, _, _, .nil, _ => rfl
  | _, _, _, .cons h t, e => by
    have e2 := Bool.and_eq_true_iff.mp (by simpa [nols] using e)
    rw [lt_nol h e2.1, lts_nol t e2.2] <;> rfl
end
end
/-- such a datum is told by repr -/
def okD (d : PyData) : Bool := (nol d || !d.hasDict) && (d.showable && (decide (d.depth ≤ 60) && (decide (d.shown.length ≤ sizeLine) && PyData.strOk d.shown)))
theorem lt_rep {H : Hp} {K : PySem.W.Frag} {v : V} {d : PyData} {ls : List Addr} (h : Lt H v d ls) (e : okD d = true) : Rep K H v d.shown := by
  obtain ⟨e1, e⟩ := He.ba e
  obtain ⟨e2, e⟩ := He.ba e
  obtain ⟨e3, e⟩ := He.ba e
  obtain ⟨e4, e5⟩ := He.ba e
  refine ⟨d, ls, lt_dq h, fun z => ?_, e2, of_decide_eq_true e3, of_decide_eq_true e4, e5, rfl⟩
  rw [z] at e1
  rw [lt_nol h (by simpa using e1)]
  exact List.not_mem_nil
/-! ### displays -/
def tLit (S : L2.St → Prop) (d : PyData) : TE := fun σ H Q => S σ ∧ ∀ v H' ls, Same H H' → Lt H' v d ls → ls.Nodup → (∀ a ∈ ls, H a = none) → Q v H'
def tLits (S : L2.St → Prop) (ds : List PyData) : TA := fun σ H Q => S σ ∧ ∀ vs H' ls, Same H H' → Lts H' vs ds ls → ls.Nodup → (∀ a ∈ ls, H a = none) → Q vs H'
theorem upd_same_as {H : Hp} {p : Addr} {o : HO} (n : H p = none) : Same H (upd H p o) := fun c q e => by rw [upd_ne (ne_of_none e n)] <;> exact e
section
variable {X : Cx} {S : L2.St → Prop} {d : PyData} {ds : List PyData} {e : Expr} {es : List Expr} {pos : Pos}
theorem pe_of {te te' : TE} (h : ∀ σ H Q, te' σ H Q → te σ H Q) (p : PE X e te) : PE X e te' := ⟨fun pins s σ H Q I q => p.run pins s σ H Q I (h _ _ _ q)⟩
theorem pa_of {te te' : TA} (h : ∀ σ H Q, te' σ H Q → te σ H Q) (p : PA X es te) : PA X es te' := ⟨fun ps pins s σ H Q I q => p.run ps pins s σ H Q I (h _ _ _ q)⟩
theorem li_non {j : Nat} : PE X (.Constant .none j pos) (tLit S .none) := pe_of (fun σ H Q h => h.2 .non H [] (Same.refl H) .non List.nodup_nil fun _ z => nomatch z) pe_non
theorem li_bl {b : Bool} {j : Nat} : PE X (.Constant (.bool b) j pos) (tLit S (.bool b)) := pe_of (fun σ H Q h => h.2 (.bl b) H [] (Same.refl H) (.bl b) List.nodup_nil fun _ z => nomatch z) pe_bl
theorem li_str {x : Str} {j : Nat} : PE X (.Constant (.str x) j pos) (tLit S (.str x)) := pe_of (fun σ H Q h => h.2 (.str x) H [] (Same.refl H) (.str x) List.nodup_nil fun _ z => nomatch z) pe_str
theorem li_of {te : TE} (i : Int) (h : ∀ σ H Q, S σ → Q (.int i) H → te σ H Q) (p : PE X e te) : PE X e (tLit S (.int i)) := pe_of (fun σ H Q q => h σ H Q q.1 (q.2 (.int i) H [] (Same.refl H) (.int i) List.nodup_nil fun _ z => nomatch z)) p
theorem li_int {i : Int} {j : Nat} : PE X (.Constant (.int i) j pos) (tLit S (.int i)) := li_of i (fun _ _ _ _ q => q) pe_int
theorem li_neg {i : Int} {j : Nat} {pos2 : Pos} : PE X (.UnaryOp .USub (.Constant (.int i) j pos) pos2) (tLit S (.int (-i))) := li_of (-i) (fun _ _ _ _ q => ⟨_, rfl, q⟩) (pe_un un_neg pe_int)
theorem li_dic : PE X (.Dict [] [] pos) (tLit S (.dict [])) := pe_of (fun σ H Q h p np => h.2 (.ref p) _ [] (upd_same_as np) (.dic upd_same) List.nodup_nil fun _ z => nomatch z) pe_dnewK
theorem lis_nil : PA X [] (tLits S []) := pa_of (fun σ H Q h => h.2 [] H [] (Same.refl H) .nil List.nodup_nil fun _ z => nomatch z) pa_nil
theorem lis_cons (h : PE X e (tLit S d)) (t : PA X es (tLits S ds)) (hs : starEach (e :: es) X.env = (false, eval e X.env) :: starEach es X.env := by rfl) : PA X (e :: es) (tLits S (d :: ds)) := by
  refine pa_of (fun σ H Q q => ?_) (pa_cons h t hs)
  refine ⟨q.1, fun v H1 l1 s1 t1 n1 f1 => ⟨q.1, fun vs H2 l2 s2 t2 n2 f2 => q.2 (v :: vs) H2 (l1 ++ l2) (s1.trans s2) (.cons (lt_same s2 t1) t2) ?_ fun a z => ?_⟩⟩
  · refine List.nodup_append.mpr ⟨n1, n2, fun a z b z2 e => ?_⟩
    obtain ⟨xs, y⟩ := lt_at t1 a z
    rw [e, f2 b z2] at y
    cases y
  · rcases List.mem_append.mp z with z | z
    · exact f1 a z
    · exact s1.free (f2 a z)
theorem li_tup {x : Nat} (h : PA X es (tLits S ds)) (z : ds.length ≤ 1000) : PE X (.Tuple es x pos) (tLit S (.tuple ds)) := by
  refine pe_of (fun σ H Q q => ?_) (pe_tup h)
  refine ⟨q.1, fun vs H1 ls s1 t1 n1 f1 => ⟨?_, fun p np => q.2 (.ref p) _ ls (s1.trans (upd_same_as np)) (.tup upd_same (lts_same (upd_same_as np) t1)) n1 f1⟩⟩
  rw [lts_len t1, sizeLine_eq]
  omega
theorem li_lst (h : PA X es (tLits S ds)) (z : ds.length ≤ 1000) : PE X (.List es pos) (tLit S (.list ds)) := by
  refine pe_of (fun σ H Q q => ?_) (pe_lst h)
  refine ⟨q.1, fun vs H1 ls s1 t1 n1 f1 => ⟨?_, fun p np => q.2 (.ref p) _ (p :: ls) (s1.trans (upd_same_as np)) (.lst upd_same (lts_same (upd_same_as np) t1)) (List.nodup_cons.mpr ⟨fun z => ?_, n1⟩) fun a z => ?_⟩⟩
  · rw [lts_len t1, sizeLine_eq]
    omega
  · obtain ⟨xs, y⟩ := lts_at t1 p z
    rw [np] at y
    cases y
  · rcases List.mem_cons.mp z with z | z
    · rw [z]
      exact s1.free np
    · exact f1 a z
end
end Xl
/-! Own ground, part K: written lists gone through, one of whose elements is a list that is lengthened. -/
namespace Xk
open PySem PySem.Spec PyProof.Rows L2 Xa Xb Xc Xp Xr Xl
/-- all but a is as it was -/
def Evo (a : Addr) (H H' : Hp) : Prop := ∀ c o, H c = some o → c ≠ a → H' c = some o
theorem Evo.same {a : Addr} {H H' H2 : Hp} (e : Evo a H H') (s : Same H' H2) : Evo a H H2 := fun c o h n => s c o (e c o h n)
theorem Evo.trans {a : Addr} {H H' H2 : Hp} (e : Evo a H H') (s : Evo a H' H2) : Evo a H H2 := fun c o h n => s c o (e c o h n) n
theorem Evo.of {a : Addr} {H H' : Hp} (s : Same H H') : Evo a H H' := fun c o h _ => s c o h
theorem Evo.all {a : Addr} {H0 H H' : Hp} (s : Same H0 H) (n : H0 a = none) (e : Evo a H H') : Same H0 H' := fun c o h => e c o (s c o h) (ne_of_none h n)
def mores (k : Nat) : List V := List.replicate k (.str "more")
def mored (base : List PyData) (k : Nat) : PyData := .list (base ++ List.replicate k (.str "more"))
structure Pk (H : Hp) (vs : List V) (ds : List PyData) (j : Nat) (base : List PyData) (a : Addr) (xs : List V) : Prop where
  pos : vs[j]? = some (.ref a)
  lst : H a = some (.lst xs)
  els : Lts H xs base []
  oth : ∀ (i : Nat) (x : V), i ≠ j → vs[i]? = some x → ∃ d l, ds[i]? = some d ∧ Lt H x d l ∧ a ∉ l
theorem pick {H : Hp} {vs : List V} {ds : List PyData} {ls : List Addr} {j : Nat} {base : List PyData} (t : Lts H vs ds ls) (nd : ls.Nodup) (hj : ds[j]? = some (.list base)) (nb : nols base = true) : ∃ a xs, Pk H vs ds j base a xs ∧ a ∈ ls := by
  have hl : j < vs.length := by
    rw [lts_len t]
    exact (List.getElem?_eq_some_iff.mp hj).1
  obtain ⟨d, l, e1, e2, e3, e4⟩ := lts_sep t nd j vs[j] (List.getElem?_eq_getElem hl)
  rw [hj] at e1
  obtain rfl := Option.some.inj e1
  generalize hv : vs[j] = v at e2
  cases e2 with
  | lst h t2 =>
    have z := lts_nol t2 nb
    subst z
    exact ⟨_, _, ⟨by rw [List.getElem?_eq_getElem hl, hv], h, t2, fun i x ne ex => let ⟨d', l', q1, q2, q3⟩ := e4 i x ne ex; ⟨d', l', q1, q2, q3 _ List.mem_cons_self⟩⟩, e3 _ List.mem_cons_self⟩
section
variable {H H' : Hp} {vs : List V} {ds : List PyData} {j : Nat} {base : List PyData} {a : Addr} {xs : List V} {i : Nat} {x : V} {K : PySem.W.Frag}
theorem lts_more (k : Nat) : Lts H (mores k) (List.replicate k (.str "more")) [] := by
  induction k with
  | zero => exact .nil
  | succ k ih => exact .cons (.str _) ih
theorem Pk.elem (p : Pk H vs ds j base a xs) (k : Nat) (e : Evo a H H') (hk : i = j → H' a = some (.lst (xs ++ mores k))) (hx : vs[i]? = some x) : ∃ d l, Lt H' x d l ∧ (i ≠ j → ds[i]? = some d) ∧ (i = j → d = mored base k ∧ x = .ref a) := by
  by_cases ij : i = j
  · subst ij
    rw [p.pos] at hx
    obtain rfl := Option.some.inj hx
    have q : Lts H' (xs ++ mores k) (base ++ List.replicate k (.str "more")) ([] ++ []) := lts_app (lts_but e ⟨_, p.lst⟩ p.els (by simp)) (lts_more k)
    exact ⟨_, _, .lst (hk rfl) q, fun z => absurd rfl z, fun _ => ⟨rfl, rfl⟩⟩
  · obtain ⟨d, l, q1, q2, q3⟩ := p.oth i x ij hx
    exact ⟨d, l, lt_but e ⟨_, p.lst⟩ q2 q3, fun _ => q1, fun z => absurd z ij⟩
theorem Pk.res (p : Pk H vs ds j base a xs) (k : Nat) (kz : k < 100) (e : Evo a H H') (hk : i = j → H' a = some (.lst (xs ++ mores k))) (hx : vs[i]? = some x) (bz : base.length < 100)
    (ok : ∀ d, i ≠ j → ds[i]? = some d → okD d = true ∧ kitB (kindD d) "list" = some false) (okm : i = j → okD (mored base (k + 1)) = true) :
    ∃ t H2, Res K H' x t H2 ∧ Evo a H' H2 ∧ (i ≠ j → H2 = H') ∧ (i = j → H2 a = some (.lst (xs ++ mores (k + 1)))) := by
  by_cases ij : i = j
  · have hk2 := hk ij
    have okm2 := okm ij
    subst ij
    rw [p.pos] at hx
    obtain rfl := Option.some.inj hx
    have em : (xs ++ mores k) ++ [V.str "more"] = xs ++ mores (k + 1) := by
      unfold mores
      rw [List.append_assoc, List.replicate_succ']
    have hs : (upd H' a (.lst (xs ++ mores (k + 1)))) a = some (.lst (xs ++ mores (k + 1))) := upd_same
    have ev : Evo a H' (upd H' a (.lst (xs ++ mores (k + 1)))) := fun c o h n => by rw [upd_ne n] <;> exact h
    have q : Lts (upd H' a (.lst (xs ++ mores (k + 1)))) (xs ++ mores (k + 1)) (base ++ List.replicate (k + 1) (.str "more")) ([] ++ []) := lts_app (lts_but (e.trans ev) ⟨_, p.lst⟩ p.els (by simp)) (lts_more (k + 1))
    have r : Rep K (upd H' a (.lst ((xs ++ mores k) ++ [V.str "more"]))) (.ref a) (mored base (k + 1)).shown := by
      rw [em]
      exact lt_rep (.lst hs q) okm2
    have len := lts_len p.els
    have R : Res K H' (.ref a) (mored base (k + 1)).shown (upd H' a (.lst ((xs ++ mores k) ++ [V.str "more"]))) := Res.list hk2 (by rw [List.length_append]; unfold mores; rw [List.length_replicate]; omega) r
    refine ⟨_, _, R, by rw [em] <;> exact ev, fun z => absurd rfl z, fun _ => ?_⟩
    rw [em] <;> exact hs
  · obtain ⟨d, l, q1, q2, q3⟩ := p.oth i x ij hx
    obtain ⟨o1, o2⟩ := ok d ij q1
    have q4 := lt_but e ⟨_, p.lst⟩ q2 q3
    exact ⟨_, H', .other (lt_isk q4 o2) (lt_rep q4 o1), Evo.of (Same.refl _), fun _ => rfl, fun z => absurd z ij⟩
end
/-! ### the told triple -/
def triple (b1 b2 : Bool) (t : Str) : PyData := .list [.bool b1, .bool b2, .str t]
theorem triple_shaped (b1 b2 : Bool) {t : Str} (h : PyData.strOk t = true) : SeqAt.shaped (triple b1 b2 t) = true := by
  simp [h, SeqAt.shaped, triple, PyData.canLay0, PyData.canLayAll0, PyData.depth, PyData.depthAll]
theorem triple_eqv (b1 b2 : Bool) (t : Str) : PyData.eqv (triple b1 b2 t) (triple b1 b2 t) = true := by
  simp [triple, PyData.eqv, PyData.eqvAll]
theorem triple_at {K : PySem.W.Frag} {H : Hp} {r : Addr} {b1 b2 : Bool} {t : Str} (h : H r = some (.lst [.bl b1, .bl b2, .str t])) : Dp K H (.ref r) (triple b1 b2 t) :=
  .lst (SqL.of h) (.cons (.bl _) (.cons (.bl _) (.cons (.str _) .nil)))
end Xk
/-! Own ground, part T: lists of tuples of ints as data. -/
namespace Xt
open PySem PySem.Spec PyProof.Rows L2 Xa Xb Xc Xp Xr Xl Xk
def tupD (l : List Int) : PyData := .tuple (l.map .int)
def lisD (ls : List (List Int)) : PyData := .list (ls.map tupD)
section
theorem ints_lay : ∀ l : List Int, PyData.canLayAll0 (l.map .int) = true
  | [] => by simp [PyData.canLayAll0]
  | x :: l => by simp [PyData.canLayAll0, PyData.canLay0, ints_lay l]
theorem tups_lay : ∀ ls : List (List Int), PyData.canLayAll0 (ls.map tupD) = true
  | [] => by simp [PyData.canLayAll0]
  | x :: l => by simp [PyData.canLayAll0, PyData.canLay0, tupD, ints_lay x, tups_lay l]
theorem ints_depth : ∀ l : List Int, PyData.depthAll (l.map .int) = 0
  | [] => by simp [PyData.depthAll]
  | x :: l => by simp [PyData.depthAll, PyData.depth, ints_depth l]
theorem tups_depth : ∀ ls : List (List Int), PyData.depthAll (ls.map tupD) ≤ 1
  | [] => by simp [PyData.depthAll]
  | x :: l => by
    have := tups_depth l
    simp only [List.map_cons, PyData.depthAll, PyData.depth, tupD, ints_depth]
    omega
theorem lis_depth (ls : List (List Int)) : (lisD ls).depth ≤ 2 := by
  have := tups_depth ls
  simp only [lisD, PyData.depth]
  omega
theorem ints_nodict : ∀ l : List Int, PyData.hasDictAll (l.map .int) = false
  | [] => by simp [PyData.hasDictAll]
  | x :: l => by simp [PyData.hasDictAll, PyData.hasDict, ints_nodict l]
theorem tups_nodict : ∀ ls : List (List Int), PyData.hasDictAll (ls.map tupD) = false
  | [] => by simp [PyData.hasDictAll]
  | x :: l => by simp [PyData.hasDictAll, PyData.hasDict, tupD, ints_nodict x, tups_nodict l]
theorem lis_shaped (ls : List (List Int)) : SeqAt.shaped (lisD ls) = true := by
  have h1 : (lisD ls).canLay0 = true := by simp [lisD, PyData.canLay0, tups_lay]
  have h2 := lis_depth ls
  have h3 : (lisD ls).depth ≤ 64 := by omega
  simp [SeqAt.shaped, h1, h3]
theorem lis_eqv (ls : List (List Int)) : PyData.eqv (lisD ls) (lisD ls) = true := SeqAt.eqv_refl _ (by simp [lisD, PyData.canLay0, tups_lay])
/-- short ones of bounded ints -/
def Short (ls : List (List Int)) : Prop := ls.length < 64 ∧ ∀ l ∈ ls, l.length ≤ 3 ∧ ∀ z ∈ l, z.natAbs < 10 ^ 30
theorem log_lt {z : Int} (h : z.natAbs < 10 ^ 30) : z.natAbs.log2 < 100 := by
  have h1 : z.natAbs < 2 ^ 100 := Nat.lt_of_lt_of_le h (by decide)
  exact PySem.Flt.log2_lt_of (k := 100) (by decide) h1
theorem ints_showable : ∀ l : List Int, (∀ z ∈ l, z.natAbs < 10 ^ 30) → PyData.showableAll (l.map .int) = true
  | [], _ => by simp [PyData.showableAll]
  | x :: l, h => by
    have h1 := log_lt (h x List.mem_cons_self)
    have h2 : x.natAbs.log2 < 1920 := by omega
    simp [PyData.showableAll, PyData.showable, h2, ints_showable l fun z hz => h z (List.mem_cons_of_mem _ hz)]
theorem tups_showable : ∀ ls : List (List Int), (∀ l ∈ ls, ∀ z ∈ l, z.natAbs < 10 ^ 30) → PyData.showableAll (ls.map tupD) = true
  | [], _ => by simp [PyData.showableAll]
  | x :: l, h => by simp [PyData.showableAll, PyData.showable, tupD, ints_showable x (h x List.mem_cons_self), tups_showable l fun z hz => h z (List.mem_cons_of_mem _ hz)]
theorem int_short {z : Int} (h : z.natAbs < 10 ^ 30) : (PyData.int z).shown.length ≤ 32 := by
  have e := int_text_length_le10 (k := 30) (by decide) h
  show (Str.ofString (toString z)).length ≤ 32
  rw [PySem.ofString_length]
  omega
theorem ints_short : ∀ l : List Int, (∀ z ∈ l, z.natAbs < 10 ^ 30) → PyData.leavesShortAll 32 (l.map .int) = true
  | [], _ => by simp [PyData.leavesShortAll]
  | x :: l, h => by simp [PyData.leavesShortAll, PyData.leavesShort, int_short (h x List.mem_cons_self), ints_short l fun z hz => h z (List.mem_cons_of_mem _ hz)]
theorem tups_short : ∀ ls : List (List Int), (∀ l ∈ ls, ∀ z ∈ l, z.natAbs < 10 ^ 30) → PyData.leavesShortAll 32 (ls.map tupD) = true
  | [], _ => by simp [PyData.leavesShortAll]
  | x :: l, h => by simp [PyData.leavesShortAll, PyData.leavesShort, tupD, ints_short x (h x List.mem_cons_self), tups_short l fun z hz => h z (List.mem_cons_of_mem _ hz)]
theorem ints_weight : ∀ l : List Int, (∀ z ∈ l, z.natAbs < 10 ^ 30) → PyData.weightAll (l.map .int) ≤ 101 * l.length
  | [], _ => by simp [PyData.weightAll]
  | x :: l, h => by
    have h1 := log_lt (h x List.mem_cons_self)
    have h2 := ints_weight l fun z hz => h z (List.mem_cons_of_mem _ hz)
    have h3 : PyData.weight (.int x) ≤ 100 := by
      simp only [PyData.weight]
      split <;> omega
    simp only [List.map_cons, PyData.weightAll, List.length_cons]
    omega
theorem tups_weight : ∀ ls : List (List Int), (∀ l ∈ ls, l.length ≤ 3 ∧ ∀ z ∈ l, z.natAbs < 10 ^ 30) → PyData.weightAll (ls.map tupD) ≤ 304 * ls.length
  | [], _ => by simp [PyData.weightAll]
  | x :: l, h => by
    obtain ⟨h1, h4⟩ := h x List.mem_cons_self
    have h2 := tups_weight l fun z hz => h z (List.mem_cons_of_mem _ hz)
    have h3 := ints_weight x h4
    simp only [List.map_cons, PyData.weightAll, List.length_cons, tupD, PyData.weight]
    omega
theorem lis_len {ls : List (List Int)} (h : Short ls) : (lisD ls).shown.length ≤ sizeLine := by
  obtain ⟨h1, h2⟩ := h
  have h3 := tups_short ls fun l hl => (h2 l hl).2
  have h4 := tups_weight ls h2
  have h5 := PyData.shown_le 32 (by decide) (lisD ls) (by simpa [lisD, PyData.leavesShort] using h3)
  have h6 : (lisD ls).weight ≤ 304 * 64 := by
    simp only [lisD, PyData.weight]
    omega
  have h7 : (32 + 2) * (lisD ls).weight ≤ 34 * (304 * 64) := Nat.mul_le_mul (Nat.le_refl _) h6
  rw [sizeLine_eq]
  omega
end
section
variable {K : PySem.W.Frag} {H : Hp}
theorem dqs_ints : ∀ l : List Int, Dqs K H (l.map V.int) (l.map .int) []
  | [] => .nil
  | x :: l => .cons (l1 := []) (.int x) (dqs_ints l)
theorem dqs_tups : ∀ ks : List (Addr × List Int), (∀ q ∈ ks, H q.1 = some (.tup (q.2.map V.int))) → Dqs K H (ks.map fun q => V.ref q.1) ((ks.map (·.2)).map tupD) []
  | [], _ => .nil
  | q :: ks, h => .cons (l1 := []) (.tup (SqT.of (h q List.mem_cons_self)) (dqs_ints q.2)) (dqs_tups ks fun z hz => h z (List.mem_cons_of_mem _ hz))
/-- the reading of repr of such a list -/
theorem rr_lis {u : Addr} {ks : List (Addr × List Int)} {Q : VK} (h : H u = some (.lst (ks.map fun q => V.ref q.1))) (t : ∀ q ∈ ks, H q.1 = some (.tup (q.2.map V.int))) (s : Short (ks.map (·.2))) (q : Q (.str (lisD (ks.map (·.2))).shown) H) : rRepr K [V.ref u] H Q := by
  refine ⟨.ref u, lisD (ks.map (·.2)), [u], rfl, .lst (SqL.of h) (dqs_tups ks t), fun z => ?_, ?_, ?_, lis_len s, q⟩
  · have := tups_nodict (ks.map (·.2))
    simp only [lisD, PyData.hasDict] at z
    rw [this] at z
    cases z
  · simp only [lisD, PyData.showable]
    exact tups_showable _ fun l hl => (s.2 l hl).2
  · have := lis_depth (ks.map (·.2))
    omega
/-- what the reading of repr of such a list asks -/
theorem lis_in {u : Addr} {ks : List (Addr × List Int)} (h : H u = some (.lst (ks.map fun q => V.ref q.1))) (t : ∀ q ∈ ks, H q.1 = some (.tup (q.2.map V.int))) (s : Short (ks.map (·.2))) :
    Dq K H (.ref u) (lisD (ks.map (·.2))) [u] ∧ ((lisD (ks.map (·.2))).hasDict = true → sysModules ∉ [u]) ∧ (lisD (ks.map (·.2))).showable = true ∧ (lisD (ks.map (·.2))).depth ≤ 60 ∧ (lisD (ks.map (·.2))).shown.length ≤ sizeLine := by
  refine ⟨.lst (SqL.of h) (dqs_tups ks t), fun z => ?_, ?_, ?_, lis_len s⟩
  · have := tups_nodict (ks.map (·.2))
    simp only [lisD, PyData.hasDict] at z
    rw [this] at z
    cases z
  · simp only [lisD, PyData.showable]
    exact tups_showable _ fun l hl => (s.2 l hl).2
  · have := lis_depth (ks.map (·.2))
    omega
theorem dp_ints : ∀ l : List Int, DpAll K H (l.map V.int) (l.map .int)
  | [] => .nil
  | x :: l => .cons (.int x) (dp_ints l)
theorem dp_tups : ∀ ks : List (Addr × List Int), (∀ q ∈ ks, H q.1 = some (.tup (q.2.map V.int))) → DpAll K H (ks.map fun q => V.ref q.1) ((ks.map (·.2)).map tupD)
  | [], _ => .nil
  | q :: ks, h => .cons (.tup (SqT.of (h q List.mem_cons_self)) (dp_ints q.2)) (dp_tups ks fun z hz => h z (List.mem_cons_of_mem _ hz))
theorem dp_lis {u : Addr} {ks : List (Addr × List Int)} (h : H u = some (.lst (ks.map fun q => V.ref q.1))) (t : ∀ q ∈ ks, H q.1 = some (.tup (q.2.map V.int))) : Dp K H (.ref u) (lisD (ks.map (·.2))) := .lst (SqL.of h) (dp_tups ks t)
end
end Xt
/-! Own ground, part Q: lists of lists of small ints as data. -/
namespace Xq
open PySem PySem.Spec PyProof.Rows L2 Xa Xb Xc Xp Xr Xl Xk Xt
def lstD (l : List Int) : PyData := .list (l.map .int)
def llD (ls : List (List Int)) : PyData := .list (ls.map lstD)
section
theorem lsts_lay : ∀ ls : List (List Int), PyData.canLayAll0 (ls.map lstD) = true
  | [] => by simp [PyData.canLayAll0]
  | x :: l => by simp [PyData.canLayAll0, PyData.canLay0, lstD, ints_lay x, lsts_lay l]
theorem lsts_depth : ∀ ls : List (List Int), PyData.depthAll (ls.map lstD) ≤ 1
  | [] => by simp [PyData.depthAll]
  | x :: l => by
    have := lsts_depth l
    simp only [List.map_cons, PyData.depthAll, PyData.depth, lstD, ints_depth]
    omega
theorem ll_depth (ls : List (List Int)) : (llD ls).depth ≤ 2 := by
  have := lsts_depth ls
  simp only [llD, PyData.depth]
  omega
theorem lsts_nodict : ∀ ls : List (List Int), PyData.hasDictAll (ls.map lstD) = false
  | [] => by simp [PyData.hasDictAll]
  | x :: l => by simp [PyData.hasDictAll, PyData.hasDict, lstD, ints_nodict x, lsts_nodict l]
theorem ll_nodict (ls : List (List Int)) : (llD ls).hasDict = false := by simp [llD, PyData.hasDict, lsts_nodict]
theorem ll_shaped (ls : List (List Int)) : SeqAt.shaped (llD ls) = true := by
  have h1 : (llD ls).canLay0 = true := by simp [llD, PyData.canLay0, lsts_lay]
  have h2 := ll_depth ls
  have h3 : (llD ls).depth ≤ 64 := by omega
  simp [SeqAt.shaped, h1, h3]
theorem ll_eqv (ls : List (List Int)) : PyData.eqv (llD ls) (llD ls) = true := SeqAt.eqv_refl _ (by simp [llD, PyData.canLay0, lsts_lay])
/-- many short ones of bounded ints -/
def Brief (ls : List (List Int)) : Prop := ls.length ≤ 1000 ∧ ∀ l ∈ ls, l.length ≤ 3 ∧ ∀ z ∈ l, z.natAbs < 10 ^ 30
theorem lsts_showable : ∀ ls : List (List Int), (∀ l ∈ ls, ∀ z ∈ l, z.natAbs < 10 ^ 30) → PyData.showableAll (ls.map lstD) = true
  | [], _ => by simp [PyData.showableAll]
  | x :: l, h => by simp [PyData.showableAll, PyData.showable, lstD, ints_showable x (h x List.mem_cons_self), lsts_showable l fun z hz => h z (List.mem_cons_of_mem _ hz)]
theorem lsts_short : ∀ ls : List (List Int), (∀ l ∈ ls, ∀ z ∈ l, z.natAbs < 10 ^ 30) → PyData.leavesShortAll 32 (ls.map lstD) = true
  | [], _ => by simp [PyData.leavesShortAll]
  | x :: l, h => by simp [PyData.leavesShortAll, PyData.leavesShort, lstD, ints_short x (h x List.mem_cons_self), lsts_short l fun z hz => h z (List.mem_cons_of_mem _ hz)]
theorem lsts_weight : ∀ ls : List (List Int), (∀ l ∈ ls, l.length ≤ 3 ∧ ∀ z ∈ l, z.natAbs < 10 ^ 30) → PyData.weightAll (ls.map lstD) ≤ 304 * ls.length
  | [], _ => by simp [PyData.weightAll]
  | x :: l, h => by
    obtain ⟨h1, h4⟩ := h x List.mem_cons_self
    have h2 := lsts_weight l fun z hz => h z (List.mem_cons_of_mem _ hz)
    have h3 := ints_weight x h4
    simp only [List.map_cons, PyData.weightAll, List.length_cons, lstD, PyData.weight]
    omega
theorem ll_len {ls : List (List Int)} (h : Brief ls) : (llD ls).shown.length ≤ sizeLine := by
  obtain ⟨h1, h2⟩ := h
  have h3 := lsts_short ls fun l hl => (h2 l hl).2
  have h4 := lsts_weight ls h2
  have h5 := PyData.shown_le 32 (by decide) (llD ls) (by simpa [llD, PyData.leavesShort] using h3)
  have h6 : (llD ls).weight ≤ 304 * 1001 := by
    simp only [llD, PyData.weight]
    omega
  have h7 : (32 + 2) * (llD ls).weight ≤ 34 * (304 * 1001) := Nat.mul_le_mul (Nat.le_refl _) h6
  rw [sizeLine_eq]
  omega
end
section
variable {K : PySem.W.Frag} {H : Hp}
/-- at u stands a list of lists of ints -/
def LL (H : Hp) (u : Addr) (ks : List (Addr × List Int)) : Prop := H u = some (.lst (ks.map fun q => V.ref q.1)) ∧ ∀ q ∈ ks, H q.1 = some (.lst (q.2.map V.int))
theorem LL.same {H H' : Hp} (e : Same H H') {u : Addr} {ks : List (Addr × List Int)} (h : LL H u ks) : LL H' u ks := ⟨e _ _ h.1, fun q hq => e _ _ (h.2 q hq)⟩
theorem dqs_lsts : ∀ ks : List (Addr × List Int), (∀ q ∈ ks, H q.1 = some (.lst (q.2.map V.int))) → Dqs K H (ks.map fun q => V.ref q.1) ((ks.map (·.2)).map lstD) (ks.map (·.1))
  | [], _ => .nil
  | q :: ks, h => .cons (l1 := [q.1]) (.lst (ls := []) (SqL.of (h q List.mem_cons_self)) (dqs_ints q.2)) (dqs_lsts ks fun z hz => h z (List.mem_cons_of_mem _ hz))
theorem ll_in {u : Addr} {ks : List (Addr × List Int)} (h : LL H u ks) (s : Brief (ks.map (·.2))) :
    Dq K H (.ref u) (llD (ks.map (·.2))) (u :: ks.map (·.1)) ∧ ((llD (ks.map (·.2))).hasDict = true → sysModules ∉ (u :: ks.map (·.1))) ∧ (llD (ks.map (·.2))).showable = true ∧ (llD (ks.map (·.2))).depth ≤ 60 ∧ (llD (ks.map (·.2))).shown.length ≤ sizeLine := by
  refine ⟨.lst (SqL.of h.1) (dqs_lsts ks h.2), fun z => ?_, ?_, ?_, ll_len s⟩
  · rw [ll_nodict] at z
    cases z
  · simp only [llD, PyData.showable]
    exact lsts_showable _ fun l hl => (s.2 l hl).2
  · have := ll_depth (ks.map (·.2))
    omega
/-- the reading of repr of such a list -/
theorem rr_ll {u : Addr} {ks : List (Addr × List Int)} {Q : VK} (h : LL H u ks) (s : Brief (ks.map (·.2))) (q : Q (.str (llD (ks.map (·.2))).shown) H) : rRepr K [V.ref u] H Q := by
  obtain ⟨a, b, c, d, e⟩ := ll_in (K := K) h s
  exact ⟨.ref u, _, _, rfl, a, b, c, d, e, q⟩
theorem dp_lsts : ∀ ks : List (Addr × List Int), (∀ q ∈ ks, H q.1 = some (.lst (q.2.map V.int))) → DpAll K H (ks.map fun q => V.ref q.1) ((ks.map (·.2)).map lstD)
  | [], _ => .nil
  | q :: ks, h => .cons (.lst (SqL.of (h q List.mem_cons_self)) (dp_ints q.2)) (dp_lsts ks fun z hz => h z (List.mem_cons_of_mem _ hz))
theorem dp_ll {u : Addr} {ks : List (Addr × List Int)} (h : LL H u ks) : Dp K H (.ref u) (llD (ks.map (·.2))) := .lst (SqL.of h.1) (dp_lsts ks h.2)
end
end Xq
/-! Own ground, part U: written data, laid anew, that may hold lists that stood before. -/
namespace Xu
open PySem PySem.Spec PyProof.Rows L2 Xa Xb Xc Xp Xr Xl Xk Xt Xq
mutual
inductive Lu (O : Addr → Prop) (H : Hp) : V → PyData → List Addr → Prop
  | non : Lu O H .non .none []
  | bl (b : Bool) : Lu O H (.bl b) (.bool b) []
  | int (i : Int) : Lu O H (.int i) (.int i) []
  | str (z : Str) : Lu O H (.str z) (.str z) []
  | lst {a : Addr} {xs : List V} {ds : List PyData} {ls : List Addr} : H a = some (.lst xs) → Lus O H xs ds ls → Lu O H (.ref a) (.list ds) (a :: ls)
  | tup {a : Addr} {xs : List V} {ds : List PyData} {ls : List Addr} : H a = some (.tup xs) → Lus O H xs ds ls → Lu O H (.ref a) (.tuple ds) ls
  | dic {a : Addr} : H a = some (.dK []) → Lu O H (.ref a) (.dict []) []
  | old {a : Addr} {l : List Int} : O a → H a = some (.lst (l.map V.int)) → Lu O H (.ref a) (lstD l) []
inductive Lus (O : Addr → Prop) (H : Hp) : List V → List PyData → List Addr → Prop
  | nil : Lus O H [] [] []
  | cons {v : V} {vs : List V} {d : PyData} {ds : List PyData} {l1 l2 : List Addr} : Lu O H v d l1 → Lus O H vs ds l2 → Lus O H (v :: vs) (d :: ds) (l1 ++ l2)
end
section
variable {O : Addr → Prop} {H H' : Hp} {K : PySem.W.Frag}
mutual
/-- read as data; the lists named are some list -/
theorem lu_dq : ∀ {v : V} {d : PyData} {ls : List Addr}, Lu O H v d ls → ∃ ls', Dq K H v d ls'
  | _, _, _, .non => ⟨_, .non⟩
  | _, _, _, .bl b => ⟨_, .bl b⟩
  | _, _, _, .int i => ⟨_, .int i⟩
  | _, _, _, .str z => ⟨_, .str z⟩
  | _, _, _, .lst h t => let ⟨_, q⟩ := lus_dq t; ⟨_, .lst (SqL.of h) q⟩
  | _, _, _, .tup h t => let ⟨_, q⟩ := lus_dq t; ⟨_, .tup (SqT.of h) q⟩
  | _, _, _, .dic h => ⟨_, .dic (kvs := []) (ds := []) h .nil .nil⟩
  | _, _, _, .old _ h => ⟨_, .lst (SqL.of h) (dqs_ints _)⟩
theorem lus_dq : ∀ {v : List V} {d : List PyData} {ls : List Addr}, Lus O H v d ls → ∃ ls', Dqs K H v d ls'
  | _, _, _, .nil => ⟨_, .nil⟩
  | _, _, _, .cons h t => let ⟨_, q⟩ := lu_dq h; let ⟨_, r⟩ := lus_dq t; ⟨_, .cons q r⟩
end
mutual
theorem lu_but {a : Addr} (e : ∀ c o, H c = some o → c ≠ a → H' c = some o) (ha : ∃ xs, H a = some (.lst xs)) (hO : ¬ O a) : ∀ {v : V} {d : PyData} {ls : List Addr}, Lu O H v d ls → a ∉ ls → Lu O H' v d ls
  | _, _, _, .non, _ => .non
  | _, _, _, .bl b, _ => .bl b
  | _, _, _, .int i, _ => .int i
  | _, _, _, .str z, _ => .str z
  | _, _, _, .lst h t, n => .lst (e _ _ h fun z => n (by rw [z] <;> exact List.mem_cons_self)) (lus_but e ha hO t fun z => n (List.mem_cons_of_mem _ z))
  | _, _, _, .tup h t, n => .tup (e _ _ h fun z => by obtain ⟨xs, q⟩ := ha; rw [z, q] at h; cases h) (lus_but e ha hO t n)
  | _, _, _, .dic h, _ => .dic (e _ _ h fun z => by obtain ⟨xs, q⟩ := ha; rw [z, q] at h; cases h)
  | _, _, _, .old o h, _ => .old o (e _ _ h fun z => hO (by rw [← z] <;> exact o))
theorem lus_but {a : Addr} (e : ∀ c o, H c = some o → c ≠ a → H' c = some o) (ha : ∃ xs, H a = some (.lst xs)) (hO : ¬ O a) : ∀ {v : List V} {d : List PyData} {ls : List Addr}, Lus O H v d ls → a ∉ ls → Lus O H' v d ls
  | _, _, _, .nil, _ => .nil
  | _, _, _, .cons h t, n => .cons (lu_but e ha hO h fun z => n (List.mem_append_left _ z)) (lus_but e ha hO t fun z => n (List.mem_append_right _ z))
end
mutual
theorem lu_same (e : Same H H') : ∀ {v : V} {d : PyData} {ls : List Addr}, Lu O H v d ls → Lu O H' v d ls
  | _, _, _, .non => .non
  | _, _, _, .bl b => .bl b
  | _, _, _, .int i => .int i
  | _, _, _, .str z => .str z
  | _, _, _, .lst h t => .lst (e _ _ h) (lus_same e t)
  | _, _, _, .tup h t => .tup (e _ _ h) (lus_same e t)
  | _, _, _, .dic h => .dic (e _ _ h)
  | _, _, _, .old o h => .old o (e _ _ h)
theorem lus_same (e : Same H H') : ∀ {v : List V} {d : List PyData} {ls : List Addr}, Lus O H v d ls → Lus O H' v d ls
  | _, _, _, .nil => .nil
  | _, _, _, .cons h t => .cons (lu_same e h) (lus_same e t)
end
mutual
theorem lu_at : ∀ {v : V} {d : PyData} {ls : List Addr}, Lu O H v d ls → ∀ a ∈ ls, ∃ xs, H a = some (.lst xs)
  | _, _, _, .non, _, z => nomatch z
  | _, _, _, .bl b, _, z => nomatch z
  | _, _, _, .int i, _, z => nomatch z
  | _, _, _, .str s, _, z => nomatch z
  | _, _, _, .lst h t, b, z => (List.mem_cons.mp z).elim (fun q => ⟨_, (congrArg H q).trans h⟩) fun q => lus_at t b q
  | _, _, _, .tup h t, b, z => lus_at t b z
  | _, _, _, .dic h, _, z => nomatch z
  | _, _, _, .old o h, _, z => nomatch z
theorem lus_at : ∀ {v : List V} {d : List PyData} {ls : List Addr}, Lus O H v d ls → ∀ a ∈ ls, ∃ xs, H a = some (.lst xs)
  | _, _, _, .nil, _, z => nomatch z
  | _, _, _, .cons h t, b, z => (List.mem_append.mp z).elim (lu_at h b) (lus_at t b)
end
theorem lus_app : ∀ {vs vs' : List V} {ds ds' : List PyData} {ls ls' : List Addr}, Lus O H vs ds ls → Lus O H vs' ds' ls' → Lus O H (vs ++ vs') (ds ++ ds') (ls ++ ls')
  | _, _, _, _, _, _, .nil, t => t
  | _, _, _, _, _, _, .cons (l1 := l1) (l2 := l2) h t, t' => by
    rw [List.append_assoc]
    exact .cons h (lus_app t t')
theorem lus_len : ∀ {vs : List V} {ds : List PyData} {ls : List Addr}, Lus O H vs ds ls → vs.length = ds.length
  | _, _, _, .nil => rfl
  | _, _, _, .cons _ t => congrArg Nat.succ (lus_len t)
theorem lu_num {v : V} {d : PyData} {ls : List Addr} (h : Lu O H v d ls) : Num K H v (numD d) := by
  cases h with
  | non => exact .no whl_non
  | bl b => exact .no (whl_bl b)
  | int i => exact .is i
  | str z => exact .no (whl_str z)
  | lst h t => exact .no (whl_lst h)
  | tup h t => exact .no (whl_tup h)
  | dic h => exact .no (whl_dic h)
  | old o h => exact .no (whl_lst h)
theorem lu_isk {v : V} {d : PyData} {ls : List Addr} {T : String} {b : Bool} (h : Lu O H v d ls) (e : kitB (kindD d) T = some b) : IsK K H v T b := by
  cases h with
  | non => exact isk_non _ e
  | bl b => exact isk_bl b _ e
  | int i => exact isk_int i _ e
  | str z => exact isk_str z _ e
  | lst h t => exact isk_lst h _ e
  | tup h t => exact isk_tup h _ e
  | dic h => exact isk_dic h _ e
  | old o h => exact isk_lst h _ e
end
/-! ### displays -/
/-- v is no object that stood before -/
def Frs (H : Hp) (v : V) : Prop := ∀ a, v = .ref a → H a = none
theorem frs_ref {H : Hp} {p : Addr} (n : H p = none) : Frs H (.ref p) := fun a e => by
  injection e with e
  rw [← e]
  exact n
def tLu (S : L2.St → Hp → Prop) (O : Addr → Prop) (d : PyData) : TE := fun σ H Q => S σ H ∧ ∀ v H' ls, Same H H' → Lu O H' v d ls → ls.Nodup → (∀ a ∈ ls, H a = none) → Frs H v → Q v H'
def tLus (S : L2.St → Hp → Prop) (O : Addr → Prop) (ds : List PyData) : TA := fun σ H Q => S σ H ∧ ∀ vs H' ls, Same H H' → Lus O H' vs ds ls → ls.Nodup → (∀ a ∈ ls, H a = none) → (∀ v ∈ vs, Frs H v) → Q vs H'
/-- a list laid anew, and its elements -/
def tTop (S : L2.St → Hp → Prop) (O : Addr → Prop) (ds : List PyData) : TE := fun σ H Q => S σ H ∧ ∀ p vs H' ls, Same H H' → H' p = some (.lst vs) → Lus O H' vs ds ls → (p :: ls).Nodup → (∀ a ∈ p :: ls, H a = none) → (∀ v ∈ vs, Frs H v) → Q (.ref p) H'
/-- kept when more is laid -/
def Stays (S : L2.St → Hp → Prop) : Prop := ∀ σ H H', S σ H → Same H H' → S σ H'
section
variable {X : Cx} {S : L2.St → Hp → Prop} {O : Addr → Prop} {d : PyData} {ds : List PyData} {e : Expr} {es : List Expr} {pos : Pos}
theorem lu_non {j : Nat} : PE X (.Constant .none j pos) (tLu S O .none) := pe_of (fun σ H Q h => h.2 .non H [] (Same.refl H) .non List.nodup_nil (fun _ z => nomatch z) fun _ z => nomatch z) pe_non
theorem lu_bl {b : Bool} {j : Nat} : PE X (.Constant (.bool b) j pos) (tLu S O (.bool b)) := pe_of (fun σ H Q h => h.2 (.bl b) H [] (Same.refl H) (.bl b) List.nodup_nil (fun _ z => nomatch z) fun _ z => nomatch z) pe_bl
theorem lu_str {x : Str} {j : Nat} : PE X (.Constant (.str x) j pos) (tLu S O (.str x)) := pe_of (fun σ H Q h => h.2 (.str x) H [] (Same.refl H) (.str x) List.nodup_nil (fun _ z => nomatch z) fun _ z => nomatch z) pe_str
theorem lu_int {i : Int} {j : Nat} : PE X (.Constant (.int i) j pos) (tLu S O (.int i)) := pe_of (fun σ H Q h => h.2 (.int i) H [] (Same.refl H) (.int i) List.nodup_nil (fun _ z => nomatch z) fun _ z => nomatch z) pe_int
theorem lu_neg {i : Int} {j : Nat} {pos2 : Pos} : PE X (.UnaryOp .USub (.Constant (.int i) j pos) pos2) (tLu S O (.int (-i))) := pe_of (fun σ H Q h => ⟨i, rfl, h.2 (.int (-i)) H [] (Same.refl H) (.int (-i)) List.nodup_nil (fun _ z => nomatch z) fun _ z => nomatch z⟩) (pe_un un_neg pe_int)
theorem lu_dic : PE X (.Dict [] [] pos) (tLu S O (.dict [])) := pe_of (fun σ H Q h p np => h.2 (.ref p) _ [] (upd_same_as np) (.dic upd_same) List.nodup_nil (fun _ z => nomatch z) (frs_ref np)) pe_dnewK
theorem lus_nil : PA X [] (tLus S O []) := pa_of (fun σ H Q h => h.2 [] H [] (Same.refl H) .nil List.nodup_nil (fun _ z => nomatch z) fun _ z => nomatch z) pa_nil
theorem lus_cons (st : Stays S) (h : PE X e (tLu S O d)) (t : PA X es (tLus S O ds)) (hs : starEach (e :: es) X.env = (false, eval e X.env) :: starEach es X.env := by rfl) : PA X (e :: es) (tLus S O (d :: ds)) := by
  refine pa_of (fun σ H Q q => ?_) (pa_cons h t hs)
  refine ⟨q.1, fun v H1 l1 s1 t1 n1 f1 o1 => ⟨st _ _ _ q.1 s1, fun vs H2 l2 s2 t2 n2 f2 o2 => q.2 (v :: vs) H2 (l1 ++ l2) (s1.trans s2) (.cons (lu_same s2 t1) t2) ?_ (fun a z => ?_) fun u hu => ?_⟩⟩
  · refine List.nodup_append.mpr ⟨n1, n2, fun a z b z2 e => ?_⟩
    obtain ⟨xs, y⟩ := lu_at t1 a z
    rw [e, f2 b z2] at y
    cases y
  · rcases List.mem_append.mp z with z | z
    · exact f1 a z
    · exact s1.free (f2 a z)
  · rcases List.mem_cons.mp hu with rfl | hu
    · exact o1
    · exact fun a e => s1.free (o2 u hu a e)
theorem lu_tup {x : Nat} (h : PA X es (tLus S O ds)) (z : ds.length ≤ 1000) : PE X (.Tuple es x pos) (tLu S O (.tuple ds)) := by
  refine pe_of (fun σ H Q q => ?_) (pe_tup h)
  refine ⟨q.1, fun vs H1 ls s1 t1 n1 f1 o1 => ⟨?_, fun p np => q.2 (.ref p) _ ls (s1.trans (upd_same_as np)) (.tup upd_same (lus_same (upd_same_as np) t1)) n1 f1 (frs_ref (s1.free np))⟩⟩
  rw [lus_len t1, sizeLine_eq]
  omega
theorem new_nodup {H1 : Hp} {vs : List V} {ls : List Addr} {p : Addr} (t1 : Lus O H1 vs ds ls) (np : H1 p = none) (n1 : ls.Nodup) : (p :: ls).Nodup := by
  refine List.nodup_cons.mpr ⟨fun z => ?_, n1⟩
  obtain ⟨xs, y⟩ := lus_at t1 p z
  rw [np] at y
  cases y
theorem lu_top (h : PA X es (tLus S O ds)) (z : ds.length ≤ 1000) : PE X (.List es pos) (tTop S O ds) := by
  refine pe_of (fun σ H Q q => ?_) (pe_lst h)
  refine ⟨q.1, fun vs H1 ls s1 t1 n1 f1 o1 => ⟨?_, fun p np => q.2 p vs _ ls (s1.trans (upd_same_as np)) upd_same (lus_same (upd_same_as np) t1) (new_nodup t1 np n1) (fun a z => ?_) o1⟩⟩
  · rw [lus_len t1, sizeLine_eq]
    omega
  · rcases List.mem_cons.mp z with z | z
    · rw [z]
      exact s1.free np
    · exact f1 a z
theorem lu_lst (h : PA X es (tLus S O ds)) (z : ds.length ≤ 1000) : PE X (.List es pos) (tLu S O (.list ds)) := by
  refine pe_of (fun σ H Q q => ?_) (lu_top h z)
  exact ⟨q.1, fun p vs H1 ls s1 hp t1 n1 f1 o1 => q.2 (.ref p) H1 (p :: ls) s1 (.lst hp t1) n1 f1 (frs_ref (f1 p List.mem_cons_self))⟩
end
/-- a plan that stood before, element by element -/
theorem old_lus {O : Addr → Prop} {H : Hp} : ∀ ks : List (Addr × List Int), (∀ q ∈ ks, O q.1) → (∀ q ∈ ks, H q.1 = some (.lst (q.2.map V.int))) → Lus O H (ks.map fun q => V.ref q.1) ((ks.map (·.2)).map lstD) []
  | [], _, _ => .nil
  | q :: ks, o, h => .cons (l1 := []) (.old (o q List.mem_cons_self) (h q List.mem_cons_self)) (old_lus ks (fun z hz => o z (List.mem_cons_of_mem _ hz)) fun z hz => h z (List.mem_cons_of_mem _ hz))
end Xu
/-! Own ground: a comprehension over what is made with fresh texts (tokens told from the start). -/
namespace Yb
open PySem PySem.Spec PyProof.Rows L2
section
variable {X : Cx} {pins : List (Addr × Obj)} {s : Shared} {σ : L2.St} {H : Hp} {Q : VK} {elt tg iter : Expr} {ifs : List Expr} {scope : Scope} {own : List (Str × Nat)} {pos pos' : Pos} {wi : TI} {g : TG} {tt : TT} {te : TE} {use : Option (Value → Sem Unit)} {Qf : Value → Shared → Prop}
theorem comp_tok (hc : X.calm = true) (hN : X.N.Nodup) (h0 : 1 ≤ s.toks) (I : Inv X pins σ H s) (hi : PIT X tg iter wi) (ok : BlkOk X.N X.env.scope scope own)
    (hg : ∀ s H C cl fp, PG (X.blk s H scope (compEnvC scope cl C X.env) fp) tg g) (ht : ∀ s H C cl fp, PTs (X.blk s H scope (compEnvC scope cl C X.env) fp) ifs tt) (he : ∀ s H C cl fp, PE (X.blk s H scope (compEnvC scope cl C X.env) fp) elt te)
    (hs : ∀ x : Value, foldedSetIterable iter X.env x = pure x) (h : tLc wi g tt te (own.map (·.2)) σ H Q)
    (fin : ∀ (D C : Addr) (s' : Shared) (m : Str → Option Value) (H' : Hp), Inv X pins σ H' s' → Q (.ref D) H' → s'.heap.Ns C m → FpOk X pins H' C → compPost (model X.prog X.w) X.A X.xe use Qf (.ref D) C (.ok .next) s') :
    wpAny (model X.prog X.w) X.A (comprehension (.ListComp elt [⟨tg, iter, ifs, 0⟩] scope pos) scope X.env pos' (newList []) false (eval iter X.env) use) Qf X.xe s := by
  have hfree : ∀ y ∈ scope.names, y.2 = .free → ∃ c, X.env.cells.lookup y.1 = some c := fun y hy e => (ok.free y hy e).elim (fun k => I.ok.has y.1 (.inl k)) fun k => I.ok.has y.1 (.inr k)
  refine wpAny_comprehension_free rfl hs (closure_ok hfree) ok.kind (fun y hy e => by rw [ok.uniq y hy, e]) ?_
  refine thn (hi pins s σ H _ h0 I h) fun xv s1 hx => thn hx fun itv s2 h2 => ?_
  obtain ⟨it, fp, tn, J, H2, rfl, I2, T, st2, f2, q⟩ := h2
  refine wpAny_newObj_type ?_
  have hDn : H2 s2.heap.objs.size = none := I2.hok.fresh (Nat.le_refl _)
  obtain ⟨W, ⟨m0, w0⟩, turn⟩ := q s2.heap.objs.size hDn
  refine newEnv_comp ?_
  have I3 : Inv X pins σ (upd H2 s2.heap.objs.size (.lst [])) { s2 with heap := s2.heap.push { cls := .type "list", data := .seq #[] } } :=
    I2.laid (t' := s2.toks) (fun b o e => Heap.get?_push_of_some _ e) (Nat.le_refl _) ⟨Nat.zero_le _, [], 0, .nil, Heap.get?_push_size _ rfl⟩
  have sz : ∀ b ∈ fp, b < s2.heap.objs.size := fun b hb => by
    obtain ⟨o, e, _⟩ := T.obj 0 s2.heap st2 b hb
    exact Heap.lt_size e
  have f3 : ∀ b ∈ fp, FpOk X pins (upd H2 s2.heap.objs.size (.lst [])) b ∧ b < (s2.heap.push { cls := .type "list", data := .seq #[] }).objs.size := fun b hb => by
    have lt := sz b hb
    refine ⟨⟨by rw [upd_ne (Nat.ne_of_lt lt)]; exact (f2 b hb).1, (f2 b hb).2⟩, ?_⟩
    rw [Heap.size_push]
    exact Nat.lt_succ_of_lt lt
  have st3 : tn 0 (s2.heap.push { cls := .type "list", data := .seq #[] }) := T.keep 0 s2.heap _ st2 fun b _ o e => Heap.get?_push_of_some _ e
  have I4 := block_start I3 ok hN f3
  have st4 : tn 0 (pushCells ((s2.heap.push { cls := .type "list", data := .seq #[] }).push { cls := .type "dict", data := .dict #[] }) scope.names) := T.keep 0 _ _ st3 fun b _ o e => pushCells_keeps _ _ b o (Heap.get?_push_of_some _ e)
  have pg := hg { s2 with heap := s2.heap.push { cls := .type "list", data := .seq #[] } } (upd H2 s2.heap.objs.size (.lst [])) (s2.heap.push { cls := .type "list", data := .seq #[] }).objs.size (cellsFrom ((s2.heap.push { cls := .type "list", data := .seq #[] }).objs.size + 1) scope.names (cloFrom X.env.cells scope.names [])) fp
  have pt := ht { s2 with heap := s2.heap.push { cls := .type "list", data := .seq #[] } } (upd H2 s2.heap.objs.size (.lst [])) (s2.heap.push { cls := .type "list", data := .seq #[] }).objs.size (cellsFrom ((s2.heap.push { cls := .type "list", data := .seq #[] }).objs.size + 1) scope.names (cloFrom X.env.cells scope.names [])) fp
  have pe := he { s2 with heap := s2.heap.push { cls := .type "list", data := .seq #[] } } (upd H2 s2.heap.objs.size (.lst [])) (s2.heap.push { cls := .type "list", data := .seq #[] }).objs.size (cellsFrom ((s2.heap.push { cls := .type "list", data := .seq #[] }).objs.size + 1) scope.names (cloFrom X.env.cells scope.names [])) fp
  have nfp : ∀ b ∈ fp, (upd H2 s2.heap.objs.size (.lst [])) b = none := fun b hb => (f3 b hb).1.1
  have key : ∀ ce : Env, Inv (X.blk { s2 with heap := s2.heap.push { cls := .type "list", data := .seq #[] } } (upd H2 s2.heap.objs.size (.lst [])) scope ce fp) [] (wipe σ (own.map (·.2))) (upd H2 s2.heap.objs.size (.lst [])) { s2 with heap := pushCells ((s2.heap.push { cls := .type "list", data := .seq #[] }).push { cls := .type "dict", data := .dict #[] }) scope.names } →
      PG (X.blk { s2 with heap := s2.heap.push { cls := .type "list", data := .seq #[] } } (upd H2 s2.heap.objs.size (.lst [])) scope ce fp) tg g → PTs (X.blk { s2 with heap := s2.heap.push { cls := .type "list", data := .seq #[] } } (upd H2 s2.heap.objs.size (.lst [])) scope ce fp) ifs tt →
      PE (X.blk { s2 with heap := s2.heap.push { cls := .type "list", data := .seq #[] } } (upd H2 s2.heap.objs.size (.lst [])) scope ce fp) elt te → ce.locals = (s2.heap.push { cls := .type "list", data := .seq #[] }).objs.size →
      codeAny (model X.prog X.w) X.A (.compStart (.ListComp elt [⟨tg, iter, ifs, 0⟩] scope pos) 0 (.ref it) (.ref s2.heap.objs.size) ce) (compPost (model X.prog X.w) X.A X.xe use Qf (.ref s2.heap.objs.size) (s2.heap.push { cls := .type "list", data := .seq #[] }).objs.size)
        { s2 with heap := pushCells ((s2.heap.push { cls := .type "list", data := .seq #[] }).push { cls := .type "dict", data := .dict #[] }) scope.names } := by
    intro ce I4 pg pt pe cL
    have stat : ∀ {σ' : L2.St} {H' : Hp} {s' : Shared}, Inv (X.blk { s2 with heap := s2.heap.push { cls := .type "list", data := .seq #[] } } (upd H2 s2.heap.objs.size (.lst [])) scope ce fp) [] σ' H' s' → (∀ b ∈ fp, H' b = none) → ∀ b ∈ fp, FpOk (X.blk { s2 with heap := s2.heap.push { cls := .type "list", data := .seq #[] } } (upd H2 s2.heap.objs.size (.lst [])) scope ce fp) [] H' b :=
      fun I' hn b hb => ⟨hn b hb, (I'.ok.exf b hb).1, I'.ok.exfs b hb, .inl hb, fun x c e => (I'.ok.exf b hb).2 x c e, fun p hp => by cases hp⟩
    have loop : codeAny (model X.prog X.w) X.A (.compLoop (.ListComp elt [⟨tg, iter, ifs, 0⟩] scope pos) 0 (.ref it) (.ref s2.heap.objs.size) ce) (compPost (model X.prog X.w) X.A X.xe use Qf (.ref s2.heap.objs.size) (s2.heap.push { cls := .type "list", data := .seq #[] }).objs.size)
        { s2 with heap := pushCells ((s2.heap.push { cls := .type "list", data := .seq #[] }).push { cls := .type "dict", data := .dict #[] }) scope.names } := by
      refine compLoop_any (fun n s' => ∃ i H', Inv (X.blk { s2 with heap := s2.heap.push { cls := .type "list", data := .seq #[] } } (upd H2 s2.heap.objs.size (.lst [])) scope ce fp) [] (wipe σ (own.map (·.2))) H' s' ∧ tn i s'.heap ∧ (∀ b ∈ fp, H' b = none) ∧ W i n H') (fun n s5 a => ?_) m0 ⟨0, _, I4, st4, nfp, w0⟩
      obtain ⟨i, H5, I5, st5, n5, w5⟩ := a
      rcases turn i n H5 w5 with ⟨stop, qq⟩ | ⟨go, Nx, hNx, step⟩
      · refine thnF (T.done (X.blk { s2 with heap := s2.heap.push { cls := .type "list", data := .seq #[] } } (upd H2 s2.heap.objs.size (.lst [])) scope ce fp) rfl rfl rfl hc i [] s5 _ H5 (fun _ _ => False) I5 (stat I5 n5) st5 stop) fun r s6 z => ?_
        obtain ⟨rfl, I6⟩ := z
        have I7 : Inv X pins σ H5 s6 := I3.call' I6.os I6.base I6.hok I6.bare fun b hb => ⟨(f3 b hb).1.2.2.2.1, (f3 b hb).1.2.1, (f3 b hb).1.2.2.2.2.1, (f3 b hb).1.2.2.2.2.2⟩
        obtain ⟨m, hn, _⟩ := I6.loc
        have hn : s6.heap.Ns ce.locals m := hn
        have nC : H5 ce.locals = none := I6.free
        rw [cL] at hn nC
        exact fin _ _ s6 m H5 I7 qq hn (I3.fpOk (Nat.le_refl _) nC)
      · refine thnF (T.item (X.blk { s2 with heap := s2.heap.push { cls := .type "list", data := .seq #[] } } (upd H2 s2.heap.objs.size (.lst [])) scope ce fp) rfl rfl rfl hc i [] s5 _ H5 (fun _ _ => False) I5 (stat I5 n5) st5 go) fun r s6 z => ?_
        obtain ⟨u, rfl, h6⟩ := z
        refine thnF h6 fun _ s7 z => ?_
        obtain ⟨x, H7, I7, r7, y7, st7, n7⟩ := z
        have I7' := I7.pinned (stat I7 n7) (T.obj (i + 1) s7.heap st7)
        refine thnF (pg.run _ s7 _ H7 x u _ I7' r7 (step x H7 y7)) fun _ s8 z => ?_
        obtain ⟨σ8, H8, I8, hw8, q8⟩ := z
        refine thnF (pt.run _ s8 σ8 H8 _ I8 q8) fun b s9 z => ?_
        obtain ⟨H9, I9, q9⟩ := z
        have fin2 : ∀ {s' : Shared} {H' : Hp}, Inv (X.blk { s2 with heap := s2.heap.push { cls := .type "list", data := .seq #[] } } (upd H2 s2.heap.objs.size (.lst [])) scope ce fp) ([] ++ pinsAt fp s7.heap) σ8 H' s' → Nx H' →
            ∃ m, m < n ∧ ∃ i H', Inv (X.blk { s2 with heap := s2.heap.push { cls := .type "list", data := .seq #[] } } (upd H2 s2.heap.objs.size (.lst [])) scope ce fp) [] (wipe σ (own.map (·.2))) H' s' ∧ tn i s'.heap ∧ (∀ b ∈ fp, H' b = none) ∧ W i m H' := fun {s' H'} I' nx => by
          obtain ⟨m', hm, w'⟩ := hNx H' nx
          have pin' : ∀ b ∈ fp, ∀ o, s7.heap.get? b = some o → s'.heap.get? b = some o ∧ H' b = none := fun b hb o e => by
            have z := I'.pin (b, o) (List.mem_append_right _ (List.mem_append_right _ (mem_pinsAt hb e)))
            exact ⟨z.1, z.2.1⟩
          refine ⟨m', hm, i + 1, H', I'.unpinned.weak ?_ (fun j v e => ?_), T.keep (i + 1) s7.heap s'.heap st7 fun b hb o e => (pin' b hb o e).1, fun b hb => ?_, w'⟩
          · rw [← hw8, wipe_length]
          · rw [← hw8] at e
            exact (wipe_some e).1
          · obtain ⟨o, e, _⟩ := T.obj (i + 1) s7.heap st7 b hb
            exact (pin' b hb o e).2
        cases b with
        | false =>
          rw [if_neg Bool.false_ne_true] at q9 ⊢
          exact fin2 I9 q9
        | true =>
          rw [if_pos rfl] at q9 ⊢
          refine thnF (pe.run _ s9 σ8 H9 _ I9 q9) fun yv s10 z => ?_
          obtain ⟨y, H10, I10, r10, acc, hD10, hz10, nx⟩ := z
          exact app_ok (X := (X.blk { s2 with heap := s2.heap.push { cls := .type "list", data := .seq #[] } } (upd H2 s2.heap.objs.size (.lst [])) scope ce fp)) I10 hD10 hz10 r10 fun s11 I11 => fin2 I11 nx
    exact codeAny_compStart_list loop (T.self X.A 0 _ _ _ st4 loop)
  exact key _ I4 pg pt pe rfl
theorem pet_lc (hc : X.calm = true) (hN : X.N.Nodup) (hi : PIT X tg iter wi) (ok : BlkOk X.N X.env.scope scope own)
    (hg : ∀ s H C cl fp, PG (X.blk s H scope (compEnvC scope cl C X.env) fp) tg g) (ht : ∀ s H C cl fp, PTs (X.blk s H scope (compEnvC scope cl C X.env) fp) ifs tt) (he : ∀ s H C cl fp, PE (X.blk s H scope (compEnvC scope cl C X.env) fp) elt te)
    (hs : ∀ x : Value, foldedSetIterable iter X.env x = pure x := by intro _; rfl) : PET X (.ListComp elt [⟨tg, iter, ifs, 0⟩] scope pos) (tLc wi g tt te (own.map (·.2))) := by
  intro pins s σ H Q h0 I h
  rw [eval_ListComp]
  refine comp_tok hc hN h0 I hi ok hg ht he hs h fun D C s' m H' I' q hn f => ⟨m, hn, fun h'' sb => ⟨.ref D, H', ?_, rfl, q⟩⟩
  obtain ⟨f0, f1, f2, f3, f4, f5⟩ := f
  exact I'.turned (fun b o hb e => (sb.2 b hb).trans e) f0 f1 f3 f4 f5
theorem pst_setLc {i : Nat} {y : Str} {py spos : Pos} (hc : X.calm = true) (hN : X.N.Nodup) (hy : X.N[i]? = some y) (hyl : X.env.scope.names.lookup y = some .local)
    (hsw : swapsWith (.ListComp elt [⟨tg, iter, ifs, 0⟩] scope pos) (some (.Name y py)) spos.line X.env = pure true) (hi : PIT X tg iter wi) (ok : BlkOk X.N X.env.scope scope own)
    (hg : ∀ s H C cl fp, PG (X.blk s H scope (compEnvC scope cl C X.env) fp) tg g) (ht : ∀ s H C cl fp, PTs (X.blk s H scope (compEnvC scope cl C X.env) fp) ifs tt) (he : ∀ s H C cl fp, PE (X.blk s H scope (compEnvC scope cl C X.env) fp) elt te)
    (hs : ∀ x : Value, foldedSetIterable iter X.env x = pure x := by intro _; rfl) : PST X (.Assign [.Name y py] (.ListComp elt [⟨tg, iter, ifs, 0⟩] scope pos) spos) (tAsg (tLc wi g tt te (own.map (·.2))) (gName i)) := by
  intro pins s σ H D h0 I h
  rw [exec_Assign_Name_used y py _ spos hsw]
  refine wpAny_bind (wpAny_standAt (wpAny_bind ?_))
  refine wpAny_bind (thn (comp_tok hc hN h0 I hi ok hg ht he hs h fun L C s' m H' I' q hn f => ?_) fun _ s' hq => wpAny_pure (wpAny_pure hq))
  refine wpAny_assign_Name (store_ok2 (v := .ref L) I' hN hy (.inl hyl) rfl (fun s2 I2 z => ?_) (.inr hyl))
  obtain ⟨a, sb, ha⟩ := z
  obtain ⟨f0, f1, f2, f3, f4, f5⟩ := f
  have haC : C ≠ a := ha.elim (fun z => by rw [z]; exact f1) fun z e => f4 y a z e.symm
  exact ⟨m, hn.sameBut sb haC, fun h3 sb3 => ⟨_, H', I2.turned (fun b o hb e => (sb3.2 b hb).trans e) f0 f1 f3 f4 f5, q⟩⟩
end
end Yb
/-! Own ground: split of fresh texts, a text turned round, enumerate over a text. -/
namespace Yc
open PySem PySem.Spec PyProof.Rows L2
section
variable {X : Cx} {o e : Expr} {to te : TE} {apos pos : Pos}
/-- o.split(e), o told with tokens -/
theorem pet_split (ho : PET X o to) (he : PE X e te) (hs : starEach [e] X.env = [(false, eval e X.env)] := by rfl) (hb : attributeBase o "split" X.env (eval o X.env) = eval o X.env := by rfl) (hl : (apos.endLine == pos.line) = true := by rfl) :
    PET X (.Call (.Attribute o "split" apos) [e] [] pos) (tM1 (fun x xs H Q => ∃ a b, x = .str a ∧ xs = [.str b] ∧ (b.length == 0) = false ∧ a.length + 2 ≤ sizeLine ∧ rNewStrs (Txt.split a b) H Q) to te) := by
  intro pins s σ H Q h0 I h
  refine Call_method1 hb hs hl (thn (ho pins s σ H _ h0 I h) fun v s1 z => ?_)
  obtain ⟨x, H1, I1, r1, ⟨a, rfl⟩, q1⟩ := z
  obtain ⟨t, rfl⟩ := r1
  refine ⟨"str", _, PySem.F.plainAttrs_str, PySem.F.slot_str_split, PySem.F.type_str_split, typeIs_str s1 a t, (fun x e => nomatch e), ?_⟩
  refine Calls.callWith_builtin (args := [(false, eval e X.env)]) rfl (Calls.evalArgs_plain (Calls.spliced_cons (thn (he.run pins s1 σ H1 _ I1 q1) fun u s2 z => ?_)))
  obtain ⟨y, H2, I2, r2, q2⟩ := z
  exact Calls.spliced_nil (mt_split pins s2 σ H2 (.str a) [y] (.str a t) [u] Q I2 ⟨t, rfl⟩ (.cons r2 .nil) q2)
/-- a text from its end: told by its length alone -/
def tRevS (te : TE) : TE := fun σ H Q => te σ H fun x H1 => ∃ z : Str, x = .str z ∧ z.length ≤ 16777216 ∧ ∀ y : Str, y.length ≤ z.length → (∀ c ∈ y.cps.toList, c ∈ z.cps.toList) → Q (.str y) H1
theorem rev_len (z : Str) : (Builtin.Str.strSliceIndices none none (-1) z.length).length ≤ z.length := by
  unfold Builtin.Str.strSliceIndices sliceRange
  simp only [List.length_map, List.length_range]
  have h1 : ¬ ((-1 : Int) > 0) := by decide
  simp only [h1, if_false]
  split
  · have e : ((z.length : Int) - 1 - -1 - -1 - 1) / - -1 = z.length := by
      show ((z.length : Int) - 1 - -1 - -1 - 1) / 1 = _
      rw [Int.ediv_one]
      omega
    rw [e]
    omega
  · exact Nat.zero_le _
theorem pe_revS {k : Nat} {p1 p2 p3 : Pos} (he : PE X e te) : PE X (.Subscript e (.Slice none none (some (.UnaryOp .USub (.Constant (.int 1) k p1) p2)) p3) pos) (tRevS te) := by
  refine ⟨fun pins s σ H Q I h => PyProof.Rows.Subscript_ (thn (he.run pins s σ H _ I h) fun v s1 z => ?_)⟩
  obtain ⟨x, H1, I1, r1, z, rfl, zl, q⟩ := z
  obtain ⟨t, rfl⟩ := r1
  refine wpAny_Slice ?_
  rw [evalPart_none]
  refine wpAny_pure (wpAny_pure ?_)
  have hst := po_some (X := X) (pe_un un_neg (pe_int (X := X) (i := 1) (j := k) (pos := p1)) (pos := p2))
  refine thn (hst.run pins s1 σ H1 (fun o H4 => o = some (-1) ∧ H4 = H1) I1 ⟨1, rfl, -1, rfl, rfl, rfl⟩) fun vs s4 w => ?_
  obtain ⟨o, H4, I4, ps, rfl, rfl⟩ := w
  obtain ⟨tv, rfl⟩ : ∃ tv, vs = .int (-1) tv := by
    cases ps
    exact ⟨_, rfl⟩
  have I5 : Inv X pins σ H4 { s4 with heap := s4.heap.push { cls := .type "slice", data := .fields #[.none, .none, .int (-1) tv] } } := I4.kept fun b ob q => Heap.get?_push_of_some _ q
  have sl : (s4.heap.push { cls := .type "slice", data := .fields #[.none, .none, .int (-1) tv] }).IsSlice s4.heap.objs.size none none (some (-1, tv)) := ⟨_, Heap.get?_push_size _ rfl, rfl, rfl⟩
  refine tail_any (typeIs_str _ z t) PySem.F.slot_str_getitem.lookup (wpAny_getItem_str_slice sl (by rfl) ?_) rfl
  have len : ((slicePicked z none none (some (-1, tv))).filterMap fun i => z.cps[i]?).length ≤ z.length := Nat.le_trans (List.length_filterMap_le _ _) (rev_len z)
  unfold sliceMade
  rw [if_neg (by simp)]
  refine ⟨Nat.le_trans ?_ zl, .str _, H4, I5.tok _, ⟨_, rfl⟩, q _ ?_ fun c hc => ?_⟩
  · show (List.toArray _).size ≤ _
    rw [List.size_toArray]
    exact len
  · show (List.toArray _).size ≤ _
    rw [List.size_toArray]
    exact len
  · have hc : c ∈ (slicePicked z none none (some (-1, tv))).filterMap fun i => z.cps[i]? := hc
    obtain ⟨i, _, e⟩ := List.mem_filterMap.mp hc
    exact Array.mem_toList_iff.mpr (Array.mem_of_getElem? e)
/-! ### enumerate(text) -/
def Iten (z : Str) : It := ⟨fun i _ => i < z.cps.size, fun i H v H' => ∃ T c, v = .ref T ∧ H T = none ∧ z.cps[i]? = some c ∧ H' = upd H T (.tup [.int (i : Int), .str ⟨#[c]⟩]), fun i _ => z.cps.size ≤ i⟩
theorem strIter_or (z : Str) : strIterType z = "str_ascii_iterator" ∨ strIterType z = "str_iterator" := by
  unfold strIterType
  split
  · exact .inl rfl
  · exact .inr rfl
theorem draws_str {P : Program} {w : World} {A : Around} (h : A.handled = none) (it : Addr) (z : Str) (t : Tok) : Draws P w A it [it] z.cps.size (fun i v => ∃ c u, z.cps[i]? = some c ∧ v = .str ⟨#[c]⟩ u) fun i h => h.IsStrIter it (strIterType z) z t i := by
  rcases strIter_or z with e | e
  · rw [e]
    exact Draws.strAscii h it z t
  · rw [e]
    exact Draws.strWide h it z t
theorem turn_enumS {P : Program} {w : World} {K : PySem.W.Frag} {elts : List Expr} {kk : Nat} {tpos : Pos} (e it : Addr) (z : Str) (t : Tok) (ne : e ≠ it) :
    Turn P w K (.Tuple elts kk tpos) (Iten z) [e, it] e fun i h => i ≤ z.cps.size ∧ (∃ old, IsEnum h e it (i : Int) old) ∧ h.IsStrIter it (strIterType z) z t i := by
  have WT : ∀ A : Around, A.handled = none → _ := fun A hA => WalksT.enumerateD (draws_str (P := P) (w := w) (A := A.in1) hA it z t) e ne (by simpa using ne) (by simp)
  refine ⟨by simp, fun i h st b hb => ?_, fun i h h' st k => ?_, fun X hP hw hK hc i pins s σ H E I hf st hg => ?_, fun X hP hw hK hc i pins s σ H E I hf st hg => ?_, fun A i s Q E st h => ?_⟩
  · obtain ⟨_, ⟨old, he⟩, o, ho, hcl, hd⟩ := st
    rcases (by simpa using hb : b = e ∨ b = it) with rfl | rfl
    · exact ⟨_, he, fun v q => nomatch q⟩
    · exact ⟨o, ho, fun v q => by rw [hd] at q; cases q⟩
  · obtain ⟨hi, ⟨old, he⟩, o, ho, r⟩ := st
    exact ⟨hi, ⟨old, k e (by simp) _ he⟩, o, k it (by simp) o ho, r⟩
  · subst hP hw
    have W := WT X.A (I.ok.hd hc)
    refine W.item i s _ E hg st.2 fun T vals h' tk hv hT ht hm hk => ⟨_, rfl, W.go elts kk tpos i T _ _ E hm fun h'' st2 hk2 => ?_⟩
    obtain ⟨tv, x, ⟨c, u, hc2, rfl⟩, rfl⟩ := hv
    obtain ⟨_, _, Te, Ti⟩ := hm
    have lt : ∀ b ∈ [e, it], b < s.heap.objs.size := fun b hb => by
      obtain ⟨_, ⟨old, he⟩, o, ho, _⟩ := st
      rcases (by simpa using hb : b = e ∨ b = it) with rfl | rfl
      · exact Heap.lt_size he
      · exact Heap.lt_size ho
    obtain ⟨ot, e1, e2, n, e3⟩ := ht
    have hT2 : h''.get? T = some ot := hk2 T ot (by simp [Te, Ti]) e1
    have new : ObjOk X.prog X.w (upd H T (.tup [.int (i : Int), .str ⟨#[c]⟩])) h'' T (.tup [.int (i : Int), .str ⟨#[c]⟩]) := ⟨(by show 2 ≤ sizeLine; decide), [.int i tv, .str ⟨#[c]⟩ u], .cons ⟨tv, rfl⟩ (.cons ⟨u, rfl⟩ .nil), ot, hT2, e2, n, e3⟩
    have I1 := I.turnedNew (t' := tk) (h' := h'') (ch := [e, it]) (fun b ob hb q => hk2 b ob hb (hk b ob hb q)) hf hT new
    refine ⟨.ref T, _, I1, rfl, ⟨T, c, rfl, I.hok.fresh hT, hc2, rfl⟩, ⟨hg, st2⟩, fun b hb => ?_⟩
    rw [upd_ne (Nat.ne_of_lt (Nat.lt_of_lt_of_le (lt b hb) hT))]
    exact (hf b hb).1
  · subst hP hw
    have W := WT X.A (I.ok.hd hc)
    have ei : i = z.cps.size := Nat.le_antisymm st.1 hg
    subst ei
    have lt : ∀ b ∈ [e, it], FpOk X pins H b := hf
    refine W.done s _ E st.2 fun h' tk hk => ⟨rfl, ?_⟩
    exact I.turnedL hk hf
  · obtain ⟨_, ⟨old, he⟩, _⟩ := st
    exact wpAny_pyIter_enum he h
def iEnumS (ta : TA) : TI := fun σ H R => ta σ H fun vs H1 => ∃ z, vs = [.str z] ∧ R (Iten z) H1
theorem pi_enumS {X : Cx} {e : Expr} {ta : TA} {p pos tpos : Pos} {elts : List Expr} {kk : Nat} (hg : Gl X "enumerate") (hm : X.mg "enumerate" = none) (ha : PA X [e] ta) (hs : starEach [e] X.env = [(false, eval e X.env)] := by rfl) :
    PI X (.Tuple elts kk tpos) (.Call (.Name "enumerate" p) [e] [] pos) (iEnumS ta) := by
  refine ⟨fun pins s σ H R I h => PyProof.Rows.Call_ (ld_blt I hg hm boot_enumerate (callWith_type1 (thn (ha.run pos pins s σ H _ I h) fun us s1 z => ?_) hs rfl) (by decide) (by decide))⟩
  obtain ⟨vs, H1, I1, r1, z, rfl, q⟩ := z
  cases r1 with
  | @cons _ u _ us r rr =>
    cases rr
    obtain ⟨t, rfl⟩ := r
    refine call_enumerate_str fun h' he hit hsz hk => wpAny_pyIter_enum he ⟨s1.heap.objs.size + 1, [s1.heap.objs.size + 1, s1.heap.objs.size], _, Iten z, H1, rfl, I1.kept hk, turn_enumS _ _ z t (Nat.succ_ne_self _), ⟨Nat.zero_le _, ⟨_, he⟩, hit⟩, fun b hb => ?_, q⟩
    rcases (by simpa using hb : b = s1.heap.objs.size + 1 ∨ b = s1.heap.objs.size) with rfl | rfl
    · exact I1.fpOk (Nat.le_succ _) (I1.hok.fresh (Nat.le_succ _))
    · exact I1.fpOk (Nat.le_refl _) (I1.hok.fresh (Nat.le_refl _))
theorem walk_enumS {z : Str} : Walk (Iten z) z.cps.size (fun _ => True) (fun i H v H' => ∃ T c, v = .ref T ∧ H T = none ∧ z.cps[i]? = some c ∧ H' = upd H T (.tup [.int (i : Int), .str ⟨#[c]⟩])) :=
  ⟨fun i H h _ => h, fun H _ => Nat.le_refl _, fun i H x H' _ _ y => y⟩
end
end Yc
/-! Own ground: defs whose bodies want tokens told. -/
namespace Yd
open PySem PySem.Spec PyProof.Rows L2 Xa
/-- as FnG, called where a token has been given out -/
structure FnT (P : Program) (w : World) (K : PySem.W.Frag) (mg : Str → Option Value) (base : Heap) (lev : Nat) (at_ : Addr) (fd : FuncData) (ps : List Str) (pr : Sp) : Prop where
  size : ∀ xs H Q E, pr xs H Q E → xs.length = ps.length
  go : ∀ (A : Around) (out : List Env) (st : Shared) (H : Hp) (ar : Args) (us : List Value) (xs : List V) (Q : VK) (E : XK), 1 ≤ st.toks → Room lev A → NoRep A →
    Env0 P w K mg base A out st H → BindsTo st fd ar (ps.zip us) → Vals xs us → pr xs H Q E → codeAny (model P w) A (.call (.ref at_) ar) (CR CX0 out P w H st Q E) st
def CanT (P : Program) (w : World) (K : PySem.W.Frag) (mg : Str → Option Value) (base : Heap) (lev : Nat) (x : Str) (ps : List Str) (pr : Sp) : Prop :=
  ∃ (f : Addr) (fd : FuncData), FnT P w K mg base lev f fd ps pr ∧ mg x = some (.ref f) ∧ PySem.W.keepIn K (.ref f) = true ∧ Binds K fd ps []
section
variable {P : Program} {w : World} {K : PySem.W.Frag} {mg : Str → Option Value} {base : Heap} {x qual : Str} {params : Arguments} {body : List Stmt} {scope : Scope} {dvs : List V} {kws : List (Str × V)} {at_ : Addr} {fd : FuncData}
theorem okT {N ps : List Str} {lev : Nat} {pr : Sp} (F : FunD K x qual params body scope dvs kws at_ fd) (S : FnScope N ps scope) (size : ∀ xs H Q E, pr xs H Q E → xs.length = ps.length)
    (hb : ∀ (cdv : Value) (A : Around) (out : List Env) (st : Shared) (H : Hp) (xs : List V) (Q : VK) (E : XK), Room lev (A.deeper (envOfC qual scope st.heap.objs.size at_ cdv)) → NoRep (A.deeper (envOfC qual scope st.heap.objs.size at_ cdv)) → pr xs H Q E →
      ∃ t, PSsT (cxOf CX0 P w K mg base N qual scope at_ cdv A out st H E) body t ∧ t { nx := fun _ H' => Q .non H', rt := Q } (start N xs) H) : FnT P w K mg base (lev + 1) at_ fd ps pr := by
  obtain ⟨oc, od, dV, kV, doc, pm, an, cdv, ct, osl, rfl, lk, hcd, _, _⟩ := F.ex
  refine ⟨size, fun A out st H ar us xs Q E h0 hr hn e0 bnd rel hp => ?_⟩
  have sz := size _ _ _ _ hp
  have inK : K.In st.heap := e0.mod.kin.keeps fun b o z => (e0.bs b o z).1
  have noLim : st.heap.NoLimit := e0.mod.nolimit.keeps fun b o z => (e0.bs b o z).1
  refine codeAny_call_function hr.depth (inK _ _ lk) rfl S.co S.gen rfl (PySem.W.codeRec_of inK hcd) (bnd _ _ _ _ ?_)
  refine wpAny_with_toks h0 ?_
  refine wpAny_newFunctionEnv_cells S.kind (fun ⟨n, v⟩ hy => ?_) fun env he s1 ic t1 => ?_
  · exact (S.par n (List.of_mem_zip hy).1).elim .inl fun z => .inr ⟨z, PySem.W.cellsFrom_some _ _ _ (.inl z)⟩
  subst he
  refine ⟨noLim.keeps ic.toInCall.keep, codeAny_func ?_⟩
  obtain ⟨t, ht, hq⟩ := hb cdv A out st H xs Q E (hr.deeper _) (hn.deeper _) hp
  have I : Inv (cxOf CX0 P w K mg base N qual scope at_ cdv A out st H E) [] (start N xs) H s1 := inv_start S hr.hd e0 sz rel ic
  refine wpAny_mono (ht [] s1 (start N xs) H _ t1 I hq) (fun fl s2 hs => ?_) fun e s2 hs => hs
  cases fl with
  | ret u => exact let ⟨v, _, H', J, rv, q⟩ := hs; ⟨v, H', J.os, J.bare, J.base, J.hok, rv, q⟩
  | next => exact let ⟨_, H', J, q⟩ := hs; ⟨V.non, H', J.os, J.bare, J.base, J.hok, rfl, q⟩
  | brk => exact let ⟨_, _, _, q⟩ := hs; False.elim q
  | cont => exact let ⟨_, _, _, q⟩ := hs; False.elim q
theorem okGT {N ps : List Str} {lev : Nat} {pr : Sp} (F : FunD K x qual params body scope dvs kws at_ fd) (S : FnScope N ps scope) (hnc : ∀ y ∈ scope.names, y.2 ≠ NameKind.cell) (one : 1 ≤ ps.length) (size : ∀ xs H Q E, pr xs H Q E → xs.length = ps.length)
    (hb : ∀ (cdv : Value) (A : Around) (out : List Env) (st : Shared) (H : Hp) (xs : List V) (Q : VK) (E : XK), Room lev (A.deeper (envOfC qual scope st.heap.objs.size at_ cdv)) → NoRep (A.deeper (envOfC qual scope st.heap.objs.size at_ cdv)) → pr xs H Q E →
      ∃ t, PSsT (cxOf CX0 P w K mg base N qual scope at_ cdv A out st H E) body t ∧ t { nx := fun _ H' => Q .non H', rt := Q } (start N xs) H) : FnG P w K mg base (lev + 1) at_ fd ps pr := by
  obtain ⟨oc, od, dV, kV, doc, pm, an, cdv, ct, osl, rfl, lk, hcd, _, _⟩ := F.ex
  refine ⟨size, fun A out st H ar us xs Q E hr hn e0 bnd rel hp => ?_⟩
  have sz := size _ _ _ _ hp
  have hul : us.length = ps.length := by rw [← rel.length]; exact sz
  have inK : K.In st.heap := e0.mod.kin.keeps fun b o z => (e0.bs b o z).1
  have noLim : st.heap.NoLimit := e0.mod.nolimit.keeps fun b o z => (e0.bs b o z).1
  have hloc : ∀ y ∈ ps.zip us, scope.names.lookup y.1 = some .local := fun ⟨n, v⟩ hy => (S.par n (List.of_mem_zip hy).1).elim id fun q => absurd rfl (hnc (n, .cell) (mem_of_lookup q))
  refine codeAny_call_function hr.depth (inK _ _ lk) rfl S.co S.gen rfl (PySem.W.codeRec_of inK hcd) (bnd _ _ _ _ ?_)
  refine wpAny_newFunctionEnv hnc hloc (fun h1 hns hsb => ?_) S.kind
  have hz : (ps.zip us).length = ps.length := by rw [List.length_zip, hul, Nat.min_self]
  have keep : ∀ b o, st.heap.get? b = some o → h1.get? b = some o := fun b o e => hsb.extBut b o (Nat.ne_of_lt (Heap.lt_size e)) (Heap.get?_push_of_some _ e)
  have hcl := cells_none scope.names (st.heap.objs.size + 1) [] hnc
  have hm : bindL (envOfC qual scope st.heap.objs.size at_ cdv).kindOf (ps.zip us) (fun _ => none) = fun y => List.lookup y (ps.zip us).reverse := by
    funext y
    rw [bindL_loc (ps.zip us) (fun _ => none) hloc y]
    cases List.lookup y (ps.zip us).reverse <;> rfl
  have ic : InCallC st st.heap.objs.size (bindL (envOfC qual scope st.heap.objs.size at_ cdv).kindOf (ps.zip us) fun _ => none) (cellsFrom (st.heap.objs.size + 1) scope.names []) (bindC (envOfC qual scope st.heap.objs.size at_ cdv).kindOf (ps.zip us) fun _ => none) { st with heap := h1, toks := st.toks + (ps.zip us).length } := by
    rw [hm, hcl]
    refine ⟨⟨⟨h1, _, rfl⟩, hns, keep, Nat.le_refl _⟩, ?_, ?_, ?_⟩
    · intro n c hc
      cases hc
    · exact .nil
    · intro n c hc
      cases hc
  have henv : newEnv scope st.heap.objs.size mainGlobals [] (qual ++ ".<locals>.") (some at_) cdv none builtinsNs = envOfC qual scope st.heap.objs.size at_ cdv := by
    unfold envOfC
    rw [hcl]
    rfl
  show _ ∧ codeAny (model P w) A (.func body (newEnv scope st.heap.objs.size mainGlobals [] (qual ++ ".<locals>.") (some at_) cdv none builtinsNs)) _ _
  rw [henv]
  refine ⟨noLim.keeps keep, codeAny_func ?_⟩
  obtain ⟨t, ht, hq⟩ := hb cdv A out st H xs Q E (hr.deeper _) (hn.deeper _) hp
  have I : Inv (cxOf CX0 P w K mg base N qual scope at_ cdv A out st H E) [] (start N xs) H _ := inv_start S hr.hd e0 sz rel ic
  refine wpAny_mono (ht [] _ (start N xs) H _ (by show 1 ≤ st.toks + (ps.zip us).length; omega) I hq) (fun fl s2 hs => ?_) fun e s2 hs => hs
  cases fl with
  | ret u => exact let ⟨v, _, H', J, rv, q⟩ := hs; ⟨v, H', J.os, J.bare, J.base, J.hok, rv, q⟩
  | next => exact let ⟨_, H', J, q⟩ := hs; ⟨V.non, H', J.os, J.bare, J.base, J.hok, rfl, q⟩
  | brk => exact let ⟨_, _, _, q⟩ := hs; False.elim q
  | cont => exact let ⟨_, _, _, q⟩ := hs; False.elim q
end
section
variable {X : Cx} {lev : Nat} {x : Str} {ps : List Str} {pr : Sp} {p pos : Pos} {e : Expr} {es : List Expr} {ta : TA} {te : TE}
theorem PAT.of (h : PA X es ta) : PAT X es ta := fun pos pins s σ H Q _ I q => h.run pos pins s σ H Q I q
theorem pet_canT (c : CanT X.prog X.w X.K X.mg X.base lev x ps pr) (hr : Room lev X.A) (hn : NoRep X.A) (ha : PA X (e :: es) ta) (hg : Gl X x := by rfl) (hdb : (x == ("__debug__" : Str)) = false := by decide)
    (he : starEach (e :: es) X.env = (false, eval e X.env) :: starEach es X.env := by rfl) (hpl : (backTo pos (starEach es X.env)).any (·.1) = false := by rfl) : PET X (.Call (.Name x p) (e :: es) [] pos) (tCall pr [] E0 ta) := by
  obtain ⟨f, fd, G, hm, kp, hb⟩ := c
  intro pins st σ H Q h0 I h
  refine wpAny_Call_Name_kw (ld_glob I hg hm ?_ hdb)
  refine PySem.W.callWith_K (h₀ := X.base) I.ok.mod.kin kp (wpAny_mono (wpAny_toks_of h0 (ha.run pos pins st σ H _ I h)) (fun us s1 z => ?_) fun _ _ z => z.2) he hpl
  obtain ⟨t1, xs, H1, I1, rel, q⟩ := z
  refine ⟨I1.kIn, ?_⟩
  have q : pr xs H1 Q E0 := by rw [← List.append_nil xs]; exact q
  have sz : us.length = ps.length := by rw [← rel.length]; exact G.size _ _ _ _ q
  have bnd := hb s1 us I1.kIn (by rw [List.append_nil]; exact sz)
  rw [List.append_nil] at bnd
  refine wpAny_call (codeAny_mono (G.go X.A X.stack s1 H1 ⟨us, []⟩ us xs Q E0 t1 hr hn I1.env0 bnd rel q) fun r s2 hq => ?_)
  cases r with
  | error er => exact False.elim hq
  | ok fl =>
    cases fl with
    | ret u => exact I1.after hq
    | next => exact False.elim hq
    | brk => exact False.elim hq
    | cont => exact False.elim hq
theorem pet_tup {x1 : Nat} (h : PAT X es ta) : PET X (.Tuple es x1 pos) (tTup ta) := by
  intro pins s σ H Q h0 I hq
  refine wpAny_Tuple_spliced (thn (h pos pins s σ H _ h0 I hq) fun us s1 z => ?_)
  obtain ⟨xs, H1, I1, r, z, q⟩ := z
  refine ⟨by rw [← r.length]; exact z, .ref s1.heap.objs.size, upd H1 s1.heap.objs.size (.tup xs), I1.laid (t' := s1.toks) (fun b u e => Heap.get?_push_of_some _ e) (Nat.le_refl _) ⟨z, us, r, _, Heap.get?_push_size _ rfl, rfl, 0, rfl⟩, rfl, q _ (I1.hok.fresh (Nat.le_refl _))⟩
theorem pst_asg {tg e : Expr} {g : TG} (he : PET X e te) (hg : PG X tg g) (hs : swapsWithSole [tg] e pos.line X.env = pure false := by rfl) (hw : swappedStores [tg] e X.env = pure none := by rfl) (h1 : (assignEach [tg] X.env).map (·.2) = [assign tg X.env] := by rfl) :
    PST X (.Assign [tg] e pos) (tAsg te g) := by
  intro pins s σ H D h0 I h
  refine wpAny_Assign_stores (thn (he pins s σ H _ h0 I h) fun v s1 z => ?_) hs hw
  obtain ⟨x, H1, I1, r1, q1⟩ := z
  rw [h1]
  exact thn (hg.run pins s1 σ H1 x v D.nx I1 r1 q1) fun _ s2 q => q
end
section
variable {K : PySem.W.Frag} {x qual : Str} {params : Arguments} {body : List Stmt} {scope : Scope} {f : Addr} {fd : FuncData} {P : Program} {w : World} {mg : Str → Option Value} {base : Heap} {lev : Nat} {ps : List Str} {pr : Sp}
theorem FnT.can (F : FnT P w K mg base lev f fd ps pr) (D : FunD K x qual params body scope [] [] f fd) (g : mg x = some (.ref f))
    (b : ∀ (kV doc pm : Value) (an : Option Addr) (cdv ct : Value) (us : List Value), us.length = ps.length → bindArgs (PySem.W.fnOf x qual params body scope .none kV doc pm an cdv ct) ⟨us, []⟩ = pure (ps.zip us)) : CanT P w K mg base lev x ps pr := ⟨f, fd, F, g, D.kp, D.bindsN b⟩
theorem FunD.okF {CX : CXT} {N : List Str} (F : FunD K x qual params body scope [] [] f fd) (S : FnScope N ps scope) (hnc : ∀ y ∈ scope.names, y.2 ≠ NameKind.cell) (one : 1 ≤ ps.length) (len : ∀ vs H Q E, pr vs H Q E → vs.length = ps.length)
    (hb : ∀ (cdv : Value) (A : Around) (outer : List Env) (s : Shared) (H : Hp) (vs : List V) (Q : VK) (E : XK), Room lev (A.deeper (envOfC qual scope s.heap.objs.size f cdv)) → pr vs H Q E →
      ∃ t, PSsT (cxOf CX P w K mg base N qual scope f cdv A outer s H E) body t ∧ t { nx := fun _ H' => Q .non H', rt := Q } (start N vs) H) : FnOk P w K mg base CX (lev + 1) f fd ps pr := by
  obtain ⟨oc, od, dV, kV, doc, pm, an, cdv, ct, osl, rfl, lk, hcd, _, _⟩ := F.ex
  exact fn_ofT lk hcd S hnc one len fun A outer s H vs Q E hr h => hb cdv A outer s H vs Q E hr h
end
end Yd
/-! Own ground: three names at once, with tokens told. -/
namespace Yg
open PySem PySem.Spec PyProof.Rows L2
theorem pst_par3 {X : Cx} {i j l : Nat} {x y z : Str} {a b c : Expr} {ta : TA} {px py pz pt pos : Pos} {kt k2 : Nat} {pt2 : Pos} (hc : X.calm = true) (hN : X.N.Nodup) (hi : X.N[i]? = some x) (hj : X.N[j]? = some y) (hl : X.N[l]? = some z)
    (ij : i ≠ j) (il : i ≠ l) (jl : j ≠ l) (hx : X.env.scope.names.lookup x = some .local) (hy : X.env.scope.names.lookup y = some .local) (hz : X.env.scope.names.lookup z = some .local) (ha : PAT X [a, b, c] ta)
    (hw : swappedStores [.Tuple [.Name x px, .Name y py, .Name z pz] kt pt] (.Tuple [a, b, c] k2 pt2) X.env = pure (some [x, y, z])) (hs : swapsWithSole [.Tuple [.Name x px, .Name y py, .Name z pz] kt pt] (.Tuple [a, b, c] k2 pt2) pos.line X.env = pure false := by rfl) :
    PST X (.Assign [.Tuple [.Name x px, .Name y py, .Name z pz] kt pt] (.Tuple [a, b, c] k2 pt2) pos) (tPar3 i j l ta) := by
  intro pins s σ H D h0 I h
  rw [exec_Assign_arm]
  refine wpAny_bind (wpAny_standAt ?_)
  rw [hs]
  refine wpAny_bind (wpAny_pure ?_)
  rw [if_neg (by decide)]
  refine wpAny_bind (Tuple_ (thn (ha pt2 pins s σ H _ h0 I h) fun us s1 w => ?_))
  obtain ⟨vs, H1, I1, r1, v1, v2, v3, rfl, q1⟩ := w
  obtain ⟨u1, u2, u3, rfl, r1, r2, r3⟩ : ∃ u1 u2 u3, us = [u1, u2, u3] ∧ RelV v1 u1 ∧ RelV v2 u2 ∧ RelV v3 u3 := by
    cases r1 with
    | cons p q =>
      cases q with
      | cons p2 q2 =>
        cases q2 with
        | cons p3 q3 =>
          cases q3
          exact ⟨_, _, _, rfl, p, p2, p3⟩
  refine wpAny_newObj_type ?_
  rw [hw]
  refine wpAny_bind (wpAny_pure ?_)
  show wpAny _ _ (do
      rule "assign.swapped-stores"
      let items ← unpackItems (.ref s1.heap.objs.size) ([x, y, z] : List Str).length none
      assignInOrder (([x, y, z] : List Str).reverse.map fun n => bindName X.env n) items.reverse
      pure Flow.next) _ _ _
  refine wpAny_bind (wpAny_rule (wpAny_bind (unpackItems_tuple (items := #[u1, u2, u3]) (I.ok.hd hc) (IsTup.new s1.heap #[u1, u2, u3]) fun h' hk => ?_)))
  have I2 : Inv X pins σ H1 { s1 with heap := h' } := I1.kept fun b u e => hk b u (Nat.ne_of_lt (Nat.lt_trans (Heap.lt_size e) (by
    show s1.heap.objs.size < (s1.heap.push _).objs.size
    rw [Heap.size_push]
    exact Nat.lt_succ_self _))) (Heap.get?_push_of_some _ e)
  refine wpAny_bind ?_
  show wpAny _ _ (assignInOrder [bindName X.env z, bindName X.env y, bindName X.env x] [u3, u2, u1]) _ _ _
  refine assignInOrder_cons (wpAny_bindName (store_ok I2 hN hl (.inl hz) r3 (fun s3 I3 => ?_) (.inr hz)))
  refine assignInOrder_cons (wpAny_bindName (store_ok I3 hN hj (.inl hy) r2 (fun s4 I4 => ?_) (.inr hy)))
  refine assignInOrder_cons (wpAny_bindName (store_ok I4 hN hi (.inl hx) r1 (fun s5 I5 => ?_) (.inr hx)))
  refine assignInOrder_nil (wpAny_pure ⟨_, H1, I5, ?_⟩)
  have e : ((σ.set l (some v3)).set j (some v2)).set i (some v1) = ((σ.set i (some v1)).set j (some v2)).set l (some v3) := by
    rw [List.set_comm _ _ (Ne.symm jl), List.set_comm _ _ (Ne.symm il), List.set_comm (l := σ) _ _ (Ne.symm ij)]
  rw [e]
  exact q1
end Yg
/-! Own ground: the words of a text, sign by sign. -/
namespace Ya
open PySem
/-- the text with blanks in the places of line ends -/
def flat (z : Str) : Str := Txt.replace z ⟨#[10]⟩ ⟨#[32]⟩
/-- all parts between blanks -/
def partsOf (z : Str) : List Str := Txt.split (flat z) ⟨#[32]⟩
def full (w : Str) : Bool := !decide (w = Str.empty)
def wdsOf (z : Str) : List Str := (partsOf z).filter full
abbrev sg (z : Str) : List Nat := z.cps.toList
theorem sg_append (x y : Str) : sg (x ++ y) = sg x ++ sg y := by
  show (x.cps ++ y.cps).toList = _
  rw [Array.toList_append]
theorem mem_join {g : Str} {c : Nat} : ∀ {ps : List Str}, c ∈ sg (Str.join g ps) → c ∈ sg g ∨ ∃ p ∈ ps, c ∈ sg p
  | [], h => by
    have h : c ∈ ([] : List Nat) := h
    cases h
  | [p], h => .inr ⟨p, List.mem_cons_self, h⟩
  | p :: q :: r, h => by
    have h : c ∈ sg (p ++ g ++ Str.join g (q :: r)) := h
    rw [sg_append, sg_append, List.mem_append, List.mem_append] at h
    rcases h with (h | h) | h
    · exact .inr ⟨p, List.mem_cons_self, h⟩
    · exact .inl h
    · rcases mem_join h with h | ⟨s, hs, h⟩
      · exact .inl h
      · exact .inr ⟨s, List.mem_cons_of_mem _ hs, h⟩
theorem join_mem {g : Str} {c : Nat} : ∀ {ps : List Str} {p : Str}, p ∈ ps → c ∈ sg p → c ∈ sg (Str.join g ps)
  | [], p, h, _ => nomatch h
  | [q], p, h, hc => by
    obtain rfl : p = q := by simpa using h
    exact hc
  | q :: s :: r, p, h, hc => by
    show c ∈ sg (q ++ g ++ Str.join g (s :: r))
    rw [sg_append, sg_append, List.mem_append, List.mem_append]
    rcases List.mem_cons.mp h with rfl | h
    · exact .inl (.inl hc)
    · exact .inr (join_mem h hc)
theorem len_join (g : Str) : ∀ (ps : List Str), (sg (Str.join g ps)).length + (sg g).length = (ps.map fun p => (sg p).length).sum + ps.length * (sg g).length + (if ps = [] then (sg g).length else 0)
  | [] => by
    show ([] : List Nat).length + _ = _
    simp
  | [p] => by
    show (sg p).length + _ = _
    simp
  | p :: q :: r => by
    have ih := len_join g (q :: r)
    have e : sg (Str.join g (p :: q :: r)) = sg p ++ sg g ++ sg (Str.join g (q :: r)) := by
      show sg (p ++ g ++ Str.join g (q :: r)) = _
      rw [sg_append, sg_append]
    rw [e, List.length_append, List.length_append, List.map_cons, List.sum_cons, List.length_cons (as := q :: r), Nat.add_mul, Nat.one_mul]
    simp only [reduceCtorEq, if_false] at ih ⊢
    omega
theorem flat_eq (z : Str) : flat z = Str.join ⟨#[32]⟩ (Txt.split z ⟨#[10]⟩) := StrLaws.replace_one z _ 10
theorem flat_len (z : Str) : (flat z).length = z.length := by
  have a := len_join ⟨#[32]⟩ (Txt.split z ⟨#[10]⟩)
  have b := len_join ⟨#[10]⟩ (Txt.split z ⟨#[10]⟩)
  rw [StrLaws.join_split] at b
  rw [← flat_eq] at a
  have e1 : (sg ⟨#[32]⟩).length = 1 := rfl
  have e2 : (sg ⟨#[10]⟩).length = 1 := rfl
  rw [e1] at a
  rw [e2] at b
  have : (sg (flat z)).length = (sg z).length := by omega
  simpa [Str.length] using this
theorem mem_flat {z : Str} {c : Nat} (h : c ∈ sg z) : c = 10 ∨ c ∈ sg (flat z) := by
  have e := StrLaws.join_split z ⟨#[10]⟩
  rw [← e] at h
  rcases mem_join h with h | ⟨p, hp, h⟩
  · left
    have h : c ∈ [10] := h
    simpa using h
  · right
    rw [flat_eq]
    exact join_mem hp h
theorem flat_mem {z : Str} {c : Nat} (h : c ∈ sg (flat z)) : c = 32 ∨ (c ≠ 10 ∧ c ∈ sg z) := by
  rw [flat_eq] at h
  rcases mem_join h with h | ⟨p, hp, h⟩
  · left
    have h : c ∈ [32] := h
    simpa using h
  · right
    refine ⟨fun q => ?_, ?_⟩
    · subst q
      exact StrLaws.split_free z 10 p hp h
    · rw [← StrLaws.join_split z ⟨#[10]⟩]
      exact join_mem hp h
theorem ne_of_mem {w : Str} {c : Nat} (h : c ∈ sg w) : full w = true := by
  unfold full
  by_cases e : w = Str.empty
  · rw [e] at h
    have h : c ∈ ([] : List Nat) := h
    cases h
  · rw [decide_eq_false e]
    rfl
theorem mem_words {z : Str} {c : Nat} (h : c ∈ sg z) : c = 10 ∨ c = 32 ∨ ∃ w ∈ wdsOf z, c ∈ sg w := by
  rcases mem_flat h with h | h
  · exact .inl h
  · right
    rw [← StrLaws.join_split (flat z) ⟨#[32]⟩] at h
    rcases mem_join h with h | ⟨p, hp, h⟩
    · left
      have h : c ∈ [32] := h
      simpa using h
    · exact .inr ⟨p, List.mem_filter.mpr ⟨hp, ne_of_mem h⟩, h⟩
theorem words_mem {z w : Str} {c : Nat} (hw : w ∈ wdsOf z) (h : c ∈ sg w) : c ≠ 10 ∧ c ≠ 32 ∧ c ∈ sg z := by
  obtain ⟨hp, _⟩ := List.mem_filter.mp hw
  have n32 : c ≠ 32 := fun q => by
    subst q
    exact StrLaws.split_free (flat z) 32 w hp h
  have h2 : c ∈ sg (flat z) := by
    rw [← StrLaws.join_split (flat z) ⟨#[32]⟩]
    exact join_mem hp h
  rcases flat_mem h2 with q | ⟨q, r⟩
  · exact absurd q n32
  · exact ⟨q, n32, r⟩
theorem words_pos {z w : Str} (hw : w ∈ wdsOf z) : 0 < w.length := by
  obtain ⟨_, h⟩ := List.mem_filter.mp hw
  rcases Nat.eq_zero_or_pos w.length with e | e
  · have : w = Str.empty := by
      obtain ⟨a⟩ := w
      have e : a.size = 0 := e
      show Str.mk a = Str.mk #[]
      rw [Array.eq_empty_of_size_eq_zero e]
    rw [this] at h
    simp [full] at h
  · exact e
theorem parts_weight (z : Str) : ((partsOf z).map fun p => p.length).sum + (partsOf z).length ≤ z.length + 1 := by
  have h := PyProof.Rows.split_weight (flat z) ⟨#[32]⟩ (by decide)
  rw [flat_len] at h
  exact h
theorem sum_ge : ∀ {ps : List Str} {p : Str}, p ∈ ps → p.length ≤ (ps.map fun p => p.length).sum
  | [], p, h => nomatch h
  | q :: r, p, h => by
    rw [List.map_cons, List.sum_cons]
    rcases List.mem_cons.mp h with rfl | h
    · omega
    · have := sum_ge h
      omega
theorem parts_le {z p : Str} (h : p ∈ partsOf z) : p.length ≤ z.length := by
  have a := parts_weight z
  have b := sum_ge h
  have c : 1 ≤ (partsOf z).length := PyProof.Rows.split_pos _ _
  omega
theorem parts_few (z : Str) : (partsOf z).length ≤ z.length + 1 := by
  have a := parts_weight z
  omega
end Ya
/-! Own ground: what a text of pieces tells; walks within walks. -/
namespace Ye
open PySem PySem.Spec PyProof.Rows L2 Ya
abbrev lO : Str := "oO"
abbrev lS : Str := "oO."
abbrev lT : Str := "oO. \n"
def isO (c : Nat) : Bool := decide (c ∈ sg lO)
def isS (c : Nat) : Bool := decide (c ∈ sg lS)
def isT (c : Nat) : Bool := decide (c ∈ sg lT)
theorem isT_iff (c : Nat) : isT c = true ↔ isS c = true ∨ c = 32 ∨ c = 10 := by
  have e1 : sg lT = [111, 79, 46, 32, 10] := by decide +kernel
  have e2 : sg lS = [111, 79, 46] := by decide +kernel
  simp only [isT, isS, e1, e2, decide_eq_true_eq, List.mem_cons, List.not_mem_nil, or_false]
  omega
theorem isS_ne {c : Nat} (h : isS c = true) : c ≠ 32 ∧ c ≠ 10 := by
  have e2 : sg lS = [111, 79, 46] := by decide +kernel
  simp only [isS, e2, decide_eq_true_eq, List.mem_cons, List.not_mem_nil, or_false] at h
  omega
/-- the numbers below n at which f holds -/
def pcN (f : Nat → Bool) : Nat → List Int
  | 0 => []
  | n + 1 => pcN f n ++ (if f n then [(n : Int)] else [])
theorem pcN_congr {f g : Nat → Bool} : ∀ {n : Nat}, (∀ k, k < n → f k = g k) → pcN f n = pcN g n
  | 0, _ => rfl
  | n + 1, h => by
    show pcN f n ++ _ = pcN g n ++ _
    rw [pcN_congr fun k hk => h k (by omega), h n (by omega)]
theorem pcN_len (f : Nat → Bool) : ∀ n, (pcN f n).length ≤ n
  | 0 => Nat.le_refl 0
  | n + 1 => by
    have := pcN_len f n
    show (pcN f n ++ _).length ≤ n + 1
    rw [List.length_append]
    split <;> simp <;> omega
theorem pcN_mem (f : Nat → Bool) : ∀ n, ∀ z ∈ pcN f n, 0 ≤ z ∧ z < n
  | 0, z, h => nomatch h
  | n + 1, z, h => by
    rcases List.mem_append.mp h with h | h
    · have := pcN_mem f n z h
      omega
    · split at h
      · have : z = n := by simpa using h
        omega
      · cases h
/-- at place k of w stands a watcher's sign -/
def at_ (w : List Nat) (k : Nat) : Bool := (w[k]?).any isO
def piece (pl : Nat) (w : List Nat) (i : Nat) : List Int := pcN (fun k => at_ w (i + k)) pl
def runU (pl : Nat) (w : List Nat) : Nat → List (List Int)
  | 0 => []
  | i + 1 => runU pl w i ++ [piece pl w (i * pl)]
def runP (pl : Nat) (w : Str) : List (List Int) := runU pl (sg w) (w.length / pl)
def okW (pl : Nat) (w : Str) : Bool := decide (w.length % pl = 0) && (sg w).all isS
def allP (pl : Nat) (ws : List Str) : List (List Int) := ws.flatMap (runP pl)
def dueOf (z : Str) (pl : Nat) : Option (List (List Int)) := if wdsOf z ≠ [] ∧ ∀ w ∈ wdsOf z, okW pl w = true then some (allP pl (wdsOf z)) else none
theorem runU_len (pl : Nat) (w : List Nat) : ∀ n, (runU pl w n).length = n
  | 0 => rfl
  | n + 1 => by
    show (runU pl w n ++ _).length = _
    rw [List.length_append, runU_len pl w n]
    rfl
theorem runU_brief (pl : Nat) (w : List Nat) : ∀ n, ∀ l ∈ runU pl w n, l.length ≤ pl ∧ ∀ z ∈ l, 0 ≤ z ∧ z < pl
  | 0, l, h => nomatch h
  | n + 1, l, h => by
    rcases List.mem_append.mp h with h | h
    · exact runU_brief pl w n l h
    · obtain rfl : l = piece pl w (n * pl) := by simpa using h
      exact ⟨pcN_len _ _, pcN_mem _ _⟩
theorem allP_brief (pl : Nat) (ws : List Str) : ∀ l ∈ allP pl ws, l.length ≤ pl ∧ ∀ z ∈ l, 0 ≤ z ∧ z < pl := fun l h => by
  obtain ⟨w, _, h⟩ := List.mem_flatMap.mp h
  exact runU_brief pl _ _ l h
theorem allP_len (pl : Nat) (hp : 1 ≤ pl) : ∀ ws : List Str, (allP pl ws).length ≤ (ws.map fun w => w.length).sum
  | [] => Nat.zero_le _
  | w :: ws => by
    have := allP_len pl hp ws
    show (runP pl w ++ allP pl ws).length ≤ ((w :: ws).map fun w => w.length).sum
    rw [List.map_cons, List.sum_cons]
    rw [List.length_append, runP, runU_len]
    have h2 : w.length / pl ≤ w.length := Nat.div_le_self _ _
    show _ ≤ w.length + (ws.map fun w => w.length).sum
    omega
theorem filter_sum (p : Str → Bool) : ∀ ws : List Str, ((ws.filter p).map fun w => w.length).sum ≤ (ws.map fun w => w.length).sum
  | [] => Nat.le_refl _
  | w :: ws => by
    have := filter_sum p ws
    rw [List.filter_cons]
    split <;> simp only [List.map_cons, List.sum_cons] <;> omega
theorem words_len (z : Str) (pl : Nat) (hp : 1 ≤ pl) : (allP pl (wdsOf z)).length ≤ z.length := by
  have h1 := allP_len pl hp (wdsOf z)
  have h2 := filter_sum full (partsOf z)
  have h3 := parts_weight z
  have h4 : 1 ≤ (partsOf z).length := PyProof.Rows.split_pos _ _
  have h1' : (allP pl (wdsOf z)).length ≤ (((partsOf z).filter full).map fun w => w.length).sum := h1
  omega
/-- a bad sign: nothing is told -/
theorem due_bad {z : Str} {pl : Nat} {c : Nat} (hc : c ∈ sg z) (hb : isT c = false) : dueOf z pl = none := by
  unfold dueOf
  rw [if_neg]
  rintro ⟨_, h⟩
  have nt : ¬ (isS c = true ∨ c = 32 ∨ c = 10) := fun q => by
    rw [(isT_iff c).mpr q] at hb
    cases hb
  rcases mem_words hc with q | q | ⟨w, hw, q⟩
  · exact nt (.inr (.inr q))
  · exact nt (.inr (.inl q))
  · have := h w hw
    simp only [okW, Bool.and_eq_true, List.all_eq_true] at this
    exact nt (.inl (this.2 c q))
theorem okW_good {z : Str} {pl : Nat} (hz : ∀ c ∈ sg z, isT c = true) {w : Str} (hw : w ∈ wdsOf z) : okW pl w = decide (w.length % pl = 0) := by
  have : (sg w).all isS = true := List.all_eq_true.mpr fun c hc => by
    obtain ⟨n1, n2, m⟩ := words_mem hw hc
    rcases (isT_iff c).mp (hz c m) with q | q | q
    · exact q
    · exact absurd q n2
    · exact absurd q n1
  rw [okW, this, Bool.and_true]
/-- walks within walks -/
theorem in_it {J : It} {n : Nat} {Y : Nat → Hp → V → Hp → Prop} {G : Hp → Prop} (WJ : Walk J n G Y) {B : V → Hp → (Hp → Prop) → Prop} {H0 : Hp} {Nx : Hp → Prop} (Pv : Nat → Hp → Prop) (h0 : Pv 0 H0) (hg : ∀ i H, i ≤ n → Pv i H → G H)
    (step : ∀ i x H H', i < n → Pv i H → Y i H x H' → B x H' (Pv (i + 1))) (fin : ∀ H, Pv n H → Nx H) :
    ∃ W : Nat → Nat → Hp → Prop, (∃ m, W 0 m H0) ∧ ∀ i m H, W i m H → (J.stop i H ∧ Nx H) ∨ (J.go i H ∧ ∃ N : Hp → Prop, (∀ H', N H' → ∃ m', m' < m ∧ W (i + 1) m' H') ∧ ∀ x H', J.yld i H x H' → B x H' N) := by
  refine ⟨fun i m H => m = n - i ∧ i ≤ n ∧ Pv i H, ⟨n, by omega, Nat.zero_le _, h0⟩, ?_⟩
  rintro i m H ⟨rfl, hi, p⟩
  by_cases c : i < n
  · exact .inr ⟨WJ.goes i H c (hg i H hi p), Pv (i + 1), fun H' p' => ⟨n - (i + 1), by omega, rfl, by omega, p'⟩, fun x H' y => step i x H H' c p (WJ.yields i H x H' c (hg i H hi p) y)⟩
  · have e : i = n := by omega
    subst e
    exact .inl ⟨WJ.stops H (hg _ _ hi p), fin H p⟩
end Ye
/-! Own ground: lists of new lists that are lengthened. -/
namespace Yf
open PySem PySem.Spec PyProof.Rows L2 Xa Xr Xl Xk Xq Ya Ye
/-- the lists of ks are new since H0, and apart -/
def New (H0 : Hp) (D : Addr) (ks : List (Addr × List Int)) : Prop := (∀ q ∈ ks, H0 q.1 = none ∧ q.1 ≠ D) ∧ (ks.map (·.1)).Nodup
theorem New.nil {H0 : Hp} {D : Addr} : New H0 D [] := ⟨fun q (h : q ∈ []) => (nomatch h), List.nodup_nil⟩
theorem ll_more {H0 H H3 : Hp} {D a : Addr} {l : List Int} {ks : List (Addr × List Int)} (L : LL H D ks) (N : New H0 D ks) (s0 : ∀ c o, H0 c = some o → c ≠ D → H c = some o) (sm : Same H H3) (na : H a = none) (ha : H3 a = some (.lst (l.map V.int))) :
    H3 D = some (.lst (ks.map fun q => V.ref q.1)) ∧ LL (upd H3 D (.lst ((ks.map fun q => V.ref q.1) ++ [.ref a]))) D (ks ++ [(a, l)]) ∧ New H0 D (ks ++ [(a, l)]) := by
  obtain ⟨hd, hl⟩ := L
  have aD : a ≠ D := fun z => by
    rw [z, hd] at na
    cases na
  refine ⟨sm _ _ hd, ⟨?_, ?_⟩, ?_, ?_⟩
  · rw [upd_same, List.map_append]
    rfl
  · intro q hq
    rcases List.mem_append.mp hq with hq | hq
    · rw [upd_ne (N.1 q hq).2]
      exact sm _ _ (hl q hq)
    · rw [List.mem_singleton.mp hq, upd_ne aD]
      exact ha
  · intro q hq
    rcases List.mem_append.mp hq with hq | hq
    · exact N.1 q hq
    · rw [List.mem_singleton.mp hq]
      refine ⟨?_, aD⟩
      cases e : H0 a with
      | none => rfl
      | some o =>
        rw [s0 a o e aD] at na
        cases na
  · rw [List.map_append, List.nodup_append]
    refine ⟨N.2, List.nodup_cons.mpr ⟨List.not_mem_nil, List.nodup_nil⟩, ?_⟩
    intro x hx y hy e
    obtain rfl : y = a := by simpa using hy
    obtain ⟨q, hq, rfl⟩ := List.mem_map.mp hx
    have := hl q hq
    rw [e, na] at this
    cases this
theorem ll_add {H0 H3 : Hp} {D a : Addr} {l : List Int} {ks : List (Addr × List Int)} (L : LL H3 D ks) (N : New H0 D ks) (n0 : H0 a = none) (aD : a ≠ D) (ak : ∀ q ∈ ks, q.1 ≠ a) (ha : H3 a = some (.lst (l.map V.int))) :
    LL (upd H3 D (.lst ((ks.map fun q => V.ref q.1) ++ [.ref a]))) D (ks ++ [(a, l)]) ∧ New H0 D (ks ++ [(a, l)]) := by
  obtain ⟨hd, hl⟩ := L
  refine ⟨⟨?_, ?_⟩, ?_, ?_⟩
  · rw [upd_same, List.map_append]
    rfl
  · intro q hq
    rcases List.mem_append.mp hq with hq | hq
    · rw [upd_ne (N.1 q hq).2]
      exact hl q hq
    · rw [List.mem_singleton.mp hq, upd_ne aD]
      exact ha
  · intro q hq
    rcases List.mem_append.mp hq with hq | hq
    · exact N.1 q hq
    · rw [List.mem_singleton.mp hq]
      exact ⟨n0, aD⟩
  · rw [List.map_append, List.nodup_append]
    refine ⟨N.2, List.nodup_cons.mpr ⟨List.not_mem_nil, List.nodup_nil⟩, ?_⟩
    intro x hx y hy e
    obtain rfl : y = a := by simpa using hy
    obtain ⟨q, hq, rfl⟩ := List.mem_map.mp hx
    exact ak q hq e
theorem allP_app (pl : Nat) (xs ys : List Str) : allP pl (xs ++ ys) = allP pl xs ++ allP pl ys := List.flatMap_append
theorem allP_take_len (pl i : Nat) (ws : List Str) : (allP pl (ws.take i)).length ≤ (allP pl ws).length := by
  have : allP pl ws = allP pl (ws.take i) ++ allP pl (ws.drop i) := by rw [← allP_app, List.take_append_drop]
  rw [this, List.length_append]
  omega
theorem allP_take (pl : Nat) {i : Nat} {ws : List Str} {w : Str} (h : ws[i]? = some w) : allP pl (ws.take (i + 1)) = allP pl (ws.take i) ++ runP pl w := by
  rw [List.take_add_one, h]
  show allP pl (ws.take i ++ [w]) = _
  rw [allP_app]
  show _ ++ (runP pl w ++ []) = _
  rw [List.append_nil]
/-- a piece of a slice -/
theorem slice_piece {w : Str} {i pl : Nat} (h : i + pl ≤ w.length) : (Txt.slice w (some (i : Int)) (some ((i : Int) + (pl : Int)))).length = pl ∧ pcN (at_ (sg (Txt.slice w (some (i : Int)) (some ((i : Int) + (pl : Int)))))) pl = piece pl (sg w) i := by
  have e0 : (i : Int) + (pl : Int) = ((i + pl : Nat) : Int) := by omega
  have e : sg (Txt.slice w (some (i : Int)) (some ((i : Int) + (pl : Int)))) = (w.cps.toList.drop i).take pl := by
    rw [e0]
    have := PyProof.Rows.slice_closesL (x := w) (i := i) (j := (i + pl : Nat)) (by omega) (by omega) (by show ((i + pl : Nat) : Int) ≤ (w.length : Int); omega)
    have e2 := eq_of_beq this
    rw [e2]
    show (List.toArray _).toList = _
    rw [List.toList_toArray]
    congr 1
    · omega
  constructor
  · show (Txt.slice w _ _).cps.size = pl
    rw [← Array.length_toList]
    show (sg _).length = pl
    rw [e, List.length_take, List.length_drop]
    have : w.cps.toList.length = w.length := Array.length_toList
    omega
  · refine pcN_congr fun k hk => ?_
    show ((sg _)[k]?).any isO = ((sg w)[i + k]?).any isO
    rw [e, List.getElem?_take_of_lt hk, List.getElem?_drop]
end Yf
/-! Own ground: texts of bounded length. -/
namespace Yh
open PySem PySem.Spec PyProof.Rows L2 Ya
def Tx (n : Nat) (z : Str) : Prop := z.length ≤ n ∧ PyData.strOk z = true
theorem ok_iff {z : Str} : PyData.strOk z = true ↔ ∀ c ∈ sg z, c < 1114112 := by
  constructor
  · intro h c hc
    have h2 : ∀ (i : Nat) (x : i < z.cps.size), z.cps[i] < 1114112 := by simpa [PyData.strOk] using h
    obtain ⟨i, hi, e⟩ := Array.getElem_of_mem (Array.mem_toList_iff.mp hc)
    have := h2 i hi
    rw [e] at this
    exact this
  · intro h
    have : ∀ (i : Nat) (x : i < z.cps.size), z.cps[i] < 1114112 := fun i hi => h _ (Array.mem_toList_iff.mpr (Array.getElem_mem hi))
    simpa [PyData.strOk] using this
theorem Tx.up {m n : Nat} {z : Str} (h : Tx m z) (e : m ≤ n) : Tx n z := ⟨Nat.le_trans h.1 e, h.2⟩
theorem len_sg (z : Str) : (sg z).length = z.length := Array.length_toList
theorem tx_app {m n : Nat} {x y : Str} (a : Tx m x) (b : Tx n y) : Tx (m + n) (x ++ y) := by
  constructor
  · rw [← len_sg, sg_append, List.length_append, len_sg, len_sg]
    exact Nat.add_le_add a.1 b.1
  · refine ok_iff.mpr fun c hc => ?_
    rw [sg_append] at hc
    rcases List.mem_append.mp hc with hc | hc
    · exact ok_iff.mp a.2 c hc
    · exact ok_iff.mp b.2 c hc
theorem tx_sub {m : Nat} {x y : Str} (a : Tx m x) (h : y.length ≤ x.length) (s : ∀ c ∈ y.cps.toList, c ∈ x.cps.toList) : Tx m y :=
  ⟨Nat.le_trans h a.1, ok_iff.mpr fun c hc => ok_iff.mp a.2 c (s c hc)⟩
theorem tx_slice {m : Nat} {x : Str} (a : Tx m x) (lo hi : Option Int) : Tx m (Txt.slice x lo hi) := by
  unfold Txt.slice
  split
  · exact a
  · refine tx_sub a ?_ fun c hc => ?_
    · show (List.toArray _).size ≤ _
      rw [List.size_toArray]
      exact Nat.le_trans (List.length_filterMap_le _ _) (PyProof.Rows.indices_len_le _ _ _)
    · have hc : c ∈ (Builtin.Str.strSliceIndices lo hi 1 x.length).filterMap fun i => x.cps[i]? := hc
      obtain ⟨i, _, e⟩ := List.mem_filterMap.mp hc
      exact Array.mem_toList_iff.mpr (Array.mem_of_getElem? e)
theorem tx_fit {m n : Nat} {x y : Str} (a : Tx m x) (b : Tx n y) (h : m + n ≤ 16777216 := by decide) : x.length + y.length ≤ sizeLine := by
  rw [sizeLine_eq]
  have := a.1
  have := b.1
  omega
theorem tx_line {m : Nat} {x : Str} (a : Tx m x) (h : m ≤ 16777216 := by decide) : x.length ≤ sizeLine := by
  rw [sizeLine_eq]
  exact Nat.le_trans a.1 h
def AllS (n : Nat) (vs : List V) : Prop := ∀ v ∈ vs, ∃ y, v = V.str y ∧ Tx n y
theorem as_nil {n : Nat} : AllS n [] := fun v h => nomatch h
theorem as_cons {m n : Nat} {y : Str} {vs : List V} (t : Tx m y) (h : AllS n vs) (e : m ≤ n := by decide) : AllS n (.str y :: vs) := fun v hv => by
  rcases List.mem_cons.mp hv with rfl | hv
  · exact ⟨y, rfl, t.up e⟩
  · exact h v hv
theorem as_app {n : Nat} {vs ws : List V} (a : AllS n vs) (b : AllS n ws) : AllS n (vs ++ ws) := fun v hv => (List.mem_append.mp hv).elim (a v) (b v)
theorem pickS {n : Nat} {vs : List V} (h : AllS n vs) {k : Nat} (hk : k < vs.length) : ∃ s, atI vs (k : Int) = some (V.str s) ∧ Tx n s := by
  obtain ⟨y, e, t⟩ := h vs[k] (List.getElem_mem hk)
  exact ⟨y, atI_nat (by rw [List.getElem?_eq_getElem hk, e]), t⟩
theorem tx_join {n : Nat} {g : Str} {ps : List Str} (tg : Tx 1 g) (h : ∀ p ∈ ps, Tx n p) : Tx ((n + 1) * ps.length) (Txt.join g ps) := by
  have e : Txt.join g ps = Str.join g ps := StrLaws.glued_eq_join g ps
  rw [e]
  constructor
  · have a := len_join g ps
    rw [← len_sg]
    have sum : (ps.map fun p => (sg p).length).sum ≤ n * ps.length := by
      clear a e
      induction ps with
      | nil => exact Nat.zero_le _
      | cons p ps ih =>
        have := ih fun q hq => h q (List.mem_cons_of_mem _ hq)
        have hp := (h p List.mem_cons_self).1
        rw [← len_sg] at hp
        rw [List.map_cons, List.sum_cons, List.length_cons, Nat.mul_add]
        omega
    have g1 : (sg g).length ≤ 1 := by rw [len_sg]; exact tg.1
    have gl : ps.length * (sg g).length ≤ ps.length * 1 := Nat.mul_le_mul_left _ g1
    rw [Nat.add_mul, Nat.one_mul]
    split at a <;> omega
  · refine ok_iff.mpr fun c hc => ?_
    rcases mem_join hc with hc | ⟨p, hp, hc⟩
    · exact ok_iff.mp tg.2 c hc
    · exact ok_iff.mp (h p hp).2 c hc
theorem join_fit {n : Nat} {g : Str} {ps : List Str} (tg : Tx 1 g) (h : ∀ p ∈ ps, Tx n p) (e : (n + 1) * ps.length ≤ 16777216) : (ps.map (·.length)).sum + ps.length * g.length ≤ 16777216 := by
  have sum : (ps.map (·.length)).sum ≤ n * ps.length := by
    clear e
    induction ps with
    | nil => exact Nat.zero_le _
    | cons p ps ih =>
      have := ih fun q hq => h q (List.mem_cons_of_mem _ hq)
      have hp := (h p List.mem_cons_self).1
      rw [List.map_cons, List.sum_cons, List.length_cons, Nat.mul_add]
      omega
  have gl : ps.length * g.length ≤ ps.length * 1 := Nat.mul_le_mul_left _ tg.1
  rw [Nat.add_mul, Nat.one_mul] at e
  omega
def rJn (K : PySem.W.Frag) : V → List V → Hp → VK → Prop := fun x xs H Q => ∃ a p, ∃ ys : List Str, x = .str a ∧ xs = [.ref p] ∧ (SqL K H p (ys.map V.str) ∨ SqT K H p (ys.map V.str)) ∧ (ys.map (·.length)).sum + ys.length * a.length ≤ 16777216 ∧ Q (.str (Txt.join a ys)) H
/-- join, its reading told without the block's own context -/
theorem pe_jn {X : Cx} {K : PySem.W.Frag} {o e : Expr} {to te : TE} {apos pos : Pos} (hK : X.K = K) (ho : PE X o to) (he : PE X e te) (hs : starEach [e] X.env = [(false, eval e X.env)] := by rfl) (hb : attributeBase o "join" X.env (eval o X.env) = eval o X.env := by rfl) (hl : (apos.endLine == pos.line) = true := by rfl) :
    PE X (.Call (.Attribute o "join" apos) [e] [] pos) (tM1 (rJn K) to te) := by
  subst hK
  exact pe_join ho he hs hb hl
end Yh
/-! Own ground: what repr shows is made of signs. -/
namespace Xu
open PySem PySem.Spec PyProof.Rows L2 Xa Xb Xc Xp Xr Xl Xk Xt Xq Ya Yh
theorem ofStr_ok (s : String) : PyData.strOk (Str.ofString s) = true := by
  refine ok_iff.mpr fun c hc => ?_
  have hc : c ∈ (Str.ofString s).cps.toList := hc
  rw [Str.ofString_eq_toList] at hc
  obtain ⟨x, _, rfl⟩ := List.mem_map.mp hc
  have h := x.valid
  show x.val.toNat < 1114112
  rcases h with h | ⟨_, h⟩
  · have : x.val.toNat < 55296 := h
    omega
  · have : x.val.toNat < 1114112 := h
    omega
theorem app_ok {x y : Str} (a : PyData.strOk x = true) (b : PyData.strOk y = true) : PyData.strOk (x ++ y) = true := (tx_app (m := x.length) (n := y.length) ⟨Nat.le_refl _, a⟩ ⟨Nat.le_refl _, b⟩).2
theorem textFrom_ok : ∀ (ts : List Str) (i : Nat) (z : Str), PyData.strOk z = true → (∀ t ∈ ts, PyData.strOk t = true) → PyData.strOk (textFrom i z ts) = true
  | [], _, _, h, _ => h
  | t :: ts, i, z, h, a => by
    unfold textFrom
    refine textFrom_ok ts _ _ (app_ok (app_ok h ?_) (a t List.mem_cons_self)) fun q hq => a q (List.mem_cons_of_mem _ hq)
    split <;> exact ofStr_ok _
theorem strJoin_ok {g : Str} (hg : PyData.strOk g = true) : ∀ (ts : List Str), (∀ t ∈ ts, PyData.strOk t = true) → PyData.strOk (Str.join g ts) = true
  | [], _ => by simp [Str.join]; exact ok_iff.mpr fun c hc => nomatch hc
  | [t], a => by simpa [Str.join] using a t List.mem_cons_self
  | t :: u :: ts, a => by
    rw [Str.join]
    exact app_ok (app_ok (a t List.mem_cons_self) hg) (strJoin_ok hg (u :: ts) fun q hq => a q (List.mem_cons_of_mem _ hq))
    simp
mutual
def shOk : PyData → Bool
  | .none => true
  | .bool _ => true
  | .int _ => true
  | .str x => PyData.strOk (reprText x)
  | .list xs => shAll xs
  | .tuple xs => shAll xs
  | .dict _ => false
def shAll : List PyData → Bool
  | [] => true
  | x :: xs => shOk x && shAll xs
end
mutual
theorem shown_ok : ∀ d : PyData, shOk d = true → PyData.strOk d.shown = true
  | .none, _ => by simp only [PyData.shown]; exact ofStr_ok _
  | .bool b, _ => by cases b <;> exact ofStr_ok _
  | .int i, _ => by simp only [PyData.shown]; exact ofStr_ok _
  | .str x, h => by simp only [PyData.shown]; exact h
  | .list xs, h => by
    have q := shAll_ok xs h
    simp only [PyData.shown]
    exact app_ok (textFrom_ok _ _ _ (ofStr_ok _) q) (ofStr_ok _)
  | .tuple xs, h => by
    have q := shAll_ok xs h
    simp only [PyData.shown]
    exact app_ok (app_ok (ofStr_ok _) (strJoin_ok (ofStr_ok _) _ q)) (ofStr_ok _)
  | .dict _, h => nomatch h
theorem shAll_ok : ∀ ds : List PyData, shAll ds = true → ∀ t ∈ PyData.shownAll ds, PyData.strOk t = true
  | [], _, t, ht => by simp [PyData.shownAll] at ht
  | x :: xs, h, t, ht => by
    simp only [shAll, Bool.and_eq_true] at h
    simp only [PyData.shownAll] at ht
    rcases List.mem_cons.mp ht with rfl | ht
    · exact shown_ok x h.1
    · exact shAll_ok xs h.2 t ht
end
/-- one that may stand in a list that is shown -/
def good1 (d : PyData) : Bool := d.showable && PyData.leavesShort 32 d && decide (d.depth ≤ 5) && decide (d.weight ≤ 400) && shOk d && !d.hasDict
theorem all_showable : ∀ ds : List PyData, (∀ d ∈ ds, good1 d = true) → PyData.showableAll ds = true ∧ PyData.leavesShortAll 32 ds = true ∧ PyData.depthAll ds ≤ 5 ∧ PyData.weightAll ds ≤ 401 * ds.length ∧ shAll ds = true ∧ PyData.hasDictAll ds = false
  | [], _ => by simp [PyData.showableAll, PyData.leavesShortAll, PyData.depthAll, PyData.weightAll, shAll, PyData.hasDictAll]
  | x :: xs, h => by
    have q := all_showable xs fun d hd => h d (List.mem_cons_of_mem _ hd)
    have r := h x List.mem_cons_self
    simp only [good1, Bool.and_eq_true, decide_eq_true_eq, Bool.not_eq_true'] at r
    obtain ⟨⟨⟨⟨⟨r1, r2⟩, r3⟩, r4⟩, r5⟩, r6⟩ := r
    obtain ⟨q1, q2, q3, q4, q5, q6⟩ := q
    refine ⟨by simp [PyData.showableAll, r1, q1], by simp [PyData.leavesShortAll, r2, q2], ?_, ?_, by simp [shAll, r5, q5], by simp [PyData.hasDictAll, r6, q6]⟩
    · simp only [PyData.depthAll]
      omega
    · simp only [PyData.weightAll, List.length_cons]
      omega
theorem okD_list (ds : List PyData) (h : ∀ d ∈ ds, good1 d = true) (n : ds.length ≤ 1000) : okD (.list ds) = true := by
  obtain ⟨q1, q2, q3, q4, q5, q6⟩ := all_showable ds h
  have a := PyData.shown_le 32 (by decide) (.list ds) (by simpa [PyData.leavesShort] using q2)
  have b : (PyData.list ds).weight ≤ 401 * 1000 + 100 := by simp only [PyData.weight]; omega
  have c : (PyData.list ds).shown.length ≤ sizeLine := by
    have d : (32 + 2) * (PyData.list ds).weight ≤ 34 * (401 * 1000 + 100) := Nat.mul_le_mul (Nat.le_refl _) b
    rw [sizeLine_eq]
    omega
  have e : PyData.strOk (PyData.list ds).shown = true := shown_ok _ (by simpa [shOk] using q5)
  have f : (PyData.list ds).depth ≤ 60 := by simp only [PyData.depth]; omega
  have g : (PyData.list ds).hasDict = false := by simpa [PyData.hasDict] using q6
  have k : (PyData.list ds).showable = true := by simpa [PyData.showable] using q1
  simp [okD, e, f, g, k, c]
theorem okD_tuple (ds : List PyData) (h : ∀ d ∈ ds, good1 d = true) (n : ds.length ≤ 1000) : okD (.tuple ds) = true := by
  obtain ⟨q1, q2, q3, q4, q5, q6⟩ := all_showable ds h
  have a := PyData.shown_le 32 (by decide) (.tuple ds) (by simpa [PyData.leavesShort] using q2)
  have b : (PyData.tuple ds).weight ≤ 401 * 1000 + 100 := by simp only [PyData.weight]; omega
  have c : (PyData.tuple ds).shown.length ≤ sizeLine := by
    have d : (32 + 2) * (PyData.tuple ds).weight ≤ 34 * (401 * 1000 + 100) := Nat.mul_le_mul (Nat.le_refl _) b
    rw [sizeLine_eq]
    omega
  have e : PyData.strOk (PyData.tuple ds).shown = true := shown_ok _ (by simpa [shOk] using q5)
  have f : (PyData.tuple ds).depth ≤ 60 := by simp only [PyData.depth]; omega
  have g : (PyData.tuple ds).hasDict = false := by simpa [PyData.hasDict] using q6
  have k : (PyData.tuple ds).showable = true := by simpa [PyData.showable] using q1
  simp [okD, e, f, g, k, c]
theorem good_lst (l : List Int) (n : l.length ≤ 3) (h : ∀ z ∈ l, z.natAbs < 10 ^ 30) : good1 (lstD l) = true := by
  have h1 := ints_showable l h
  have h2 := ints_short l h
  have h3 := ints_weight l h
  have h4 := ints_depth l
  have h5 : ∀ l : List Int, shAll (l.map .int) = true ∧ PyData.hasDictAll (l.map .int) = false := by
    intro l
    induction l with
    | nil => simp [shAll, PyData.hasDictAll]
    | cons x xs ih => simp [shAll, PyData.hasDictAll, shOk, PyData.hasDict, ih]
  have h6 : (lstD l).weight ≤ 400 := by simp only [lstD, PyData.weight]; omega
  have h7 : (lstD l).depth ≤ 5 := by simp only [lstD, PyData.depth]; omega
  simp [good1, h6, h7]
  simp [lstD, PyData.showable, PyData.leavesShort, shOk, PyData.hasDict, h1, h2, h5 l]
end Xu
/-! Own ground ZA: repr where the modules' table is known to be a dict; written lists gone through whose lists are lengthened, with inner lists that stay. -/
namespace Za
open PySem PySem.Spec PyProof.Rows L2 Xa Xb Xc Xp Xr Xl Xk Xt Xq Xu Ya Yh
/-! ### the modules' table is no list -/
def sysB (K : PySem.W.Frag) : Bool := match K.lookup sysModules with
  | some o => decide (o.cls = .type "dict")
  | none => false
theorem sys_ok {K : PySem.W.Frag} (h : sysB K = true) : ∃ o, K.lookup sysModules = some o ∧ o.cls = .type "dict" := by
  unfold sysB at h
  split at h
  · rename_i o e
    exact ⟨o, e, of_decide_eq_true h⟩
  · cases h
section
variable {X : Cx} {pins : List (Addr × Obj)} {σ : L2.St} {H : Hp} {s : Shared}
theorem sys_none (I : Inv X pins σ H s) (h : sysB X.K = true) : H sysModules = none := by
  obtain ⟨o, e, _⟩ := sys_ok h
  exact (I.bs _ _ (I.ok.mod.kin _ _ e)).2
theorem sys_list (I : Inv X pins σ H s) (h : sysB X.K = true) {a : Addr} {xs : List V} (q : SqL X.K H a xs) : sysModules ≠ a := fun e => by
  subst e
  have hn := sys_none I h
  obtain ⟨o, e1, e2⟩ := sys_ok h
  rcases q with (q | ⟨u, q⟩) | ⟨o', _, _, q, c, _⟩
  · rw [hn] at q
    cases q
  · rw [hn] at q
    cases q
  · rw [e1] at q
    injection q with q
    rw [← q, e2] at c
    simp at c
mutual
theorem dq_sys (I : Inv X pins σ H s) (h : sysB X.K = true) : ∀ {v : V} {d : PyData} {ls : List Addr}, Dq X.K H v d ls → sysModules ∉ ls
  | _, _, _, .non => List.not_mem_nil
  | _, _, _, .bl b => List.not_mem_nil
  | _, _, _, .int i => List.not_mem_nil
  | _, _, _, .str z => List.not_mem_nil
  | _, _, _, .lst q t => fun m => (List.mem_cons.mp m).elim (sys_list I h q) (dqs_sys I h t)
  | _, _, _, .tup q t => dqs_sys I h t
  | _, _, _, .dic q t1 t2 => fun m => (List.mem_append.mp m).elim (dqs_sys I h t1) (dqs_sys I h t2)
theorem dqs_sys (I : Inv X pins σ H s) (h : sysB X.K = true) : ∀ {v : List V} {d : List PyData} {ls : List Addr}, Dqs X.K H v d ls → sysModules ∉ ls
  | _, _, _, .nil => List.not_mem_nil
  | _, _, _, .cons q t => fun m => (List.mem_append.mp m).elim (dq_sys I h q) (dqs_sys I h t)
end
end
/-- such a datum is told by repr -/
def okM (d : PyData) : Bool := d.showable && (decide (d.depth ≤ 60) && (decide (d.shown.length ≤ sizeLine) && PyData.strOk d.shown))
/-- v is told as txt -/
def RepM (K : PySem.W.Frag) (H : Hp) (v : V) (txt : Str) : Prop := ∃ (d : PyData) (ls : List Addr), Dq K H v d ls ∧ okM d = true ∧ txt = d.shown
theorem RepM.same {K : PySem.W.Frag} {H H' : Hp} (e : Same H H') {v : V} {t : Str} : RepM K H v t → RepM K H' v t := fun ⟨d, ls, h, r⟩ => ⟨d, ls, dq_same e h, r⟩
theorem RepM.ok {K : PySem.W.Frag} {H : Hp} {v : V} {t : Str} : RepM K H v t → PyData.strOk t = true := fun ⟨d, _, _, h, e⟩ => by
  obtain ⟨_, h⟩ := He.ba h
  obtain ⟨_, h⟩ := He.ba h
  rw [e]
  exact (He.ba h).2
def rRepM (K : PySem.W.Frag) : List V → Hp → VK → Prop := fun xs H Q => ∃ (v : V) (t : Str), xs = [v] ∧ RepM K H v t ∧ Q (.str t) H
theorem call_reprM {X : Cx} (hn : NoRep X.A) (hu : X.A.units + 64 < cLine) (hs : sysB X.K = true) : CallR X (.builtin "repr") (rRepM X.K) := by
  intro pins st σ H xs us Q I r h
  obtain ⟨v, t, rfl, ⟨d, ls, hd, ok, rfl⟩, q⟩ := h
  obtain ⟨e1, ok⟩ := He.ba ok
  obtain ⟨e2, ok⟩ := He.ba ok
  obtain ⟨e3, e4⟩ := He.ba ok
  exact call_repr hn hu pins st σ H [v] us Q I r ⟨v, d, ls, rfl, hd, fun _ => dq_sys I hs hd, e1, of_decide_eq_true e2, of_decide_eq_true e3, q⟩
/-! ### data that may stand in a list that is shown -/
def good2 (d : PyData) : Bool := d.showable && (PyData.leavesShort 32 d && (decide (d.depth ≤ 5) && (decide (d.weight ≤ 400) && PyData.strOk d.shown)))
theorem good2_of {d : PyData} (h : good1 d = true) : good2 d = true := by
  simp only [good1, Bool.and_eq_true, decide_eq_true_eq, Bool.not_eq_true'] at h
  obtain ⟨⟨⟨⟨⟨r1, r2⟩, r3⟩, r4⟩, r5⟩, r6⟩ := h
  simp [good2, r1, r2, r3, r4, shown_ok d r5]
theorem all_good2 : ∀ ds : List PyData, (∀ d ∈ ds, good2 d = true) → PyData.showableAll ds = true ∧ PyData.leavesShortAll 32 ds = true ∧ PyData.depthAll ds ≤ 5 ∧ PyData.weightAll ds ≤ 401 * ds.length ∧ ∀ t ∈ PyData.shownAll ds, PyData.strOk t = true
  | [], _ => by simp [PyData.showableAll, PyData.leavesShortAll, PyData.depthAll, PyData.weightAll, PyData.shownAll]
  | x :: xs, h => by
    have q := all_good2 xs fun d hd => h d (List.mem_cons_of_mem _ hd)
    have r := h x List.mem_cons_self
    simp only [good2, Bool.and_eq_true, decide_eq_true_eq] at r
    obtain ⟨r1, r2, r3, r4, r5⟩ := r
    obtain ⟨q1, q2, q3, q4, q5⟩ := q
    refine ⟨by simp [PyData.showableAll, r1, q1], by simp [PyData.leavesShortAll, r2, q2], ?_, ?_, fun t ht => ?_⟩
    · simp only [PyData.depthAll]
      omega
    · simp only [PyData.weightAll, List.length_cons]
      omega
    · simp only [PyData.shownAll] at ht
      rcases List.mem_cons.mp ht with rfl | ht
      · exact r5
      · exact q5 t ht
theorem okM_list (ds : List PyData) (h : ∀ d ∈ ds, good2 d = true) (n : ds.length ≤ 1000) : okM (.list ds) = true := by
  obtain ⟨q1, q2, q3, q4, q5⟩ := all_good2 ds h
  have a := PyData.shown_le 32 (by decide) (.list ds) (by simpa [PyData.leavesShort] using q2)
  have e : PyData.strOk (PyData.list ds).shown = true := by
    simp only [PyData.shown]
    exact app_ok (textFrom_ok _ _ _ (ofStr_ok _) q5) (ofStr_ok _)
  have f : (PyData.list ds).depth ≤ 60 := by simp only [PyData.depth]; omega
  have k : (PyData.list ds).showable = true := by simpa [PyData.showable] using q1
  have b : (PyData.list ds).weight ≤ 401 * ds.length + 100 := by simp only [PyData.weight]; omega
  have c : (PyData.list ds).shown.length ≤ sizeLine := by
    have d : (32 + 2) * (PyData.list ds).weight ≤ 34 * (401 * ds.length + 100) := Nat.mul_le_mul (Nat.le_refl _) b
    rw [sizeLine_eq]
    omega
  simp [okM, e, f, k, c]
theorem okM_tuple (ds : List PyData) (h : ∀ d ∈ ds, good2 d = true) (n : ds.length ≤ 1000) : okM (.tuple ds) = true := by
  obtain ⟨q1, q2, q3, q4, q5⟩ := all_good2 ds h
  have a := PyData.shown_le 32 (by decide) (.tuple ds) (by simpa [PyData.leavesShort] using q2)
  have e : PyData.strOk (PyData.tuple ds).shown = true := by
    simp only [PyData.shown]
    exact app_ok (app_ok (ofStr_ok _) (strJoin_ok (ofStr_ok _) _ q5)) (ofStr_ok _)
  have f : (PyData.tuple ds).depth ≤ 60 := by simp only [PyData.depth]; omega
  have k : (PyData.tuple ds).showable = true := by simpa [PyData.showable] using q1
  have b : (PyData.tuple ds).weight ≤ 401 * ds.length + 100 := by simp only [PyData.weight]; omega
  have c : (PyData.tuple ds).shown.length ≤ sizeLine := by
    have d : (32 + 2) * (PyData.tuple ds).weight ≤ 34 * (401 * ds.length + 100) := Nat.mul_le_mul (Nat.le_refl _) b
    rw [sizeLine_eq]
    omega
  simp [okM, e, f, k, c]
theorem good2_ok {d : PyData} (h : good2 d = true) : okM d = true := by
  simp only [good2, Bool.and_eq_true, decide_eq_true_eq] at h
  obtain ⟨r1, r2, r3, r4, r5⟩ := h
  have a := PyData.shown_le 32 (by decide) d r2
  have c : d.shown.length ≤ sizeLine := by
    have e : (32 + 2) * d.weight ≤ 34 * 400 := Nat.mul_le_mul (Nat.le_refl _) r4
    rw [sizeLine_eq]
    omega
  have f : d.depth ≤ 60 := by omega
  simp [okM, r1, f, c, r5]
/-! ### told by one who lengthens lists -/
inductive ResM (K : PySem.W.Frag) (H : Hp) : V → Str → Hp → Prop
  | other {v : V} {t : Str} (k : IsK K H v "list" false) (r : RepM K H v t) : ResM K H v t H
  | list {a : Addr} {xs : List V} {t : Str} (e : H a = some (.lst xs)) (z : xs.length < 900) (r : RepM K (upd H a (.lst (xs ++ [.str "more"]))) (.ref a) t) : ResM K H (.ref a) t (upd H a (.lst (xs ++ [.str "more"])))
theorem ResM.rep {K : PySem.W.Frag} {H H2 : Hp} {v : V} {t : Str} : ResM K H v t H2 → RepM K H2 v t
  | .other _ r => r
  | .list _ _ r => r
/-! ### a written list gone through; T: its lists, which may be lengthened -/
inductive El (H : Hp) (ok : Addr → Prop) : V → PyData → List Addr → Prop
  | other {v : V} {d : PyData} {ls : List Addr} (h : Lt H v d ls) (k : kitB (kindD d) "list" = some false) (o : ∀ x ∈ ls, ok x) : El H ok v d []
  | list {a : Addr} {xs : List V} {es : List PyData} {ls : List Addr} (h : H a = some (.lst xs)) (t : Lts H xs es ls) (o : ∀ x ∈ ls, ok x) : El H ok (.ref a) (.list es) [a]
inductive Els (H : Hp) (ok : Addr → Prop) : List V → List PyData → List Addr → Prop
  | nil : Els H ok [] [] []
  | cons {v : V} {vs : List V} {d : PyData} {ds : List PyData} {t T : List Addr} (h : El H ok v d t) (r : Els H ok vs ds T) : Els H ok (v :: vs) (d :: ds) (t ++ T)
section
variable {H H' : Hp} {ok ok' : Addr → Prop} {K : PySem.W.Frag}
theorem El.up (e : Same H H') (w : ∀ x o, H x = some o → ok x → ok' x) {v : V} {d : PyData} {t : List Addr} : El H ok v d t → El H' ok' v d t
  | .other h k o => .other (lt_same e h) k fun x hx => let ⟨_, z⟩ := lt_at h x hx; w x _ z (o x hx)
  | .list h t o => .list (e _ _ h) (lts_same e t) fun x hx => let ⟨_, z⟩ := lts_at t x hx; w x _ z (o x hx)
theorem Els.up (e : Same H H') (w : ∀ x o, H x = some o → ok x → ok' x) : ∀ {vs : List V} {ds : List PyData} {T : List Addr}, Els H ok vs ds T → Els H' ok' vs ds T
  | _, _, _, .nil => .nil
  | _, _, _, .cons h r => .cons (h.up e w) (r.up e w)
theorem Els.app : ∀ {vs us : List V} {ds es : List PyData} {T U : List Addr}, Els H ok vs ds T → Els H ok us es U → Els H ok (vs ++ us) (ds ++ es) (T ++ U)
  | _, _, _, _, _, _, .nil, r => r
  | _, _, _, _, _, _, .cons (t := t) (T := T) h q, r => by
    rw [List.append_assoc]
    exact .cons h (q.app r)
theorem Els.len : ∀ {vs : List V} {ds : List PyData} {T : List Addr}, Els H ok vs ds T → vs.length = ds.length
  | _, _, _, .nil => rfl
  | _, _, _, .cons _ r => congrArg Nat.succ r.len
/-- a list among them -/
theorem Els.at_ : ∀ {vs : List V} {ds : List PyData} {T : List Addr}, Els H ok vs ds T → ∀ a ∈ T, ∃ xs, H a = some (.lst xs)
  | _, _, _, .nil, _, z => nomatch z
  | _, _, _, .cons h r, a, z => by
    rcases List.mem_append.mp z with z | z
    · cases h with
      | other h k o => cases z
      | list h t o => exact ⟨_, by rw [List.mem_singleton.mp z]; exact h⟩
    · exact r.at_ a z
/-- one list that is none of theirs changed -/
theorem El.but {a : Addr} (e : ∀ c o, H c = some o → c ≠ a → H' c = some o) (ha : ∃ xs, H a = some (.lst xs)) (na : ¬ ok a) {v : V} {d : PyData} {t : List Addr} (n : a ∉ t) : El H ok v d t → El H' ok v d t
  | .other h k o => .other (lt_but e ha h fun z => na (o a z)) k o
  | .list h t o => .list (e _ _ h fun z => n (by rw [z] <;> exact List.mem_cons_self)) (lts_but e ha t fun z => na (o a z)) o
theorem Els.but {a : Addr} (e : ∀ c o, H c = some o → c ≠ a → H' c = some o) (ha : ∃ xs, H a = some (.lst xs)) (na : ¬ ok a) : ∀ {vs : List V} {ds : List PyData} {T : List Addr}, a ∉ T → Els H ok vs ds T → Els H' ok vs ds T
  | _, _, _, _, .nil => .nil
  | _, _, _, n, .cons h r => .cons (h.but e ha na fun z => n (List.mem_append_left _ z)) (r.but e ha na fun z => n (List.mem_append_right _ z))
end
def moreD : PyData → PyData
  | .list es => .list (es ++ [.str "more"])
  | d => d
/-- fit to be told and lengthened -/
def elOk : PyData → Prop
  | .list es => es.length < 900 ∧ okM (.list (es ++ [.str "more"])) = true
  | d => okM d = true
/-- going through the list at L, from the place i on -/
structure InvE (H0 : Hp) (L : Addr) (vs : List V) (ds : List PyData) (i : Nat) (H' : Hp) : Prop where
  same : Same H0 H'
  at_ : H' L = some (.lst vs)
  new : H0 L = none
  rest : ∃ T, Els H' (fun x => x ∉ T ∧ x ≠ L) (vs.drop i) (ds.drop i) T ∧ T.Nodup ∧ L ∉ T ∧ ∀ a ∈ T, H0 a = none
structure CurE (H0 : Hp) (L : Addr) (vs : List V) (ds : List PyData) (i : Nat) (x : V) (d : PyData) (H' : Hp) : Prop where
  same : Same H0 H'
  at_ : H' L = some (.lst vs)
  new : H0 L = none
  rest : ∃ t T, El H' (fun x => x ∉ t ++ T ∧ x ≠ L) x d t ∧ Els H' (fun x => x ∉ t ++ T ∧ x ≠ L) (vs.drop (i + 1)) (ds.drop (i + 1)) T ∧ (t ++ T).Nodup ∧ L ∉ t ++ T ∧ ∀ a ∈ t ++ T, H0 a = none
section
variable {H0 H' : Hp} {K : PySem.W.Frag} {L : Addr} {vs : List V} {ds : List PyData} {i : Nat} {x : V} {d : PyData}
theorem InvE.up (I : InvE H0 L vs ds i H') {H2 : Hp} (s : Same H' H2) : InvE H0 L vs ds i H2 :=
  let ⟨T, t, n, l, f⟩ := I.rest
  ⟨I.same.trans s, s _ _ I.at_, I.new, T, t.up s (fun _ _ _ z => z), n, l, f⟩
theorem CurE.up (I : CurE H0 L vs ds i x d H') {H2 : Hp} (s : Same H' H2) : CurE H0 L vs ds i x d H2 :=
  let ⟨t, T, t1, t2, n, l, f⟩ := I.rest
  ⟨I.same.trans s, s _ _ I.at_, I.new, t, T, t1.up s (fun _ _ _ z => z), t2.up s (fun _ _ _ z => z), n, l, f⟩
theorem CurE.close (I : CurE H0 L vs ds i x d H') : InvE H0 L vs ds (i + 1) H' :=
  let ⟨t, T, _, t2, n, l, f⟩ := I.rest
  ⟨I.same, I.at_, I.new, T, t2.up (Same.refl _) (fun x _ _ z => ⟨fun y => z.1 (List.mem_append_right _ y), z.2⟩), (List.nodup_append.mp n).2.1, fun z => l (List.mem_append_right _ z), fun a z => f a (List.mem_append_right _ z)⟩
theorem InvE.first (I : InvE H0 L vs ds i H') (hx : vs[i]? = some x) : ∃ d, ds[i]? = some d ∧ CurE H0 L vs ds i x d H' := by
  obtain ⟨T, t, nd, nl, fr⟩ := I.rest
  obtain ⟨il, rfl⟩ := List.getElem?_eq_some_iff.mp hx
  have dl : i < ds.length := by
    have := t.len
    rw [List.length_drop, List.length_drop] at this
    omega
  rw [List.drop_eq_getElem_cons il, List.drop_eq_getElem_cons dl] at t
  generalize hd : ds[i] = d at t
  generalize hv : vs[i] = v at t
  cases t with
  | @cons _ _ _ _ t1 T1 h r => exact ⟨d, by rw [List.getElem?_eq_getElem dl, hd], I.same, I.at_, I.new, t1, T1, h, r, nd, nl, fr⟩
theorem CurE.el (I : CurE H0 L vs ds i x d H') : ∃ ok t, El H' ok x d t := let ⟨t, _, h, _⟩ := I.rest; ⟨_, t, h⟩
theorem el_lt {H : Hp} {ok : Addr → Prop} {v : V} {d : PyData} {t : List Addr} : El H ok v d t → ∃ ls, Lt H v d ls
  | .other h _ _ => ⟨_, h⟩
  | .list h t _ => ⟨_, .lst h t⟩
theorem El.isk {H : Hp} {ok : Addr → Prop} {v : V} {d : PyData} {t : List Addr} {T : String} {b : Bool} (h : El H ok v d t) (e : kitB (kindD d) T = some b) : IsK K H v T b := let ⟨_, q⟩ := el_lt h; lt_isk q e
theorem lt_repM {H : Hp} {v : V} {d : PyData} {ls : List Addr} (h : Lt H v d ls) (e : okM d = true) : RepM K H v d.shown := ⟨d, ls, lt_dq h, e, rfl⟩
/-- told by one who lengthens lists -/
theorem CurE.res (I : CurE H0 L vs ds i x d H') (ok : elOk d) : ∃ t H2, ResM K H' x t H2 ∧ CurE H0 L vs ds i x (moreD d) H2 := by
  obtain ⟨t, T, h, r, nd, nl, fr⟩ := I.rest
  generalize ho : (fun x => x ∉ t ++ T ∧ x ≠ L) = oks at h r
  have ho' : ∀ x, oks x → x ∉ t ++ T ∧ x ≠ L := fun x hx => by rw [← ho] at hx; exact hx
  cases h with
  | other h k o =>
    have e : moreD d = d := by
      cases d <;> first | rfl | (exfalso; revert k; simp only [kindD]; decide +kernel)
    have okd : okM d = true := by
      cases d <;> first | exact ok | (exfalso; revert k; simp only [kindD]; decide +kernel)
    refine ⟨_, _, .other (lt_isk h k) (lt_repM h okd), ?_⟩
    rw [e]
    exact ⟨I.same, I.at_, I.new, [], T, by rw [ho]; exact .other h k o, by rw [ho]; exact r, nd, nl, fr⟩
  | @list a xs es ls h t1 o =>
    obtain ⟨ok1, ok2⟩ := ok
    have hx : ∃ xs, H' a = some (.lst xs) := ⟨_, h⟩
    have ev : ∀ c o, H' c = some o → c ≠ a → (upd H' a (.lst (xs ++ [.str "more"]))) c = some o := fun c o e ne => by
      rw [upd_ne ne]
      exact e
    have na : ¬ oks a := fun z => (ho' a z).1 List.mem_cons_self
    have t2 : Lts (upd H' a (.lst (xs ++ [.str "more"]))) (xs ++ [.str "more"]) (es ++ [.str "more"]) (ls ++ ([] ++ [])) := lts_app (lts_but ev hx t1 fun z => na (o a z)) (.cons (.str _) .nil)
    have aL : L ≠ a := fun e => nl (by rw [e] <;> exact List.mem_cons_self)
    have aT : a ∉ T := (List.nodup_cons.mp nd).1
    refine ⟨_, _, .list h (by rw [lts_len t1]; exact ok1) (lt_repM (.lst upd_same t2) ok2), ⟨fun c o e => ?_, by rw [upd_ne aL]; exact I.at_, I.new, [a], T, ?_, ?_, nd, nl, fr⟩⟩
    · rw [upd_ne (ne_of_none e (fr a List.mem_cons_self))]
      exact I.same c o e
    · rw [ho]
      exact .list upd_same t2 fun x hx => o x (by simpa using hx)
    · rw [ho]
      exact r.but ev hx na aT
end
end Za
/-! The draws: cell, hash, generator, random. -/
namespace Kx
open PySem PySem.Spec PyProof.Rows L2 Xa Xb Xc Xd
def top (i : Nat) : Stmt := PySem.Challenge.pw_hearunlike_k28_whole_plans_behind_one_an.main.body.getD i (.Pass ⟨0, 0, 0, 0⟩)
abbrev FnP (K : PySem.W.Frag) (x : Str) (st : Stmt) (f : Addr) (fd : FuncData) : Prop := FunD K x x (defArgs st) (defBody st) (defScope st) [] [] f fd
abbrev sCell : Stmt := top 47
abbrev sHash : Stmt := top 48
abbrev sGener : Stmt := top 49
abbrev sRandom : Stmt := top 50
/-- the built-ins that the text has not taken -/
structure Bi (mg : Str → Option Value) : Prop where
  len : mg "len" = none
  int : mg "int" = none
  max : mg "max" = none
  range : mg "range" = none
theorem pa1 {X : Cx} {e : Expr} {te : TE} (he : PE X e te) (hs : starEach (e :: []) X.env = (false, eval e X.env) :: starEach [] X.env := by rfl) : PA X [e] (tCons te tNil) := pa_cons he pa_nil hs
section
variable {P : Program} {w : World} {K : PySem.W.Frag} {mg : Str → Option Value} {base : Heap} {f : Addr} {fd : FuncData}

/-! ### cell -/
def spCell (K : PySem.W.Frag) : Sp := fun xs H Q _ => ∃ (a : Addr) (ns : List Int) (i : Nat), xs = [.ref a, .int (i : Int)] ∧ SqL K H a (ns.map V.int) ∧ ∀ z, Q (.int z) H
theorem scCell : FnScope ["script", "index"] ["script", "index"] (defScope sCell) := ⟨rfl, rfl, rfl, by decide +kernel, rfl, by decide +kernel, by decide +kernel⟩
theorem ok_cell (F : FnP K "_law_cell" sCell f fd) (B : Bi mg) : FnG P w K mg base 1 f fd ["script", "index"] (spCell K) := by
  refine okG F scCell (fun xs H Q E h => ?_) (fun cdv A outer s H vs Q E hr hn h => ?_)
  · obtain ⟨a, ns, i, rfl, _⟩ := h
    rfl
  · obtain ⟨a, ns, i, rfl, hS, q⟩ := h
    refine ⟨_, pss_cons (ps_if (pt_cmpR op_lt (pv 1) (pe_callB call_len_seq (by rfl) B.len PySem.boot_len (pa_cons (pv 0) pa_nil)) (nomark _)) (pss_one (ps_ret (pe_ix ix_list (pv 0) (pv 1) (fun _ _ => rfl)))) pss_nil)
      (pss_one (ps_ret pe_int)), ?_⟩
    refine ⟨_, rfl, _, rfl, a, _, rfl, .inl hS, _, _, rfl, rfl, _, rfl, ite2 (fun c => ?_) (fun _ => q 0)⟩
    have hlt : i < (ns.map V.int).length := by
      have c2 := of_decide_eq_true c
      omega
    rw [List.length_map] at hlt
    exact ⟨_, rfl, _, rfl, a, _, _, .int ns[i], rfl, rfl, hS, atI_nat (by rw [List.getElem?_map, List.getElem?_eq_getElem hlt]; rfl), q _⟩

/-! ### hash -/
def spHash : Sp := fun xs H Q _ => ∃ (z i : Int), xs = [.int z, .int i] ∧ 0 ≤ z ∧ z < 2147483647 ∧ 0 ≤ i ∧ i < 2 ^ 50 ∧ ∀ r : Int, 0 ≤ r → r < 2147483587 → Q (.int r) H
theorem scHash : FnScope ["seed", "index", "mixed"] ["seed", "index"] (defScope sHash) := ⟨rfl, rfl, rfl, by decide +kernel, rfl, by decide +kernel, by decide +kernel⟩
theorem ok_hash (F : FnP K "_law_hash" sHash f fd) (B : Bi mg) : FnG P w K mg base 1 f fd ["seed", "index"] spHash := by
  refine okG F scHash (fun xs H Q E h => ?_) (fun cdv A outer s H vs Q E hr hn h => ?_)
  · obtain ⟨z, i, rfl, _⟩ := h
    rfl
  · obtain ⟨z, i, rfl, z0, z1, i0, i1, q⟩ := h
    refine ⟨_, pss_cons (ps_set (i := 2) scHash.nd rfl (Or.inl rfl) (pe_op op_modN (pe_callTy call_int1 (by rfl) B.int (by decide +kernel) (pa1 (pe_op op_add (pe_op op_add (pe_op op_add (pe_op op_mul (pv 0) pe_int) (pe_op op_mul (pe_op op_mul pe_int (pv 1)) (pv 1))) (pv 1)) pe_int))) pe_int))
      (pss_cons (ps_set (i := 2) scHash.nd rfl (Or.inl rfl) (pe_op op_modN (pe_callTy call_int1 (by rfl) B.int (by decide +kernel) (pa1 (pe_op op_add (pe_op op_mul (pv 2) (pv 2)) pe_int))) pe_int))
      (pss_one (ps_ret (pe_op op_modN (pe_callTy call_int1 (by rfl) B.int (by decide +kernel) (pa1 (pe_op op_mul (pv 2) pe_int))) pe_int)))), ?_⟩
    have m1 : ∀ x y : Int, 0 < y → 0 ≤ x.fmod y ∧ x.fmod y < y := fun x y hy => ⟨Int.fmod_nonneg_of_pos _ hy, Int.fmod_lt_of_pos _ hy⟩
    refine ⟨_, rfl, _, _, rfl, rfl, .inr ⟨by decide, by decide⟩, _, rfl, _, _, rfl, rfl, .inl ⟨by decide, by decide⟩, _, rfl, _, _, rfl, rfl, .inr ⟨by omega, by omega⟩, _, _, rfl, rfl, _, rfl, _, _, rfl, rfl, _, _, rfl, rfl, .inl ⟨_, rfl, ?_⟩⟩
    refine ⟨_, _, rfl, rfl, (by show (2147483647 : Int) ≠ 0; decide), ?_⟩
    obtain ⟨a0, a1⟩ := m1 (z * 1103515245 + 7919 * i * i + i + 1) 2147483647 (by decide)
    refine ⟨_, rfl, _, rfl, _, _, rfl, rfl, .inl ⟨by omega, by omega⟩, _, _, rfl, rfl, .inl ⟨_, rfl, ?_⟩⟩
    refine ⟨_, _, rfl, rfl, (by show (2147483629 : Int) ≠ 0; decide), ?_⟩
    refine ⟨_, rfl, _, _, rfl, rfl, .inr ⟨by decide, by decide⟩, .inl ⟨_, rfl, ?_⟩⟩
    refine ⟨_, _, rfl, rfl, (by show (2147483587 : Int) ≠ 0; decide), ?_⟩
    exact q _ (m1 _ _ (by decide)).1 (m1 _ _ (by decide)).2

/-! ### generator, random -/
/-- a generator's list stands at g, its counter at most n -/
def Gen (H : Hp) (g : Addr) (n : Nat) : Prop := ∃ g0 g1 g2 : Int, H g = some (.lst [.int g0, .int g1, .int g2]) ∧ 0 ≤ g0 ∧ g0 < 2 ^ 2000 ∧ 0 ≤ g1 ∧ g1 < 2147483647 ∧ 0 ≤ g2 ∧ g2 ≤ n
theorem op_powW {X : Cx} : OpR X (binaryOp .Pow) (rI (fun i j => 0 ≤ j ∧ (Builtin.Int.intBits i : Int) * j ≤ 2 ^ 27) fun i j => .int (i ^ j.toNat)) := by
  rintro pins st σ H x y v u Q I rx ry ⟨i, j, rfl, rfl, ⟨h1, h2⟩, q⟩
  obtain ⟨t, rfl⟩ := rx
  obtain ⟨t2, rfl⟩ := ry
  exact pow_int h1 h2 ⟨.int _, H, I.tok _, ⟨_, rfl⟩, q⟩
def spGener (K : PySem.W.Frag) : Sp := fun xs H Q _ => ∃ (a : Addr) (ns : List Int) (i : Nat), xs = [.ref a, .int (i : Int)] ∧ i ≤ 1000 ∧ SqL K H a (ns.map V.int) ∧ ∀ p H', H p = none → Same H H' → Gen H' p (1000 * i) → Q (.ref p) H'
theorem scGener : FnScope ["script", "index", "seed"] ["script", "index"] (defScope sGener) := ⟨rfl, rfl, rfl, by decide +kernel, rfl, by decide +kernel, by decide +kernel⟩
theorem ok_gener {fC : Addr} {fdC : FuncData} (F : FnP K "_law_generator" sGener f fd) (B : Bi mg) (FC : FnP K "_law_cell" sCell fC fdC) (gC : mg "_law_cell" = some (.ref fC)) : FnG P w K mg base 2 f fd ["script", "index"] (spGener K) := by
  have GC : FnG P w K mg base 1 fC fdC ["script", "index"] (spCell K) := ok_cell FC B
  have bC : Binds K fdC ["script", "index"] [] := FC.bindsN fun _ _ _ _ _ _ us hl => match us, hl with | [_, _], _ => rfl
  refine okG F scGener (fun xs H Q E h => ?_) (fun cdv A outer s H vs Q E hr hn h => ?_)
  · obtain ⟨a, ns, i, rfl, _⟩ := h
    rfl
  · obtain ⟨a, ns, i, rfl, hi, hS, q⟩ := h
    refine ⟨_, pss_cons (ps_set (i := 2) scGener.nd rfl (Or.inl rfl) (pe_callG GC hr hn rfl gC FC.kp bC (pa_cons (pv 0) (pa_cons (pv 1) pa_nil))))
      (pss_one (ps_ret (pe_lst (pa_cons (pe_op op_modN (pe_callTy call_int1 (by rfl) B.int (by decide +kernel) (pa1 (pe_callB (call_max2 rfl) (by rfl) B.max (by decide +kernel) (pa_cons (pe_op op_sub (pv 2) (pe_op op_pow pe_int pe_int)) (pa_cons pe_int pa_nil))))) (pe_op op_powW (pe_op op_pow pe_int pe_int) pe_int))
        (pa_cons (pe_op op_modN (pe_callTy call_int1 (by rfl) B.int (by decide +kernel) (pa1 (pv 2))) pe_int) (pa_cons (pe_op op_mul pe_int (pv 1)) pa_nil)))))), ?_⟩
    refine ⟨_, rfl, _, rfl, a, ns, i, rfl, hS, fun z => ?_⟩
    refine ⟨_, rfl, _, _, rfl, rfl, ⟨by decide, by decide, by decide⟩, _, _, rfl, rfl, _, _, rfl, .inl ⟨_, rfl, _, _, rfl, rfl, ⟨by decide, by decide, by decide⟩, _, _, rfl, rfl, ⟨by decide, by decide +kernel⟩, ?_⟩⟩
    have big : (0 : Int) < (10 ^ (60 : Int).toNat) ^ (10 : Int).toNat := by decide
    have big2 : ((10 : Int) ^ (60 : Int).toNat) ^ (10 : Int).toNat < 2 ^ 2000 := by decide
    refine ⟨_, _, rfl, rfl, Int.ne_of_gt big, _, rfl, .inl ⟨_, rfl, _, _, rfl, rfl, (by show (2147483647 : Int) ≠ 0; decide), _, rfl, _, _, rfl, rfl, .inl ⟨by decide, by decide⟩, (by show 3 ≤ sizeLine; decide), fun p np => ?_⟩⟩
    refine q p _ np (fun b o e => by rw [upd_ne (ne_of_none e np)]; exact e) ⟨_, _, _, upd_same, Int.fmod_nonneg_of_pos _ big, Int.lt_trans (Int.fmod_lt_of_pos _ big) big2, Int.fmod_nonneg_of_pos _ (by decide), Int.fmod_lt_of_pos _ (by decide), by omega, by omega⟩

def spRandom : Sp := fun xs H Q _ => ∃ (g : Addr) (b : Int) (n : Nat), xs = [.ref g, .int b] ∧ 0 < b ∧ b < 2 ^ 90 ∧ Gen H g n ∧ n ≤ 2 ^ 40 ∧ ∀ (r : Int) (H' : Hp), 0 ≤ r → r < b → Gen H' g (n + 4) → (∀ c, c ≠ g → H' c = H c) → Q (.int r) H'
theorem scRandom : FnScope ["generator", "bound", "drawn", "turn"] ["generator", "bound"] (defScope sRandom) := ⟨rfl, rfl, rfl, by decide +kernel, rfl, by decide +kernel, by decide +kernel⟩
theorem ok_random {fC : Addr} {fdC : FuncData} (F : FnP K "_law_random" sRandom f fd) (B : Bi mg) (FC : FnP K "_law_hash" sHash fC fdC) (gC : mg "_law_hash" = some (.ref fC)) : FnG P w K mg base 2 f fd ["generator", "bound"] spRandom := by
  have GC : FnG P w K mg base 1 fC fdC ["seed", "index"] spHash := ok_hash FC B
  have bC : Binds K fdC ["seed", "index"] [] := FC.bindsN fun _ _ _ _ _ _ us hl => match us, hl with | [_, _], _ => rfl
  refine okG F scRandom (fun xs H Q E h => ?_) (fun cdv A outer s H vs Q E hr hn h => ?_)
  · obtain ⟨g, b, n, rfl, _⟩ := h
    rfl
  · obtain ⟨g, b, n, rfl, b0, b1, ⟨g0, g1, g2, hg, g00, g01, g10, g11, g20, g21⟩, hn1, q⟩ := h
    refine ⟨_, pss_cons (ps_if (pt_cmpR op_gt (pe_ix ix_list (pv 0) pe_int (fun _ _ => rfl)) pe_int (nomark _))
        (pss_cons (ps_set (i := 2) scRandom.nd rfl (Or.inl rfl) (pe_op op_modN (pe_callTy call_int1 (by rfl) B.int (by decide +kernel) (pa1 (pe_ix ix_list (pv 0) pe_int (fun _ _ => rfl)))) (pv 1)))
        (pss_cons (ps_asg (pe_op op_fdivW (pe_ix ix_list (pv 0) pe_int (fun _ _ => rfl)) (pv 1)) (pg_sub (pv 0) pe_int set_list))
        (pss_one (ps_ret (pv 2))))) pss_nil)
      (pss_cons (ps_set (i := 2) scRandom.nd rfl (Or.inl rfl) pe_int)
      (pss_cons (ps_for PassesOwn.never rfl (pi_range1 (by rfl) B.range (pa1 (pe_op op_add pe_int (pe_op op_fdivW (pe_bits (pv 1)) pe_int)))) (pg_name (i := 3) scRandom.nd rfl (Or.inl rfl))
        (pss_cons (ps_asg (pe_op op_add (pe_ix ix_list (pv 0) pe_int (fun _ _ => rfl)) pe_int) (pg_sub (pv 0) pe_int set_list))
        (pss_one (ps_set (i := 2) scRandom.nd rfl (Or.inl rfl) (pe_op op_add (pe_op op_mul (pv 2) pe_int) (pe_callG GC hr hn rfl gC FC.kp bC (pa_cons (pe_ix ix_list (pv 0) pe_int (fun _ _ => rfl)) (pa_cons (pe_ix ix_list (pv 0) pe_int (fun _ _ => rfl)) pa_nil))))))))
      (pss_one (ps_ret (pe_op op_modN (pe_callTy call_int1 (by rfl) B.int (by decide +kernel) (pa1 (pv 2))) (pv 1)))))), ?_⟩
    have at0 : ∀ (z : Int) (r : List V), atI (V.int z :: r) 0 = some (V.int z) := fun z r => atI_nat (j := 0) rfl
    refine ⟨_, rfl, g, _, 0, .int g0, rfl, rfl, SqL.of hg, at0 _ _, _, _, rfl, rfl, _, rfl, ite2 (fun c => ?_) (fun c => ?_)⟩
    · have g0p : 0 < g0 := of_decide_eq_true c
      have bn : b.natAbs < 2 ^ 90 := by omega
      refine ⟨_, rfl, g, _, 0, .int g0, rfl, rfl, SqL.of hg, at0 _ _, .inl ⟨_, rfl, _, rfl, _, _, rfl, rfl, Int.ne_of_gt b0, ?_⟩⟩
      refine ⟨_, rfl, g, _, 0, .int g0, rfl, rfl, SqL.of hg, at0 _ _, _, rfl, _, _, rfl, rfl, wide_div b0 bn (by decide) (by decide), ?_⟩
      refine ⟨_, rfl, g, _, 0, 0, rfl, rfl, hg, rfl, _, rfl, ?_⟩
      refine q _ _ (Int.fmod_nonneg_of_pos _ b0) (Int.fmod_lt_of_pos _ b0) ⟨_, g1, g2, upd_same, Int.ediv_nonneg g00 (Int.le_of_lt b0), ?_, g10, g11, g20, by omega⟩ fun c hc => upd_ne hc
      exact Int.lt_of_le_of_lt (Int.ediv_le_self _ g00) g01
    · have bits : Builtin.Int.intBits b ≤ 90 := by
        have h1 : b.natAbs < 2 ^ 90 := by omega
        have h2 := PySem.Flt.log2_lt_of (k := 90) (by decide) h1
        unfold Builtin.Int.intBits
        split <;> omega
      have at1 : ∀ (x z : Int) (r : List V), atI (V.int x :: V.int z :: r) 1 = some (V.int z) := fun x z r => atI_nat (j := 1) rfl
      have at2 : ∀ (x y z : Int) (r : List V), atI (V.int x :: V.int y :: V.int z :: r) 2 = some (V.int z) := fun x y z r => atI_nat (j := 2) rfl
      refine ⟨_, rfl, b, rfl, _, _, rfl, rfl, ⟨by decide, by decide⟩, _, _, rfl, rfl, _, rfl, by omega, by omega, ?_⟩
      have e30 : (1 + ((Builtin.Int.intBits b : Nat) : Int) / 30).toNat ≤ 4 := by omega
      generalize (1 + ((Builtin.Int.intBits b : Nat) : Int) / 30).toNat = m at e30
      refine for_range (lo := 0) (n := m) (fun i σ H' => ∃ (dr : Int) (tv : Option V), σ = [some (.ref g), some (.int b), some (.int dr), tv] ∧ 0 ≤ dr ∧ H' = upd H g (.lst [.int g0, .int g1, .int (g2 + i)])) ⟨0, none, rfl, by decide, ?_⟩ ?_ ?_
      · funext c
        by_cases hc : c = g
        · rw [hc, upd_same, hg]
          simp
        · rw [upd_ne hc]
      · rintro i σ H' hi ⟨dr, tv, rfl, d0, rfl⟩
        refine ⟨_, rfl, g, _, 2, .int (g2 + i), rfl, rfl, SqL.of upd_same, at2 _ _ _ _, _, _, rfl, rfl, _, rfl, g, _, 2, 2, rfl, rfl, upd_same, rfl, ?_⟩
        refine ⟨_, rfl, _, _, rfl, rfl, .inr ⟨by decide, by decide⟩, _, rfl, g, _, 1, .int g1, rfl, rfl, SqL.of upd_same, at1 _ _ _, _, rfl, g, _, 2, .int (g2 + i + 1), rfl, rfl, SqL.of upd_same, at2 _ _ _ _, g1, g2 + i + 1, rfl, g10, g11, by omega, by omega, fun r r0 r1 => ?_⟩
        refine ⟨_, _, rfl, rfl, _, _, rfl, ?_, ?_⟩
        · have : 0 ≤ dr * 2147483587 := Int.mul_nonneg d0 (by decide)
          omega
        · rw [upd_upd]
          have e : g2 + (i : Int) + 1 = g2 + ((i + 1 : Nat) : Int) := by omega
          rw [← e]
          rfl
      · rintro σ H' ⟨dr, tv, rfl, d0, rfl⟩
        refine ⟨_, rfl, .inl ⟨_, rfl, _, rfl, _, _, rfl, rfl, Int.ne_of_gt b0, ?_⟩⟩
        exact q _ _ (Int.fmod_nonneg_of_pos _ b0) (Int.fmod_lt_of_pos _ b0) ⟨g0, g1, g2 + m, upd_same, g00, g01, g10, g11, by omega, by omega⟩ fun c hc => upd_ne hc
end
end Kx
/-! The head: facts by names, the run. -/
namespace Kx
open PySem PySem.Spec PyProof.Rows L2 Xa Xb Xc Xd Xp Za
abbrev sXInvalidNumber : Stmt := inClass (top 2) 0
abbrev sXInvalidSpot : Stmt := inClass (top 6) 0
abbrev sXInvalidWeb : Stmt := inClass (top 5) 0
abbrev sXInvalidPlan : Stmt := inClass (top 7) 0
abbrev sXInvalidNeeds : Stmt := inClass (top 8) 0
abbrev sXInvalidHeard : Stmt := inClass (top 9) 0
def dTop (x : Str) (st : Stmt) : He.DefD := ⟨(x, none), x, x, defArgs st, defBody st, defScope st, [], []⟩
def dTopK (x : Str) (st : Stmt) (kwd : List (Str × He.Dv)) : He.DefD := ⟨(x, none), x, x, defArgs st, defBody st, defScope st, [], kwd⟩
def dMet (c m q : Str) (st : Stmt) (dfl : List He.Dv) (kwd : List (Str × He.Dv)) : He.DefD := ⟨(c, some m), m, q, defArgs st, defBody st, defScope st, dfl, kwd⟩
def dfs : List He.DefD := [dMet "InvalidNumber" "__init__" "InvalidNumber.__init__" sXInvalidNumber [.non] [],
  dMet "InvalidSpot" "__init__" "InvalidSpot.__init__" sXInvalidSpot [.non] [],
  dMet "InvalidWeb" "__init__" "InvalidWeb.__init__" sXInvalidWeb [.non] [],
  dMet "InvalidPlan" "__init__" "InvalidPlan.__init__" sXInvalidPlan [.non] [],
  dMet "InvalidNeeds" "__init__" "InvalidNeeds.__init__" sXInvalidNeeds [.non] [],
  dMet "InvalidHeard" "__init__" "InvalidHeard.__init__" sXInvalidHeard [.non] [],
  dMet "Web" "__init__" "Web.__init__" (inClass (top 21) 0) [] [],
  dMet "Web" "audible" "Web.audible" (inClass (top 21) 2) [] [("ring", .bl false)],
  dTop "is_whole" (top 12),
  dTop "is_between" (top 13),
  dTop "is_spot" (top 14),
  dTop "check_places" (top 15),
  dTop "check_count" (top 16),
  dTop "check_spot" (top 17),
  dTop "check_ring" (top 18),
  dTop "is_item" (top 22),
  dTop "check_items" (top 23),
  dTop "check_web" (top 24),
  dTop "is_plan" (top 26),
  dTop "is_piece" (top 31),
  dTop "are_pieces" (top 32),
  dTop "ascends" (top 33),
  dTop "is_needs" (top 34),
  dTop "is_watcher" (top 35),
  dTop "is_heard" (top 36),
  dTop "check_plan" (top 37),
  dTop "check_needs" (top 38),
  dTop "check_heard" (top 39),
  dTop "watchers" (top 40),
  dTop "spots" (top 41),
  dTop "hearing" (top 42),
  dTop "near_pieces" (top 43),
  dTop "near_pairs" (top 44),
  dTop "first_fault" (top 45),
  dTop "_law_cell" (top 47),
  dTop "_law_hash" (top 48),
  dTop "_law_generator" (top 49),
  dTop "_law_random" (top 50),
  dTop "_law_web_parts" (top 51),
  dTop "_law_heard" (top 52),
  dTop "_law_watchers" (top 53),
  dTop "_law_hearers" (top 54),
  dTop "_law_unlike" (top 55),
  dTop "_law_due_fault" (top 56),
  dTop "_law_needs" (top 57),
  dTop "_law_good_plan" (top 58),
  dTop "_law_straddles" (top 59),
  dTop "_law_hearers_right" (top 60),
  dTop "_law_ring_right" (top 61),
  dTop "_law_right" (top 62),
  dTop "law" (top 63),
  dTopK "hearers" (top 27) [("ring", .bl false)],
  dTopK "fault" (top 28) [("ring", .bl false)],
  dTopK "is_good" (top 29) [("ring", .bl false)],
  dTopK "where" (top 30) [("lies", .int 0), ("ring", .bl false)]]
def fas : List He.Fa := [.glo "WatchError", .glo "FARTHEST", .glo "InvalidNumber", .glo "InvalidSpot", .glo "InvalidWeb", .glo "InvalidPlan", .glo "InvalidNeeds", .glo "InvalidHeard", .glo "Web", .glo "is_whole", .glo "is_between", .glo "is_spot", .glo "check_places", .glo "check_count", .glo "check_spot", .glo "check_ring", .glo "is_item", .glo "check_items", .glo "check_web", .glo "is_plan", .glo "is_piece", .glo "are_pieces", .glo "ascends", .glo "is_needs", .glo "is_watcher", .glo "is_heard", .glo "check_plan", .glo "check_needs", .glo "check_heard", .glo "watchers", .glo "spots", .glo "hearing", .glo "near_pieces", .glo "near_pairs", .glo "first_fault", .glo "_law_cell", .glo "_law_hash", .glo "_law_generator", .glo "_law_random", .glo "_law_web_parts", .glo "_law_heard", .glo "_law_watchers", .glo "_law_hearers", .glo "_law_unlike", .glo "_law_due_fault", .glo "_law_needs", .glo "_law_good_plan", .glo "_law_straddles", .glo "_law_hearers_right", .glo "_law_ring_right", .glo "_law_right", .glo "law", .glo "hearers", .glo "fault", .glo "is_good", .glo "where", .free "len", .free "int", .free "max", .free "range", .free "isinstance", .free "bool", .free "tuple", .free "list", .free "set", .free "sorted", .free "abs", .free "repr", .free "str", .free "all", .free "enumerate", .free "zip", .free "min", .cls "Web", .noat "Web" "places", .noat "Web" "reach", .noat "Web" "_hears", .meth "Web" "audible", .mkr "Web", .int "MOST_PLACES" 2]
/-- WatchError's own reads -/
def wbB (K : PySem.W.Frag) : Bool := PySem.W.readsIn K (He.ga K "WatchError") (.type "type") && (He.eqO (PySem.W.specialIn K (.ref (He.ga K "WatchError")) "__getattribute__") (some (some (.builtin "type.__getattribute__"))) &&
  (match PySem.W.findCls K (.ref (He.ga K "WatchError")) (.type "type") "__init__" with
  | some (.val (.builtin n)) => n == "ValueError.__init__"
  | _ => false))
/-- an error class and its __init__ -/
def xmB (K : PySem.W.Frag) (x f : Str) : Bool := xclsB K (He.ga K x) f && (He.eqO (PySem.W.findIn K (.ref (He.ga K x)) "__init__") (some (some (.ref (He.ma K (He.ga K x) "__init__")))) && decide (PySem.W.typeIn K (.ref (He.ma K (He.ga K x) "__init__")) = some (.type "function")))
def kitE (K : PySem.W.Frag) (x y : Str) (b : Bool) : Bool := decide (PySem.W.kitOne K (.ref (He.ga K x)) (.ref (He.ga K y)) = some b)
def exL (K : PySem.W.Frag) : List Bool := [wbB K,
  xmB K "InvalidNumber" "value",
  xmB K "InvalidSpot" "value",
  xmB K "InvalidWeb" "value",
  xmB K "InvalidPlan" "value",
  xmB K "InvalidNeeds" "value",
  xmB K "InvalidHeard" "value",
  farB K (He.ga K "FARTHEST"),
  He.eqO (PySem.W.findIn K (.ref (He.ga K "Web")) "__class__") (some (some (.builtin "object.__class__"))),
  He.eqO (PySem.W.specialIn K (.builtin "object.__class__") "__get__") (some (some (.builtin "getset_descriptor.__get__"))),
  decide (PySem.W.takesIn K (.builtin "object.__class__") = some true),
  decide (PySem.W.mroIn K (He.ga K "Web") (.type "object") = some true),
  decide (PySem.W.kitOne K (.ref (He.ga K "Web")) (.ref (He.ga K "Web")) = some true)]
def andL : List Bool → Bool
  | [] => true
  | b :: r => b && andL r
theorem andL_at : ∀ {l : List Bool}, andL l = true → ∀ (i : Nat), i < l.length → l[i]? = some true
  | b :: r, h, 0, _ => congrArg some (He.ba h).1
  | b :: r, h, i + 1, hi => andL_at (l := r) (He.ba h).2 i (Nat.lt_of_succ_lt_succ hi)
def exB (K : PySem.W.Frag) : Bool := andL (exL K)
abbrev RR : PySem.W.OpenRow := PySem.W.OpenLaw.row PySem.Challenge.rw_hearunlike_k28_whole_plans_behind_one_an
/-- the part of the heap that is looked at -/
def frY (g : Addr → Option Obj) : PySem.W.Frag := He.frG g (sysModules :: cStatics :: He.asD g 6)
def obY (g : Addr → Option Obj) : He.AlD × Bool := (He.obsD fas dfs (frY g), exB (frY g))
/-- what is told of it -/
structure Says (K : PySem.W.Frag) (h : Heap) : Prop where
  inn : K.In h
  dd : He.SaysD fas dfs K
  ex : exB K = true
def hkX : PySem.W.Hook where
  α := He.AlD × Bool
  obs := fun s => obY s.heap.get?
  val := fun _ => (He.valD dfs, true)
  says := fun _ h => ∃ K : PySem.W.Frag, Says K h
  of := fun _ _ e => ⟨_, He.frG_in, congrArg (fun z : He.AlD × Bool => z.1) e, congrArg (fun z : He.AlD × Bool => z.2) e⟩
  keeps := fun _ _ _ ⟨K, c⟩ k => ⟨K, PySem.W.Frag.In.keeps c.inn k, c.dd, c.ex⟩
def obX (s : PySem.W.SharedT) : He.AlD × Bool := obY (HandSHeadRun.getT s)
theorem obX_eq (s : PySem.W.SharedT) : obX s = hkX.obs s.abs := by
  show obY (HandSHeadRun.getT s) = obY s.abs.heap.get?
  rw [show HandSHeadRun.getT s = s.abs.heap.get? from funext (HandSHeadRun.getT_eq s)]
def loose0 : List Str := ["WatchError", "InvalidNumber", "InvalidList", "InvalidItem", "InvalidWeb", "InvalidSpot", "InvalidPlan", "InvalidNeeds", "InvalidHeard", "MOST_PLACES", "is_whole", "is_between", "is_spot", "check_places", "check_count", "check_spot", "check_ring"]
def loose1 : List Str := ["FARTHEST", "Web", "is_item", "check_items", "check_web", "is_plan", "hearers", "fault", "is_good", "where", "is_piece", "are_pieces", "ascends", "is_needs", "is_watcher", "is_heard", "check_plan"]
def loose2 : List Str := ["check_needs", "check_heard", "watchers", "spots", "hearing", "near_pieces", "near_pairs", "first_fault", "_law_cell", "_law_hash", "_law_generator", "_law_random", "_law_web_parts", "_law_heard", "_law_watchers", "_law_hearers", "_law_unlike"]
def loose3 : List Str := ["_law_due_fault", "_law_needs", "_law_good_plan", "_law_straddles", "_law_hearers_right", "_law_ring_right", "_law_right"]
def loose : List Str := loose0 ++ (loose1 ++ (loose2 ++ (loose3)))
theorem runF (w : World) : HandSHeadRun.RunEq RR (PySem.W.view RR.prog [63]) hkX obX 14000 loose (w.withFollow "special-get-raises" false) := by
  intro os
  kernel_rfl
theorem runT (w : World) : HandSHeadRun.RunEq RR (PySem.W.view RR.prog [63]) hkX obX 14000 loose (w.withFollow "special-get-raises" true) := by
  intro os
  kernel_rfl
theorem runX (w : World) : HandSHeadRun.RunEq RR (PySem.W.view RR.prog [63]) hkX obX 14000 loose w :=
  PySem.W.byRow2 "special-get-raises" (P := fun w => HandSHeadRun.RunEq RR (PySem.W.view RR.prog [63]) hkX obX 14000 loose w) runF runT w
end Kx
/-! web_parts -/
namespace Kx
open PySem PySem.Spec PyProof.Rows L2 Xa Xb Xc Xd
abbrev sParts : Stmt := top 51
/-! ### the mathematics: lists of tuples (i, j, d) -/
/-- one tuple of a web with so many places -/
def Lnk (pl : Int) (l : List Int) : Prop := ∃ i j d : Int, l = [i, j, d] ∧ 0 ≤ i ∧ i < pl ∧ 0 ≤ j ∧ j < pl ∧ pl - 3 ≤ d ∧ d ≤ 3 - pl
def lkey : List Int → Int
  | [i, j, d] => d * 4 + i * 2 + j
  | _ => 0
/-- a web's tuples as they are drawn -/
structure Lnks (pl : Int) (ls : List (List Int)) : Prop where
  one : ∀ l ∈ ls, Lnk pl l
  nd : ls.Nodup
  few : ls.length ≤ 20
/-- the tuples stand at ps -/
def TupsAt (H : Hp) (ps : List (Addr × List Int)) : Prop := ∀ p ∈ ps, H p.1 = some (.tup (p.2.map V.int))
structure Drawn (pl k : Int) (m : Nat) (ps : List (Addr × List Int)) : Prop where
  one : ∀ p ∈ ps, Lnk pl p.2
  below : ∀ p ∈ ps, lkey p.2 < k
  rise : (ps.map fun p => lkey p.2).Pairwise (· < ·)
  few : ps.length ≤ m
theorem Drawn.more {pl k : Int} {m : Nat} {ps : List (Addr × List Int)} (D : Drawn pl k m ps) {t : Addr} {l : List Int} (hl : Lnk pl l) (hk : lkey l = k) : Drawn pl (k + 1) (m + 1) (ps ++ [(t, l)]) := by
  refine ⟨fun p hp => ?_, fun p hp => ?_, ?_, ?_⟩
  · rcases List.mem_append.mp hp with h | h
    · exact D.one p h
    · rw [List.mem_singleton.mp h]
      exact hl
  · rcases List.mem_append.mp hp with h | h
    · have := D.below p h
      omega
    · rw [List.mem_singleton.mp h]
      show lkey l < k + 1
      omega
  · rw [List.map_append, List.pairwise_append]
    refine ⟨D.rise, List.pairwise_singleton _ _, fun x hx y hy => ?_⟩
    obtain ⟨p, hp, rfl⟩ := List.mem_map.mp hx
    have e : y = lkey l := by simpa using hy
    rw [e, hk]
    exact D.below p hp
  · rw [List.length_append]
    have := D.few
    show ps.length + 1 ≤ m + 1
    omega
theorem Drawn.up {pl k k' : Int} {m m' : Nat} {ps : List (Addr × List Int)} (D : Drawn pl k m ps) (h : k ≤ k') (hm : m ≤ m') : Drawn pl k' m' ps :=
  ⟨D.one, fun p hp => Int.lt_of_lt_of_le (D.below p hp) h, D.rise, Nat.le_trans D.few hm⟩
theorem Drawn.lnks {pl k : Int} {m : Nat} {ps : List (Addr × List Int)} (D : Drawn pl k m ps) (hm : m ≤ 20) : Lnks pl (ps.map (·.2)) := by
  refine ⟨fun l hl => ?_, ?_, by rw [List.length_map]; exact Nat.le_trans D.few hm⟩
  · obtain ⟨p, hp, rfl⟩ := List.mem_map.mp hl
    exact D.one p hp
  · have h := D.rise
    rw [show (ps.map fun p => lkey p.2) = (ps.map (·.2)).map lkey from by rw [List.map_map] <;> rfl] at h
    exact (List.Pairwise.of_map lkey (fun a b (h : lkey a < lkey b) e => by rw [e] at h; exact Int.lt_irrefl _ h) h)
/-- all that was tracked stands, but at g -/
def But (g : Addr) (H H' : Hp) : Prop := ∀ c o, H c = some o → c ≠ g → H' c = some o
section
variable {P : Program} {w : World} {K : PySem.W.Frag} {mg : Str → Option Value} {base : Heap} {f : Addr} {fd : FuncData}
def spParts : Sp := fun xs H Q _ => ∃ (g : Addr) (n : Nat), xs = [.ref g] ∧ Gen H g n ∧ n ≤ 2 ^ 39 ∧ ∀ (pl : Int) (ps : List (Addr × List Int)) (t a : Addr) (H' : Hp), 1 ≤ pl → pl ≤ 2 → Lnks pl (ps.map (·.2)) → But g H H' → Gen H' g (n + 200) →
  H t = none → H a = none → t ≠ a → H' t = some (.tup [.int pl, .ref a]) → H' a = some (.lst (ps.map fun p => V.ref p.1)) → TupsAt H' ps → (∀ p ∈ ps, H p.1 = none) → Q (.ref t) H'
theorem scParts : FnScope ["generator", "places", "far", "found", "few", "distance", "one", "other"] ["generator"] (defScope sParts) := ⟨rfl, rfl, rfl, by decide +kernel, rfl, by decide +kernel, by decide +kernel⟩
/-- between the turns -/
def Mid (H : Hp) (g a : Addr) (pl : Int) (n : Nat) (k : Int) (m : Nat) (H' : Hp) : Prop := ∃ ps, Gen H' g n ∧ H' a = some (.lst (ps.map fun p => V.ref p.1)) ∧ TupsAt H' ps ∧ Drawn pl k m ps ∧ But g H H' ∧ ∀ p ∈ ps, H p.1 = none
theorem Mid.up {H : Hp} {g a : Addr} {pl k k' : Int} {n n' m m' : Nat} {H' : Hp} (M : Mid H g a pl n k m H') (hn : n ≤ n') (hk : k ≤ k') (hm : m ≤ m') : Mid H g a pl n' k' m' H' := by
  obtain ⟨ps, ⟨g0, g1, g2, h1, h2, h3, h4, h5, h6, h7⟩, la, ta, D, b, nw⟩ := M
  exact ⟨ps, ⟨g0, g1, g2, h1, h2, h3, h4, h5, h6, by omega⟩, la, ta, D.up hk hm, b, nw⟩
theorem ok_parts {fR : Addr} {fdR fdC : FuncData} {fC : Addr} (F : FnP K "_law_web_parts" sParts f fd) (B : Bi mg) (FR : FnP K "_law_random" sRandom fR fdR) (gR : mg "_law_random" = some (.ref fR)) (FC : FnP K "_law_hash" sHash fC fdC) (gC : mg "_law_hash" = some (.ref fC)) :
    FnG P w K mg base 3 f fd ["generator"] spParts := by
  have GR : FnG P w K mg base 2 fR fdR ["generator", "bound"] spRandom := ok_random FR B FC gC
  have bR : Binds K fdR ["generator", "bound"] [] := FR.bindsN fun _ _ _ _ _ _ us hl => match us, hl with | [_, _], _ => rfl
  refine okG F scParts (fun xs H Q E h => ?_) (fun cdv A outer s H vs Q E hr hn h => ?_)
  · obtain ⟨g, n, rfl, _⟩ := h
    rfl
  · obtain ⟨g, n, rfl, hG, hn1, q⟩ := h
    refine ⟨_, pss_cons (ps_set (i := 1) scParts.nd rfl (Or.inl rfl) (pe_op op_add pe_int (pe_callG GR hr hn rfl gR FR.kp bR (pa_cons (pv 0) (pa1 pe_int)))))
      (pss_cons (ps_par (i := 2) (j := 3) (by rfl) scParts.nd rfl rfl (by decide) rfl rfl (pa_cons (pe_op op_sub pe_int (pv 1)) (pa1 (pe_lst pa_nil))) (by rfl))
      (pss_cons (ps_set (i := 4) scParts.nd rfl (Or.inl rfl) (pe_op op_add pe_int (pe_callG GR hr hn rfl gR FR.kp bR (pa_cons (pv 0) (pa1 pe_int)))))
      (pss_cons (ps_for PassesOwn.never rfl (pi_range2 (by rfl) B.range (pa_cons (pe_op op_sub pe_int (pv 2)) (pa1 (pe_op op_add (pv 2) pe_int)))) (pg_name (i := 5) scParts.nd rfl (Or.inl rfl))
        (pss_one (ps_for PassesOwn.never rfl (pi_range1 (by rfl) B.range (pa1 (pv 1))) (pg_name (i := 6) scParts.nd rfl (Or.inl rfl))
          (pss_one (ps_for PassesOwn.never rfl (pi_range1 (by rfl) B.range (pa1 (pv 1))) (pg_name (i := 7) scParts.nd rfl (Or.inl rfl))
            (pss_one (ps_if (pt_cmpR op_gt (pe_callG GR hr hn rfl gR FR.kp bR (pa_cons (pv 0) (pa1 (pv 4)))) pe_int (nomark _))
              (pss_one (ps_expr (pe_bm PySem.F.plainAttrs_list PySem.F.slot_list_append PySem.F.type_list_append mt_append (pv 3) (pa1 (pe_tup (pa_cons (pv 6) (pa_cons (pv 7) (pa1 (pv 5)))))))))
              pss_nil)))))))
      (pss_one (ps_ret (pe_tup (pa_cons (pv 1) (pa1 (pv 3))))))))), ?_⟩
    refine ⟨_, rfl, g, 2, n, rfl, by decide, by decide, hG, by omega, fun r H1 r0 r1 G1 k1 => ?_⟩
    refine ⟨_, _, rfl, rfl, _, rfl, _, _, rfl, rfl, by decide, fun a na => ?_⟩
    refine ⟨_, _, rfl, ?_⟩
    have aG : a ≠ g := fun e => by
      obtain ⟨_, _, _, z, _⟩ := G1
      rw [e, z] at na
      cases na
    have Gup : ∀ {X : Hp} {m : Nat} {b : Addr} {o : HO}, Gen X g m → b ≠ g → Gen (upd X b o) g m := fun ⟨g0, g1, g2, z, r⟩ hb => ⟨g0, g1, g2, by rw [upd_ne (Ne.symm hb)]; exact z, r⟩
    refine ⟨_, rfl, g, 3, n + 4, rfl, by decide, by decide, Gup G1 aG, by omega, fun r2 H3 r20 r21 G3 k3 => ?_⟩
    refine ⟨_, _, rfl, rfl, ?_⟩
    have p1 : (1 : Int) ≤ 1 + r := by omega
    have p2 : 1 + r ≤ 2 := by omega
    have hnone : H a = none := by rw [← k1 a aG]; exact na
    have nz : ∀ t : Addr, ∀ {X : Hp}, But g H X → X t = none → H t = none ∨ t = g := fun t X b z => by
      by_cases ht : t = g
      · exact .inr ht
      · refine .inl ?_
        cases e : H t with
        | none => rfl
        | some o =>
          rw [b t o e ht] at z
          cases z
    refine ⟨_, rfl, _, _, rfl, rfl, _, rfl, _, _, rfl, rfl, _, _, rfl, ⟨by omega, by omega, by omega, by omega⟩, ?_⟩
    refine for_range (fun i σ H' => ∃ dv ov tv : Option V, σ = [some (.ref g), some (.int (1 + r)), some (.int (3 - (1 + r))), some (.ref a), some (.int (2 + r2)), dv, ov, tv] ∧ Mid H g a (1 + r) (n + 8 + 16 * i) ((0 - (3 - (1 + r)) + i) * 4) (4 * i) H')
      ⟨none, none, none, rfl, [], G3, ?_, fun p hp => (by cases hp), ⟨fun p hp => (by cases hp), fun p hp => (by cases hp), List.Pairwise.nil, Nat.zero_le _⟩, ?_, fun p hp => (by cases hp)⟩ ?_ ?_
    · rw [k3 a aG, upd_same]
      rfl
    · intro c o e hc
      rw [k3 c hc, upd_ne (ne_of_none (by rw [k1 c hc]; exact e) na), k1 c hc]
      exact e
    · rintro i σ H' hi ⟨dv, ov, tv, rfl, M⟩
      have hi5 : i < 5 := by omega
      refine ⟨_, rfl, _, rfl, by omega, by omega, for_range (lo := 0) (fun j σ H' => ∃ ov tv : Option V, σ = [some (.ref g), some (.int (1 + r)), some (.int (3 - (1 + r))), some (.ref a), some (.int (2 + r2)), some (.int (0 - (3 - (1 + r)) + i)), ov, tv] ∧ Mid H g a (1 + r) (n + 8 + 16 * i + 8 * j) ((0 - (3 - (1 + r)) + i) * 4 + 2 * j) (4 * i + 2 * j) H')
        ⟨ov, tv, rfl, by simpa using M⟩ ?_ ?_⟩
      · rintro j σ H' hj ⟨ov, tv, rfl, M⟩
        refine ⟨_, rfl, _, rfl, by omega, by omega, for_range (lo := 0) (fun k σ H' => ∃ tv : Option V, σ = [some (.ref g), some (.int (1 + r)), some (.int (3 - (1 + r))), some (.ref a), some (.int (2 + r2)), some (.int (0 - (3 - (1 + r)) + i)), some (.int (0 + j)), tv] ∧ Mid H g a (1 + r) (n + 8 + 16 * i + 8 * j + 4 * k) ((0 - (3 - (1 + r)) + i) * 4 + 2 * j + k) (4 * i + 2 * j + k) H')
          ⟨tv, rfl, by simpa using M⟩ ?_ ?_⟩
        · rintro k σ H' hk ⟨tv, rfl, ps, G, la, ta, D, b, nw⟩
          refine ⟨_, rfl, _, rfl, g, (2 + r2), _, rfl, by omega, by omega, G, by omega, fun rr H4 rr0 rr1 G4 k4 => ?_⟩
          have la4 : H4 a = some (.lst (ps.map fun p => V.ref p.1)) := by rw [k4 a aG]; exact la
          have ng : ∀ p ∈ ps, p.1 ≠ g := fun p hp e => by
            obtain ⟨_, _, _, z, _⟩ := G
            have y := ta p hp
            rw [e, z] at y
            cases y
          have ta4 : TupsAt H4 ps := fun p hp => by rw [k4 p.1 (ng p hp)]; exact ta p hp
          have b4 : But g H H4 := fun c o e hc => by rw [k4 c hc]; exact b c o e hc
          refine ⟨_, _, rfl, rfl, _, rfl, ite2 (fun c => ?_) (fun c => ?_)⟩
          · refine ⟨_, rfl, .inl ⟨rfl, _, SqL.of la4⟩, _, rfl, _, rfl, _, rfl, (by show 3 ≤ sizeLine; decide), fun t nt => ?_⟩
            have tg : t ≠ g := fun e => by
              obtain ⟨_, _, _, z, _⟩ := G4
              rw [e, z] at nt
              cases nt
            have tA : a ≠ t := ne_of_none la4 nt
            refine ⟨a, _, _, rfl, rfl, by rw [upd_ne tA]; exact la4, ?_, ?_⟩
            · rw [List.length_map]
              exact small1000 (by have := D.few; omega)
            · refine ⟨some (.int (0 + k)), rfl, ps ++ [(t, [(0 + j : Int), 0 + k, 0 - (3 - (1 + r)) + i])], ?_, ?_, ?_, ?_, ?_, ?_⟩
              · exact Gup (Gup (by simpa [Nat.add_assoc, Nat.mul_add] using G4) tg) aG
              · rw [upd_same, List.map_append]
                rfl
              · intro p hp
                rcases List.mem_append.mp hp with hp | hp
                · have y := ta4 p hp
                  rw [upd_ne (fun e => by rw [e, la4] at y; cases y), upd_ne (ne_of_none y nt)]
                  exact y
                · rw [List.mem_singleton.mp hp]
                  show (upd (upd H4 t _) a _) t = _
                  rw [upd_ne (Ne.symm tA), upd_same]
                  rfl
              · refine (D.more (t := t) ⟨0 + j, 0 + k, 0 - (3 - (1 + r)) + i, rfl, by omega, by omega, by omega, by omega, by omega, by omega⟩ ?_).up (by omega) (by omega)
                show (0 - (3 - (1 + r)) + i) * 4 + (0 + (j : Int)) * 2 + (0 + k) = _
                omega
              · intro c o e hc
                rw [upd_ne (ne_of_none e hnone), upd_ne (ne_of_none (b4 c o e hc) nt)]
                exact b4 c o e hc
              · intro p hp
                rcases List.mem_append.mp hp with hp | hp
                · exact nw p hp
                · rw [List.mem_singleton.mp hp]
                  exact (nz t b4 nt).resolve_right tg
          · exact ⟨some (.int (0 + k)), rfl, Mid.up ⟨ps, G4, la4, ta4, D, b4, nw⟩ (by omega) (by omega) (by omega)⟩
        · rintro σ H' ⟨tv, rfl, M⟩
          exact ⟨_, tv, rfl, M.up (by omega) (by omega) (by omega)⟩
      · rintro σ H' ⟨ov, tv, rfl, M⟩
        exact ⟨_, ov, tv, rfl, M.up (by omega) (by omega) (by omega)⟩
    · rintro σ H' ⟨dv, ov, tv, rfl, ps, G, la, ta, D, b, nw⟩
      refine ⟨_, rfl, _, rfl, (by show 2 ≤ sizeLine; decide), fun t nt => ?_⟩
      have tA : a ≠ t := ne_of_none la nt
      have tg : t ≠ g := fun e => by
        obtain ⟨_, _, _, z, _⟩ := G
        rw [e, z] at nt
        cases nt
      refine q (1 + r) ps t a _ p1 p2 (D.lnks (by omega)) (fun c o e hc => ?_) (Gup ?_ tg) ((nz t b nt).resolve_right tg) hnone (Ne.symm tA) upd_same ?_ (fun p hp => ?_) nw
      · rw [upd_ne (ne_of_none (b c o e hc) nt)]
        exact b c o e hc
      · obtain ⟨g0, g1, g2, h1, h2, h3, h4, h5, h6, h7⟩ := G
        exact ⟨g0, g1, g2, h1, h2, h3, h4, h5, h6, by omega⟩
      · rw [upd_ne tA]
        exact la
      · rw [upd_ne (ne_of_none (ta p hp) nt)]
        exact ta p hp
end
end Kx
/-! The program's checks. -/
namespace Kx
open PySem PySem.Spec PyProof.Rows L2 Xa Xb Xc Xd Xs Xp
abbrev sWhole : Stmt := top 12
abbrev sBetween : Stmt := top 13
abbrev sIsSpot : Stmt := top 14
abbrev sCkCount : Stmt := top 16
abbrev sCkSpot : Stmt := top 17
abbrev sCkRing : Stmt := top 18
structure Bi2 (mg : Str → Option Value) : Prop extends Bi mg where
  isi : mg "isinstance" = none
  bool : mg "bool" = none
  tuple : mg "tuple" = none
  list : mg "list" = none
  set : mg "set" = none
  sorted : mg "sorted" = none
  abs : mg "abs" = none
  repr : mg "repr" = none
/-- how a def of the text stands -/
structure Dfn (K : PySem.W.Frag) (mg : Str → Option Value) (x : Str) (st : Stmt) : Prop where
  at_ : ∃ (f : Addr) (fd : FuncData), FnP K x st f fd ∧ mg x = some (.ref f)
section
variable {P : Program} {w : World} {K : PySem.W.Frag} {mg : Str → Option Value} {base : Heap} {f : Addr} {fd : FuncData}
def spWhole (K : PySem.W.Frag) : Sp := fun xs H Q _ => ∃ v b, xs = [v] ∧ Whl K H v b ∧ Q (.bl b) H
theorem scWhole : FnScope ["value"] ["value"] (defScope sWhole) := ⟨rfl, rfl, rfl, by decide +kernel, rfl, by decide +kernel, by decide +kernel⟩
theorem can_whole (D : Dfn K mg "is_whole" sWhole) (B : Bi2 mg) : Can P w K mg base CX0 1 "is_whole" ["value"] (spWhole K) := by
  obtain ⟨f, fd, F, g⟩ := D.at_
  refine FnOk.can (F.ok scWhole (fun xs H Q E h => ?_) (fun cdv A outer s H vs Q E hr h => ?_)) F g fun _ _ _ _ _ _ us hl => match us, hl with | [_], _ => rfl
  · obtain ⟨v, b, rfl, _⟩ := h
    rfl
  · obtain ⟨v, b, rfl, ⟨T, b1, b2, kd, e1, e2, rfl⟩, q⟩ := h
    refine ⟨_, PSs.nox (pss_one (ps_ret (pe_and (pe_bi call_kd B.isi (pa_cons (pv 0) (pa1 (pe_tyv "int" B.int)))) (pe_one (pe_not (pe_bi call_kd B.isi (pa_cons (pv 0) (pa1 (pe_tyv "bool" B.bool))))))))), ?_⟩
    refine ⟨_, rfl, v, "int", b1, rfl, ⟨T, kd, e1⟩, b1, rfl, ?_⟩
    cases b1 with
    | true => exact iteT ⟨_, rfl, v, "bool", b2, rfl, ⟨T, kd, e2⟩, b2, rfl, q⟩
    | false => exact iteF q
def spBetween (K : PySem.W.Frag) : Sp := fun xs H Q _ => ∃ v o lo hi, xs = [v, .int lo, .int hi] ∧ Num K H v o ∧ Q (.bl (inR o lo hi)) H
theorem scBetween : FnScope ["value", "low", "high"] ["value", "low", "high"] (defScope sBetween) := ⟨rfl, rfl, rfl, by decide +kernel, rfl, by decide +kernel, by decide +kernel⟩
theorem can_between (D : Dfn K mg "is_between" sBetween) (cW : Can P w K mg base CX0 1 "is_whole" ["value"] (spWhole K)) : Can P w K mg base CX0 2 "is_between" ["value", "low", "high"] (spBetween K) := by
  obtain ⟨f, fd, F, g⟩ := D.at_
  refine FnOk.can (F.ok scBetween (fun xs H Q E h => ?_) (fun cdv A outer s H vs Q E hr h => ?_)) F g fun _ _ _ _ _ _ us hl => match us, hl with | [_, _, _], _ => rfl
  · obtain ⟨v, o, lo, hi, rfl, _⟩ := h
    rfl
  · obtain ⟨v, o, lo, hi, rfl, N, q⟩ := h
    refine ⟨_, PSs.nox (pss_one (ps_ret (pe_and (pe_can cW hr pass0 (pa1 (pv 0))) (pe_one (pe_chain op_le op_le (pv 1) (pv 0) (pv 2)))))), ?_⟩
    refine ⟨_, rfl, v, o.isSome, rfl, N.whl, _, rfl, ?_⟩
    cases N with
    | is i =>
      refine iteT ⟨_, rfl, _, rfl, lo, i, rfl, rfl, _, rfl, ?_⟩
      by_cases c : lo ≤ i
      · rw [decide_eq_true c]
        refine iteT ⟨_, rfl, i, hi, rfl, rfl, ?_⟩
        have e : inR (some i) lo hi = decide (i ≤ hi) := by
          show (decide (lo ≤ i) && decide (i ≤ hi)) = _
          rw [decide_eq_true c, Bool.true_and]
        rw [e] at q
        exact q
      · rw [decide_eq_false c]
        refine iteF ?_
        have e : inR (some i) lo hi = false := by
          show (decide (lo ≤ i) && decide (i ≤ hi)) = _
          rw [decide_eq_false c, Bool.false_and]
        rw [e] at q
        exact q
    | no h => exact iteF q
/-! ### spots -/
/-- whether v is a spot -/
inductive Spot (K : PySem.W.Frag) (H : Hp) (n pl : Int) : V → Bool → Prop
  | kind {v : V} (h : IsK K H v "tuple" false) : Spot K H n pl v false
  | size {t : Addr} {xs : List V} (h : H t = some (.tup xs)) (hn : xs.length ≠ 2) : Spot K H n pl (.ref t) false
  | two {t : Addr} {x y : V} {ox oy : Option Int} (h : H t = some (.tup [x, y])) (hx : Num K H x ox) (hy : Num K H y oy) : Spot K H n pl (.ref t) (inR ox 0 (n - 1) && inR oy 0 (pl - 1))
def spIsSpot (K : PySem.W.Frag) : Sp := fun xs H Q _ => ∃ v n pl b, xs = [v, .int n, .int pl] ∧ Spot K H n pl v b ∧ Q (.bl b) H
theorem scIsSpot : FnScope ["value", "n", "places"] ["value", "n", "places"] (defScope sIsSpot) := ⟨rfl, rfl, rfl, by decide +kernel, rfl, by decide +kernel, by decide +kernel⟩
theorem can_isspot (D : Dfn K mg "is_spot" sIsSpot) (B : Bi2 mg) (cB : Can P w K mg base CX0 2 "is_between" ["value", "low", "high"] (spBetween K)) : Can P w K mg base CX0 3 "is_spot" ["value", "n", "places"] (spIsSpot K) := by
  obtain ⟨f, fd, F, g⟩ := D.at_
  refine FnOk.can (F.ok scIsSpot (fun xs H Q E h => ?_) (fun cdv A outer s H vs Q E hr h => ?_)) F g fun _ _ _ _ _ _ us hl => match us, hl with | [_, _, _], _ => rfl
  · obtain ⟨v, n, pl, b, rfl, _⟩ := h
    rfl
  · obtain ⟨v, n, pl, b, rfl, S, q⟩ := h
    refine ⟨_, PSs.nox (pss_cons (ps_if (PW.pt (pw_or (pt_not (pt_val (pe_bi call_kd B.isi (pa_cons (pv 0) (pa1 (pe_tyv "tuple" B.tuple)))))) (pw_or1 (pt_cmpR op_ne (pe_bi call_len_seq B.len (pa1 (pv 0))) pe_int (nomark _))))) (pss_one (ps_ret pe_bl)) pss_nil)
      (pss_one (ps_ret (pe_and (pe_can cB hr pass0 (pa_cons (pe_ix ix_tup (pv 0) pe_int (fun _ _ => rfl)) (pa_cons pe_int (pa1 (pe_op op_sub (pv 1) pe_int)))))
        (pe_one (pe_can cB hr pass0 (pa_cons (pe_ix ix_tup (pv 0) pe_int (fun _ _ => rfl)) (pa_cons pe_int (pa1 (pe_op op_sub (pv 2) pe_int)))))))))), ?_⟩
    cases S with
    | kind h => exact ⟨_, rfl, v, "tuple", false, rfl, h, false, rfl, iteT (iteT q)⟩
    | @size t xs h hn =>
      refine ⟨_, rfl, _, "tuple", true, rfl, isk_tup h _ (by decide +kernel), true, rfl, iteF ⟨_, rfl, t, xs, rfl, .inr (SqT.of h), rfl, _, rfl, ?_⟩⟩
      have e : decide (V.int (xs.length : Int) = V.int 2) = false := decide_eq_false fun z => hn (by injection z with z; omega)
      show if (!decide (V.int (xs.length : Int) = V.int 2)) = true then _ else _
      rw [e]
      exact iteT q
    | @two t x y ox oy h hx hy =>
      refine ⟨_, rfl, _, "tuple", true, rfl, isk_tup h _ (by decide +kernel), true, rfl, iteF ⟨_, rfl, t, _, rfl, .inr (SqT.of h), rfl, _, rfl, iteF ?_⟩⟩
      refine ⟨_, rfl, t, _, 0, x, rfl, rfl, SqT.of h, atI_nat (j := 0) rfl, _, rfl, n, 1, rfl, rfl, x, ox, 0, n - 1, rfl, hx, _, rfl, ?_⟩
      cases e : inR ox 0 (n - 1) with
      | false =>
        rw [e] at q
        exact iteF q
      | true =>
        rw [e] at q
        exact iteT ⟨_, rfl, t, _, 1, y, rfl, rfl, SqT.of h, atI_nat (j := 1) rfl, _, rfl, pl, 1, rfl, rfl, y, oy, 0, pl - 1, rfl, hy, q⟩
end
end Kx
/-! The program's checks that raise; items of webs. -/
namespace Kx
open PySem PySem.Spec PyProof.Rows L2 Xa Xb Xc Xd Xs Xp
abbrev sIsItem : Stmt := top 22
abbrev sItems : Stmt := top 23
/-- refused: an error of the class at C is raised with the value v -/
def Ref (E : XK) (H : Hp) (C : Addr) (v : V) : Prop := ∀ d, H d = none → E (.ref C) (some d) (upd H d (.xd [("value", v)]))
abbrev sCkPlaces : Stmt := top 15
section
variable {P : Program} {w : World} {K : PySem.W.Frag} {mg : Str → Option Value} {base : Heap} {f : Addr} {fd : FuncData} {CN CS : Addr}
def okNum (o : Option Int) : Bool := match o with
  | some i => decide (1 ≤ i)
  | none => false
def spCkCount (K : PySem.W.Frag) (CN : Addr) : Sp := fun xs H Q E => ∃ v o, xs = [v] ∧ Num K H v o ∧ (okNum o = true → Q .non H) ∧ (okNum o = false → Ref E H CN v)
theorem scCkCount : FnScope ["n"] ["n"] (defScope sCkCount) := ⟨rfl, rfl, rfl, by decide +kernel, rfl, by decide +kernel, by decide +kernel⟩
theorem can_ckcount (D : Dfn K mg "check_count" sCkCount) (M : XMake P w K mg base "InvalidNumber" CN "value") (cW : Can P w K mg base CX0 1 "is_whole" ["value"] (spWhole K)) : Can P w K mg base (L2.CX P w) 4 "check_count" ["n"] (spCkCount K CN) := by
  obtain ⟨f, fd, F, g⟩ := D.at_
  refine FnOk.can (F.ok scCkCount (fun xs H Q E h => ?_) (fun cdv A outer s H vs Q E hr h => ?_)) F g fun _ _ _ _ _ _ us hl => match us, hl with | [_], _ => rfl
  · obtain ⟨v, o, rfl, _⟩ := h
    rfl
  · obtain ⟨v, o, rfl, N, yes, no⟩ := h
    refine ⟨_, pss_one (ps_if (PW.pt (pw_or (pt_not (pt_val (pe_can cW (hr.mono (by decide)) pass0 (pa1 (pv 0))))) (pw_or1 (pt_cmpR op_lt (pv 0) pe_int (nomark _))))) (pss_one (ps_rz rfl M (hr.mono (by decide)) (takes_of rfl rfl rfl rfl) (by rfl) (pv 0))) pss_nil), ?_⟩
    refine ⟨_, rfl, v, o.isSome, rfl, N.whl, _, rfl, ?_⟩
    cases N with
    | is i =>
      refine iteF ⟨_, rfl, i, 1, rfl, rfl, _, rfl, ite2 (fun c => ?_) (fun c => ?_)⟩
      · have c2 : i < 1 := of_decide_eq_true c
        exact ⟨_, rfl, no (decide_eq_false (by omega))⟩
      · exact yes (decide_eq_true (by have : ¬ i < 1 := fun z => c (decide_eq_true z); omega))
    | no h => exact iteT (iteT ⟨_, rfl, no rfl⟩)
def spCkSpot (K : PySem.W.Frag) (CS : Addr) : Sp := fun xs H Q E => ∃ v n pl b, xs = [v, .int n, .int pl] ∧ Spot K H n pl v b ∧ (b = true → Q .non H) ∧ (b = false → Ref E H CS v)
theorem scCkSpot : FnScope ["spot", "n", "places"] ["spot", "n", "places"] (defScope sCkSpot) := ⟨rfl, rfl, rfl, by decide +kernel, rfl, by decide +kernel, by decide +kernel⟩
theorem can_ckspot (D : Dfn K mg "check_spot" sCkSpot) (M : XMake P w K mg base "InvalidSpot" CS "value") (cS : Can P w K mg base CX0 3 "is_spot" ["value", "n", "places"] (spIsSpot K)) : Can P w K mg base (L2.CX P w) 4 "check_spot" ["spot", "n", "places"] (spCkSpot K CS) := by
  obtain ⟨f, fd, F, g⟩ := D.at_
  refine FnOk.can (F.ok scCkSpot (fun xs H Q E h => ?_) (fun cdv A outer s H vs Q E hr h => ?_)) F g fun _ _ _ _ _ _ us hl => match us, hl with | [_, _, _], _ => rfl
  · obtain ⟨v, n, pl, b, rfl, _⟩ := h
    rfl
  · obtain ⟨v, n, pl, b, rfl, S, yes, no⟩ := h
    refine ⟨_, pss_one (ps_if (pt_not (pt_val (pe_can cS hr pass0 (pa_cons (pv 0) (pa_cons (pv 1) (pa1 (pv 2))))))) (pss_one (ps_rz rfl M (hr.mono (by decide)) (takes_of rfl rfl rfl rfl) (by rfl) (pv 0))) pss_nil), ?_⟩
    refine ⟨_, rfl, _, rfl, _, rfl, v, n, pl, b, rfl, S, b, rfl, ?_⟩
    cases b with
    | true => exact iteF (yes rfl)
    | false => exact iteT ⟨_, rfl, no rfl⟩
def spCkRing (K : PySem.W.Frag) (CN : Addr) : Sp := fun xs H Q E => ∃ v b, xs = [v] ∧ IsK K H v "bool" b ∧ (b = true → Q .non H) ∧ (b = false → Ref E H CN v)
theorem scCkRing : FnScope ["ring"] ["ring"] (defScope sCkRing) := ⟨rfl, rfl, rfl, by decide +kernel, rfl, by decide +kernel, by decide +kernel⟩
theorem can_ckring (D : Dfn K mg "check_ring" sCkRing) (B : Bi2 mg) (M : XMake P w K mg base "InvalidNumber" CN "value") : Can P w K mg base (L2.CX P w) 4 "check_ring" ["ring"] (spCkRing K CN) := by
  obtain ⟨f, fd, F, g⟩ := D.at_
  refine FnOk.can (F.ok scCkRing (fun xs H Q E h => ?_) (fun cdv A outer s H vs Q E hr h => ?_)) F g fun _ _ _ _ _ _ us hl => match us, hl with | [_], _ => rfl
  · obtain ⟨v, b, rfl, _⟩ := h
    rfl
  · obtain ⟨v, b, rfl, S, yes, no⟩ := h
    refine ⟨_, pss_one (ps_if (pt_not (pt_val (pe_bi call_kd B.isi (pa_cons (pv 0) (pa1 (pe_tyv "bool" B.bool)))))) (pss_one (ps_rz rfl M (hr.mono (by decide)) (takes_of rfl rfl rfl rfl) (by rfl) (pv 0))) pss_nil), ?_⟩
    refine ⟨_, rfl, v, "bool", b, rfl, S, b, rfl, ?_⟩
    cases b with
    | true => exact iteF (yes rfl)
    | false => exact iteT ⟨_, rfl, no rfl⟩
/-! ### items -/
/-- whether v is a tuple of a web with so many places -/
inductive Item (K : PySem.W.Frag) (H : Hp) (pl : Int) : V → Bool → Prop
  | kind {v : V} (h : IsK K H v "tuple" false) : Item K H pl v false
  | size {t : Addr} {xs : List V} (h : H t = some (.tup xs)) (hn : xs.length ≠ 3) : Item K H pl (.ref t) false
  | three {t : Addr} {x y z : V} {ox oy oz : Option Int} (h : H t = some (.tup [x, y, z])) (hx : Num K H x ox) (hy : Num K H y oy) (hz : Num K H z oz) :
      Item K H pl (.ref t) (inR ox 0 (pl - 1) && (inR oy 0 (pl - 1) && inR oz (-(3 - pl)) (3 - pl)))
def spIsItem (K : PySem.W.Frag) : Sp := fun xs H Q _ => ∃ v pl b, xs = [v, .int pl] ∧ (pl = 1 ∨ pl = 2) ∧ Item K H pl v b ∧ Q (.bl b) H
theorem scIsItem : FnScope ["value", "places", "i", "j", "d", "far"] ["value", "places"] (defScope sIsItem) := ⟨rfl, rfl, rfl, by decide +kernel, rfl, by decide +kernel, by decide +kernel⟩
theorem can_isitem (D : Dfn K mg "is_item" sIsItem) (B : Bi2 mg) (cB : Can P w K mg base CX0 2 "is_between" ["value", "low", "high"] (spBetween K)) {Fa : Addr} (gF : mg "FARTHEST" = some (.ref Fa)) (hF : farB K Fa = true) :
    Can P w K mg base CX0 3 "is_item" ["value", "places"] (spIsItem K) := by
  obtain ⟨f, fd, F, g⟩ := D.at_
  refine FnOk.can (F.ok scIsItem (fun xs H Q E h => ?_) (fun cdv A outer s H vs Q E hr h => ?_)) F g fun _ _ _ _ _ _ us hl => match us, hl with | [_, _], _ => rfl
  · obtain ⟨v, pl, b, rfl, _⟩ := h
    rfl
  · obtain ⟨v, pl, b, rfl, pp, S, q⟩ := h
    refine ⟨_, PSs.nox (pss_cons (ps_if (PW.pt (pw_or (pt_not (pt_val (pe_bi call_kd B.isi (pa_cons (pv 0) (pa1 (pe_tyv "tuple" B.tuple)))))) (pw_or1 (pt_cmpR op_ne (pe_bi call_len_seq B.len (pa1 (pv 0))) pe_int (nomark _))))) (pss_one (ps_ret pe_bl)) pss_nil)
      (pss_cons (ps_asg (pv 0) (pg_tup (by rfl) (pgs_cons (pg_name (i := 2) scIsItem.nd rfl (.inl rfl)) (pgs_cons (pg_name (i := 3) scIsItem.nd rfl (.inl rfl)) (pgs_cons (pg_name (i := 4) scIsItem.nd rfl (.inl rfl)) pgs_nil)))))
      (pss_cons (ps_set (i := 5) scIsItem.nd rfl (.inl rfl) (pe_ix ix_far (pe_glob (v := .ref Fa) (by rfl) gF rfl) (pv 1) (fun _ _ => rfl)))
      (pss_one (ps_ret (pe_and (pe_can cB hr pass0 (pa_cons (pv 2) (pa_cons pe_int (pa1 (pe_op op_sub (pv 1) pe_int)))))
        (pe_and (pe_can cB hr pass0 (pa_cons (pv 3) (pa_cons pe_int (pa1 (pe_op op_sub (pv 1) pe_int))))) (pe_one (pe_can cB hr pass0 (pa_cons (pv 4) (pa_cons (pe_un un_neg (pv 5)) (pa1 (pv 5))))))))))))), ?_⟩
    cases S with
    | kind h => exact ⟨_, rfl, v, "tuple", false, rfl, h, false, rfl, iteT (iteT q)⟩
    | @size t xs h hn =>
      refine ⟨_, rfl, _, "tuple", true, rfl, isk_tup h _ (by decide +kernel), true, rfl, iteF ⟨_, rfl, t, xs, rfl, .inr (SqT.of h), rfl, _, rfl, ?_⟩⟩
      have e : decide (V.int (xs.length : Int) = V.int 3) = false := decide_eq_false fun z => hn (by injection z with z; omega)
      show if (!decide (V.int (xs.length : Int) = V.int 3)) = true then _ else _
      rw [e]
      exact iteT q
    | @three t x y z ox oy oz h hx hy hz =>
      refine ⟨_, rfl, _, "tuple", true, rfl, isk_tup h _ (by decide +kernel), true, rfl, iteF ⟨_, rfl, t, _, rfl, .inr (SqT.of h), rfl, _, rfl, iteF ?_⟩⟩
      refine ⟨_, rfl, t, _, rfl, SqT.of h, rfl, ?_⟩
      refine ⟨x, _, rfl, y, _, rfl, z, _, rfl, rfl, ?_⟩
      rcases pp with rfl | rfl
      · refine ⟨_, rfl, Fa, rfl, hF, .inl ⟨rfl, ?_⟩⟩
        refine ⟨_, rfl, _, rfl, _, _, rfl, rfl, x, ox, 0, 1 - 1, rfl, hx, _, rfl, ?_⟩
        cases e1 : inR ox 0 (1 - 1) with
        | false =>
          rw [e1] at q
          exact iteF q
        | true =>
          rw [e1] at q
          refine iteT ⟨_, rfl, _, rfl, _, _, rfl, rfl, y, oy, 0, 1 - 1, rfl, hy, _, rfl, ?_⟩
          cases e2 : inR oy 0 (1 - 1) with
          | false =>
            rw [e2] at q
            exact iteF q
          | true =>
            rw [e2] at q
            exact iteT ⟨_, rfl, _, rfl, _, rfl, _, rfl, z, oz, -2, 2, rfl, hz, q⟩
      · refine ⟨_, rfl, Fa, rfl, hF, .inr ⟨rfl, ?_⟩⟩
        refine ⟨_, rfl, _, rfl, _, _, rfl, rfl, x, ox, 0, 2 - 1, rfl, hx, _, rfl, ?_⟩
        cases e1 : inR ox 0 (2 - 1) with
        | false =>
          rw [e1] at q
          exact iteF q
        | true =>
          rw [e1] at q
          refine iteT ⟨_, rfl, _, rfl, _, _, rfl, rfl, y, oy, 0, 2 - 1, rfl, hy, _, rfl, ?_⟩
          cases e2 : inR oy 0 (2 - 1) with
          | false =>
            rw [e2] at q
            exact iteF q
          | true =>
            rw [e2] at q
            exact iteT ⟨_, rfl, _, rfl, _, rfl, _, rfl, z, oz, -1, 1, rfl, hz, q⟩
def spCkPlaces (K : PySem.W.Frag) (CN : Addr) : Sp := fun xs H Q E => ∃ v o, xs = [v] ∧ Num K H v o ∧ (inR o 1 2 = true → Q .non H) ∧ (inR o 1 2 = false → Ref E H CN v)
theorem scCkPlaces : FnScope ["places"] ["places"] (defScope sCkPlaces) := ⟨rfl, rfl, rfl, by decide +kernel, rfl, by decide +kernel, by decide +kernel⟩
theorem can_ckplaces {CN : Addr} {tm : Tok} (D : Dfn K mg "check_places" sCkPlaces) (gM : mg "MOST_PLACES" = some (.int 2 tm)) (M : Xc.XMake P w K mg base "InvalidNumber" CN "value") (cB : Can P w K mg base CX0 2 "is_between" ["value", "low", "high"] (spBetween K)) :
    Can P w K mg base (L2.CX P w) 3 "check_places" ["places"] (spCkPlaces K CN) := by
  obtain ⟨f, fd, F, g⟩ := D.at_
  refine FnOk.can (F.ok scCkPlaces (fun xs H Q E h => ?_) (fun cdv A outer s H vs Q E hr h => ?_)) F g fun _ _ _ _ _ _ us hl => match us, hl with | [_], _ => rfl
  · obtain ⟨v, o, rfl, _⟩ := h
    rfl
  · obtain ⟨v, o, rfl, N, yes, no⟩ := h
    refine ⟨_, pss_one (ps_if (pt_not (pt_val (pe_can cB hr pass0 (pa_cons (pv 0) (pa_cons pe_int (pa1 (pe_glob (v := .int 2) (by rfl) gM ⟨_, rfl⟩))))))) (pss_one (ps_rz rfl M (hr.mono (by decide)) (takes_of rfl rfl rfl rfl) (by rfl) (pv 0))) pss_nil), ?_⟩
    refine ⟨_, rfl, v, o, 1, 2, rfl, N, _, rfl, ?_⟩
    cases e : inR o 1 2 with
    | true => exact iteF (yes e)
    | false => exact iteT ⟨_, rfl, no e⟩
end
end Kx
/-! check_items on good items; Web's __init__ and hears. -/
namespace Kx
open PySem PySem.Spec PyProof.Rows L2 Xa Xb Xc Xd Xs Xp
abbrev sWInit : Stmt := inClass (top 21) 0
abbrev sWHears : Stmt := inClass (top 21) 1
section
variable {P : Program} {w : World} {K : PySem.W.Frag} {mg : Str → Option Value} {base : Heap} {f : Addr} {fd : FuncData} {CN CS : Addr}
theorem inR_t {i lo hi : Int} (h1 : lo ≤ i) (h2 : i ≤ hi) : inR (some i) lo hi = true := by
  show (decide (lo ≤ i) && decide (i ≤ hi)) = true
  rw [decide_eq_true h1, decide_eq_true h2]
  rfl
theorem Lnk.item {H : Hp} {pl : Int} {l : List Int} {t : Addr} (h : Lnk pl l) (ht : H t = some (.tup (l.map V.int))) : Item K H pl (.ref t) true := by
  obtain ⟨i, j, d, rfl, h1, h2, h3, h4, h5, h6⟩ := h
  have r : Item K H pl (.ref t) (inR (some i) 0 (pl - 1) && (inR (some j) 0 (pl - 1) && inR (some d) (-(3 - pl)) (3 - pl))) := .three (x := .int i) (y := .int j) (z := .int d) ht (.is i) (.is j) (.is d)
  rw [inR_t h1 (by omega), inR_t h3 (by omega), inR_t (by omega) h6] at r
  exact r
/-! ### check_items -/
def spItems (K : PySem.W.Frag) : Sp := fun xs H Q _ => ∃ (pl : Int) (h : Addr) (ps : List (Addr × List Int)), xs = [.int pl, .ref h] ∧ (pl = 1 ∨ pl = 2) ∧ H h = some (.lst (ps.map fun p => V.ref p.1)) ∧ TupsAt H ps ∧ Lnks pl (ps.map (·.2)) ∧ ∀ H', Same H H' → Q .non H'
theorem scItems : FnScope ["places", "hears", "seen", "item"] ["places", "hears"] (defScope sItems) := ⟨rfl, rfl, rfl, by decide +kernel, rfl, by decide +kernel, by decide +kernel⟩
theorem can_items (D : Dfn K mg "check_items" sItems) (B : Bi2 mg) (cI : Can P w K mg base CX0 3 "is_item" ["value", "places"] (spIsItem K)) : Can P w K mg base (L2.CX P w) 4 "check_items" ["places", "hears"] (spItems K) := by
  obtain ⟨f, fd, F, g⟩ := D.at_
  refine FnOk.can (F.ok scItems (fun xs H Q E h => ?_) (fun cdv A outer s H vs Q E hr h => ?_)) F g fun _ _ _ _ _ _ us hl => match us, hl with | [_, _], _ => rfl
  · obtain ⟨pl, h, ps, rfl, _⟩ := h
    rfl
  · obtain ⟨pl, h, ps, rfl, pp, hh, ht, hl, q⟩ := h
    refine ⟨_, pss_cons (ps_set (i := 2) scItems.nd rfl (.inl rfl) (pe_callTy0 cr_setT0 (by rfl) B.set (by decide +kernel)))
      (pss_one (ps_for (passes_of rfl) rfl (pi_list (pv 1)) (pg_name (i := 3) scItems.nd rfl (.inl rfl))
        (pss_cons (ps_if (PW.pt (pw_or (pt_not (pt_val (pe_can cI hr pass0 (pa_cons (pv 3) (pa1 (pv 0)))))) (pw_or1 (pt_cmpR (op_inT hr.units) (pv 3) (pv 2) (by rfl))))) (pss_one ps_never) pss_nil)
        (pss_one (ps_expr (pe_addT hr.units (pv 2) (pv 3))))))), ?_⟩
    refine ⟨rfl, fun sA ns => ?_⟩
    refine ⟨_, rfl, h, rfl, ⟨_, SqL.of (by rw [upd_ne (ne_of_none hh ns)]; exact hh)⟩, for_list (K := K) (a := h) (xs := ps.map fun p => V.ref p.1)
      (fun i σ H' => ∃ (L : List (Addr × List Int)) (tv : Option V), σ = [some (.int pl), some (.ref h), some (.ref sA), tv] ∧ H' sA = some (SetTO P w sA L) ∧ Same H H' ∧ (∀ q ∈ L, q ∈ ps) ∧ (∀ x, x ∈ L.map (·.2) → x ∈ (ps.take i).map (·.2)) ∧ L.length ≤ i)
      ⟨[], none, rfl, upd_same, fun b o e => by rw [upd_ne (ne_of_none e ns)]; exact e, fun q hq => (by cases hq), fun x hx => (by cases hx), Nat.le_refl _⟩ (fun i σ H' _ ⟨_, _, _, _, sm, _⟩ => SqL.of (sm _ _ hh)) ?_ ?_⟩
    · rintro i y σ H' hi ⟨L, tv, rfl, hs, sm, sub, mem, len⟩
      obtain ⟨p, hp, rfl⟩ : ∃ p, ps[i]? = some p ∧ y = .ref p.1 := by
        rw [List.getElem?_map] at hi
        cases e : ps[i]? with
        | none =>
          rw [e] at hi
          cases hi
        | some p =>
          rw [e] at hi
          exact ⟨p, rfl, (Option.some.inj hi).symm⟩
      have hil : i < ps.length := (List.getElem?_eq_some_iff.mp hp).1
      have hpin := List.mem_of_getElem? hp
      have tp := sm _ _ (ht p hpin)
      have tps : ∀ q ∈ L, SqT K H' q.1 (q.2.map V.int) := fun q hq => SqT.of (sm _ _ (ht q (sub q hq)))
      have new : p.2 ∉ L.map (·.2) := fun z => by
        have y1 := mem _ z
        obtain ⟨j, hj, e⟩ := List.getElem_of_mem y1
        have hj2 : j < i := by
          rw [List.length_map, List.length_take] at hj
          omega
        have y2 : (ps.map (·.2))[j]? = some p.2 := by
          rw [← e, List.getElem_map, List.getElem_take, List.getElem?_map, List.getElem?_eq_getElem (by omega)]
          rfl
        have y3 : (ps.map (·.2))[i]? = some p.2 := by rw [List.getElem?_map, hp] <;> rfl
        have := nd_ix hl.nd y2 y3
        omega
      refine ⟨_, rfl, _, rfl, .ref p.1, pl, true, rfl, pp, (hl.one p.2 (List.mem_map.mpr ⟨p, hpin, rfl⟩)).item tp, true, rfl, iteF ?_⟩
      refine ⟨_, rfl, _, rfl, p.1, sA, p.2, L, rfl, rfl, SqT.of tp, hs, tps, _, rfl, ?_⟩
      show if (if false = true then !decide (p.2 ∈ L.map (·.2)) else decide (p.2 ∈ L.map (·.2))) = true then _ else _
      rw [if_neg Bool.false_ne_true, decide_eq_false new]
      refine iteF ⟨_, rfl, ⟨sA, L, rfl, hs, tps⟩, _, rfl, sA, p.1, p.2, L, rfl, rfl, hs, tps, SqT.of tp, ?_, fun L' _ i2 => ?_⟩
      · have := hl.few
        rw [List.length_map] at this
        omega
      · have pm := i2 new
        have tk : (ps.take (i + 1)).map (·.2) = (ps.take i).map (·.2) ++ [p.2] := by
          rw [List.take_add_one, hp, List.map_append]
          rfl
        refine ⟨L', _, rfl, upd_same, fun b o e => ?_, fun q hq => ?_, fun x hx => ?_, ?_⟩
        · rw [upd_ne (ne_of_none e ns)]
          exact sm b o e
        · rcases List.mem_cons.mp (pm.mem_iff.mp hq) with e | e
          · rw [e]
            exact hpin
          · exact sub q e
        · obtain ⟨q, hq, rfl⟩ := List.mem_map.mp hx
          rw [tk]
          rcases List.mem_cons.mp (pm.mem_iff.mp hq) with e | e
          · rw [e]
            exact List.mem_append_right _ List.mem_cons_self
          · exact List.mem_append_left _ (mem _ (List.mem_map.mpr ⟨q, e, rfl⟩))
        · rw [pm.length_eq, List.length_cons]
          omega
    · rintro σ H' ⟨L, tv, rfl, hs, sm, _⟩
      exact q H' sm
end
end Kx
/-! Web: __init__, hears. -/
namespace Kx
open PySem PySem.Spec PyProof.Rows L2 Xa Xb Xc Xd Xs Xp
theorem lc_yes {A B : Hp → Prop} {σ : L2.St} {H : Hp} (h : A H) : tYes σ H (fun b H3 => if b = true then A H3 else B H3) := by
  show if true = true then A H else B H
  rw [if_pos rfl]
  exact h
/-! ### a web -/
def wFlds (pl rc : Int) (l : Addr) : List (Str × V) := putF "_hears" (.ref l) (putF "reach" (.int rc) (putF "places" (.int pl) []))
theorem n1 : ¬ (("reach" : Str) = "places") := by decide +kernel
theorem n2 : ¬ (("_hears" : Str) = "places") := by decide +kernel
theorem n3 : ¬ (("_hears" : Str) = "reach") := by decide +kernel
theorem wf_pl (pl rc : Int) (l : Addr) : (wFlds pl rc l).lookup ("places" : Str) = some (.int pl) := by
  unfold wFlds
  rw [lookup_putF, if_neg (Ne.symm n2), lookup_putF, if_neg (Ne.symm n1), lookup_putF, if_pos rfl]
theorem wf_rc (pl rc : Int) (l : Addr) : (wFlds pl rc l).lookup ("reach" : Str) = some (.int rc) := by
  unfold wFlds
  rw [lookup_putF, if_neg (Ne.symm n3), lookup_putF, if_pos rfl]
theorem wf_he (pl rc : Int) (l : Addr) : (wFlds pl rc l).lookup ("_hears" : Str) = some (.ref l) := by
  unfold wFlds
  rw [lookup_putF, if_pos rfl]
theorem wf_no (pl rc : Int) (l : Addr) {m : Str} (h1 : ¬ m = "places") (h2 : ¬ m = "reach") (h3 : ¬ m = "_hears") : (wFlds pl rc l).lookup m = none := by
  unfold wFlds
  rw [lookup_putF, if_neg h3, lookup_putF, if_neg h2, lookup_putF, if_neg h1]
  rfl
/-- a web stands at p: its places, its reach, its tuples in order at l -/
structure WebAt (C : Addr) (H : Hp) (p : Addr) (pl rc : Int) (l : Addr) (qs : List (Addr × List Int)) : Prop where
  ob : ∃ dx, H p = some (.ins C dx (wFlds pl rc l))
  li : H l = some (.lst (qs.map fun q => V.ref q.1))
  tu : TupsAt H qs
/-- what of the class Web the text says -/
structure WTxt (K : PySem.W.Frag) (mg : Str → Option Value) (C : Addr) : Prop where
  cl : Cls K C
  nP : NoAttr K C "places"
  nR : NoAttr K C "reach"
  nH : NoAttr K C "_hears"
  gl : mg "Web" = some (.ref C)
/-- the reach of the tuples -/
def Reach (rc : Int) (ls : List (List Int)) : Prop := 1 ≤ rc ∧ (∀ l ∈ ls, ∀ i j d, l = [i, j, d] → d ≤ rc ∧ -d ≤ rc) ∧ (rc = 1 ∨ ∃ l ∈ ls, ∃ i j d, l = [i, j, d] ∧ (d = rc ∨ -d = rc))
def absd : List Int → Int
  | [_, _, d] => if d < 0 then -d else d
  | _ => 0
section
variable {P : Program} {w : World} {K : PySem.W.Frag} {mg : Str → Option Value} {base : Heap} {f C : Addr} {fd : FuncData}
/-- __init__, all being well -/
def spWInit (C : Addr) : Sp := fun xs H Q _ => ∃ (p dx h : Addr) (pl : Int) (ps : List (Addr × List Int)), xs = [.ref p, .int pl, .ref h] ∧ H p = some (.ins C dx []) ∧ (pl = 1 ∨ pl = 2) ∧ H h = some (.lst (ps.map fun q => V.ref q.1)) ∧ TupsAt H ps ∧ Lnks pl (ps.map (·.2)) ∧
  ∀ (rc : Int) (l : Addr) (H' : Hp), WebAt C H' p pl rc l (srt ps) → Reach rc (ps.map (·.2)) → (∀ c o, H c = some o → c ≠ p → H' c = some o) → H l = none → Q .non H'
theorem scWInit : FnScope ["self", "places", "hears", "item"] ["self", "places", "hears"] (defScope sWInit) := ⟨rfl, rfl, rfl, by decide +kernel, rfl, by decide +kernel, by decide +kernel⟩
theorem ok_winit (F : FunD K "__init__" "Web.__init__" (defArgs sWInit) (defBody sWInit) (defScope sWInit) [] [] f fd) (T : WTxt K mg C) (B : Bi2 mg) {CN : Addr} (cP : Can P w K mg base (L2.CX P w) 3 "check_places" ["places"] (spCkPlaces K CN))
    (cC : Can P w K mg base (L2.CX P w) 4 "check_items" ["places", "hears"] (spItems K)) : FnOk P w K mg base (L2.CX P w) 5 f fd ["self", "places", "hears"] (spWInit C) := by
  refine F.ok scWInit (fun xs H Q E h => ?_) (fun cdv A outer s H vs Q E hr h => ?_)
  · obtain ⟨p, dx, h, pl, ps, rfl, _⟩ := h
    rfl
  · obtain ⟨p, dx, h, pl, ps, rfl, hp, pp, hh, ht, hl, q⟩ := h
    have pass : Passes (L2.CX P w) (cxOf (L2.CX P w) P w K mg base ["self", "places", "hears", "item"] "Web.__init__" (defScope sWInit) f cdv A outer s H E) E := passes_call (takes_of rfl rfl rfl rfl) fun _ _ _ _ z => z
    refine ⟨_, pss_cons (ps_expr (pe_can cP (hr.mono (by decide)) pass (pa1 (pv 1))))
      (pss_cons (ps_if (pt_not (pt_val (pe_bi call_kd B.isi (pa_cons (pv 2) (pa1 (pe_tyv "list" B.list)))))) (pss_one ps_never) pss_nil)
      (pss_cons (ps_expr (pe_can cC hr pass (pa_cons (pv 1) (pa1 (pv 2)))))
      (pss_cons (ps_fld (pv 0) (pv 1) rfl)
      (pss_cons (ps_fld (pv 0) (pe_bi (cr_max rfl) B.max (pa1 (pe_op op_cat (pe_lst (pa1 pe_int)) (pe_lc (own := [("item", 3)]) (g := gName 3) (tt := tYes) rfl scWInit.nd (pi_list (pv 2)) (blkOk_by (own := [("item", 3)]) (N := ["self", "places", "hears", "item"]) (sc := defScope sWInit) (by decide +kernel))
          (fun _ _ _ _ _ => pg_name (i := 3) scWInit.nd rfl (Or.inl rfl)) (fun _ _ _ _ _ => pts_nil) (fun _ _ _ _ _ => pe_bi call_abs B.abs (pa1 (pe_ix (r := rIxT K) ix_tup (pv 3) pe_int (fun _ _ => rfl)))))))) rfl)
      (pss_one (ps_fld (pv 0) (pe_bi (cr_sortL rfl hr.units) B.sorted (pa1 (pv 2))) rfl)))))), ?_⟩
    refine ⟨_, rfl, .int pl, some pl, rfl, .is pl, fun _ => ?_, fun e => by
      rw [inR_t (show 1 ≤ pl by omega) (show pl ≤ 2 by omega)] at e
      cases e⟩
    refine ⟨_, rfl, .ref h, "list", true, rfl, isk_lst hh _ (by decide +kernel), true, rfl, iteF ?_⟩
    refine ⟨_, rfl, _, rfl, pl, h, ps, rfl, pp, hh, ht, hl, fun H1 sm => ?_⟩
    have hp1 := sm _ _ hp
    have hph : h ≠ p := ne_of hh hp (by intro z; cases z)
    refine ⟨_, rfl, _, rfl, p, C, dx, [], rfl, hp1, T.cl, T.nP, (by show 0 < 1000; decide), ?_⟩
    -- self.reach
    have nf1 : ∀ {a : Addr} {o : HO} {fs : List (Str × V)}, (upd H1 p (.ins C dx fs)) a = none → H1 a = none := fun {a o fs} z => by
      by_cases e : a = p
      · rw [e, upd_same] at z
        cases z
      · rw [upd_ne e] at z
        exact z
    refine ⟨(by show 1 ≤ sizeLine; decide), fun a1 m1 => ?_⟩
    have hA : ∀ c o, (upd H1 p (.ins C dx (putF "places" (.int pl) []))) c = some o → (upd (upd H1 p (.ins C dx (putF "places" (.int pl) []))) a1 (.lst [V.int 1])) c = some o := fun c o e => by
      rw [upd_ne (ne_of_none e m1)]
      exact e
    have hh2 : (upd H1 p (.ins C dx (putF "places" (.int pl) []))) h = some (.lst (ps.map fun q => V.ref q.1)) := by
      rw [upd_ne hph]
      exact sm _ _ hh
    have tu2 : TupsAt (upd H1 p (.ins C dx (putF "places" (.int pl) []))) ps := fun q hq => by
      have y := sm _ _ (ht q hq)
      rw [upd_ne (ne_of y hp1 (by intro z; cases z))]
      exact y
    refine ⟨_, rfl, h, rfl, ⟨_, SqL.of (hA _ _ hh2)⟩, fun D nD => ?_⟩
    generalize hG : upd (upd H1 p (.ins C dx (putF "places" (.int pl) []))) a1 (.lst [V.int 1]) = G at hA nD ⊢
    have hh3 := hA _ _ hh2
    have tu3 : TupsAt G ps := fun q hq => hA _ _ (tu2 q hq)
    have ga1 : G a1 = some (.lst [V.int 1]) := by
      rw [← hG]
      exact upd_same
    refine lc_list (K := K) (a := h) (xs := ps.map fun q => V.ref q.1) (fun i H' => H' = upd G D (.lst (((ps.take i).map fun q => absd q.2).map V.int))) rfl (fun i H' _ e => by
      rw [e]
      exact SqL.of (by rw [upd_ne (ne_of_none hh3 nD)]; exact hh3)) ?_ ?_
    · rintro i x H' hx rfl
      obtain ⟨r, hr, rfl⟩ : ∃ r, ps[i]? = some r ∧ x = .ref r.1 := by
        rw [List.getElem?_map] at hx
        cases e : ps[i]? with
        | none =>
          rw [e] at hx
          cases hx
        | some r =>
          rw [e] at hx
          exact ⟨r, rfl, (Option.some.inj hx).symm⟩
      have rin := List.mem_of_getElem? hr
      obtain ⟨i1, j1, d1, el, b1⟩ := hl.one r.2 (List.mem_map.mpr ⟨r, rin, rfl⟩)
      have tr := tu3 r rin
      rw [el] at tr
      refine ⟨rfl, lc_yes ?_⟩
      refine ⟨_, rfl, r.1, _, 2, .int d1, rfl, rfl, SqT.of (xs := [V.int i1, V.int j1, V.int d1]) (by rw [upd_ne (ne_of_none tr nD)]; exact tr), atI_nat (j := 2) rfl, d1, rfl, _, upd_same, ?_, ?_⟩
      · rw [List.length_map, List.length_map]
        refine small1000 ?_
        rw [List.length_take]
        have := hl.few
        rw [List.length_map] at this
        omega
      · rw [upd_upd, List.take_add_one, hr, List.map_append, List.map_append]
        have e : absd r.2 = if d1 < 0 then -d1 else d1 := by rw [el] <;> rfl
        show upd G D (.lst (_ ++ [V.int (if d1 < 0 then -d1 else d1)])) = upd G D (.lst (_ ++ [V.int (absd r.2)]))
        rw [e]
    · rintro H' rfl
      rw [List.length_map, List.take_length]
      have few : ps.length ≤ 20 := by
        have := hl.few
        rwa [List.length_map] at this
      refine ⟨a1, D, [V.int 1], _, rfl, rfl, by rw [upd_ne (ne_of_none ga1 nD)]; exact ga1, upd_same, ?_, fun b nb => ?_⟩
      · rw [List.length_map, List.length_map]
        show 1 + ps.length ≤ sizeLine
        exact Nat.le_of_lt (small1000 (by omega))
      refine ⟨b, 1 :: ps.map fun q => absd q.2, rfl, SqL.of upd_same, Nat.succ_pos _, fun rc hm hle => ?_⟩
      have rea : Reach rc (ps.map (·.2)) := by
        refine ⟨hle 1 List.mem_cons_self, fun l hl2 i j d el => ?_, ?_⟩
        · obtain ⟨r, hr, rfl⟩ := List.mem_map.mp hl2
          have y := hle (absd r.2) (List.mem_cons_of_mem _ (List.mem_map.mpr ⟨r, hr, rfl⟩))
          have el : r.2 = [i, j, d] := el
          rw [el] at y
          have y : (if d < 0 then -d else d) ≤ rc := y
          split at y <;> omega
        · rcases List.mem_cons.mp hm with e | e
          · exact .inl e
          · obtain ⟨r, hr, er⟩ := List.mem_map.mp e
            obtain ⟨i1, j1, d1, el, _⟩ := hl.one r.2 (List.mem_map.mpr ⟨r, hr, rfl⟩)
            rw [el] at er
            have er : (if d1 < 0 then -d1 else d1) = rc := er
            refine .inr ⟨r.2, List.mem_map.mpr ⟨r, hr, rfl⟩, i1, j1, d1, el, ?_⟩
            split at er <;> omega
      have gp : G p = some (.ins C dx (putF "places" (.int pl) [])) := hA _ _ upd_same
      have gp2 : (upd (upd G D (.lst ((ps.map fun q => absd q.2).map V.int))) b (.lst ([V.int 1] ++ (ps.map fun q => absd q.2).map V.int))) p = some (.ins C dx (putF "places" (.int pl) [])) := by
        have y : (upd G D (.lst ((ps.map fun q => absd q.2).map V.int))) p = some (.ins C dx (putF "places" (.int pl) [])) := by
          rw [upd_ne (ne_of_none gp nD)]
          exact gp
        rw [upd_ne (ne_of_none y nb)]
        exact y
      refine ⟨_, rfl, p, C, dx, _, rfl, gp2, T.cl, T.nR, (by show 1 < 1000; decide), ?_⟩
      -- self._hears
      have old : ∀ c o, G c = some o → c ≠ p → (upd (upd (upd G D (.lst ((ps.map fun q => absd q.2).map V.int))) b (.lst ([V.int 1] ++ (ps.map fun q => absd q.2).map V.int))) p (.ins C dx (putF "reach" (.int rc) (putF "places" (.int pl) [])))) c = some o := fun c o e hc => by
        have y : (upd G D (.lst ((ps.map fun q => absd q.2).map V.int))) c = some o := by
          rw [upd_ne (ne_of_none e nD)]
          exact e
        rw [upd_ne hc, upd_ne (ne_of_none y nb)]
        exact y
      generalize hM : upd (upd (upd G D (.lst ((ps.map fun q => absd q.2).map V.int))) b (.lst ([V.int 1] ++ (ps.map fun q => absd q.2).map V.int))) p (.ins C dx (putF "reach" (.int rc) (putF "places" (.int pl) []))) = M at old
      have mp : M p = some (.ins C dx (putF "reach" (.int rc) (putF "places" (.int pl) []))) := by
        rw [← hM]
        exact upd_same
      have mh := old _ _ hh3 hph
      have mt : TupsAt M ps := fun r hr => old _ _ (tu3 r hr) (ne_of (tu3 r hr) gp (by intro z; cases z))
      refine ⟨_, rfl, h, ps, 2, rfl, SqL.of mh, fun r hr => SqT.of (mt r hr), fun r hr => ?_, fun l nl => ?_⟩
      · obtain ⟨i1, j1, d1, el, _⟩ := hl.one r.2 (List.mem_map.mpr ⟨r, hr, rfl⟩)
        rw [el] <;> rfl
      have lp : p ≠ l := ne_of_none mp nl
      refine ⟨_, rfl, p, C, dx, _, rfl, by rw [upd_ne lp]; exact mp, T.cl, T.nH, (by show 2 < 1000; decide), ?_⟩
      have keep : ∀ c o, H c = some o → c ≠ p → M c = some o := fun c o e hc => by
        refine old c o (hA c o ?_) hc
        rw [upd_ne hc]
        exact sm c o e
      refine q rc l _ ⟨⟨dx, upd_same⟩, by rw [upd_ne (Ne.symm lp), upd_same], fun r hr => ?_⟩ rea (fun c o e hc => ?_) ?_
      · have y := mt r ((srt_perm ps).mem_iff.mp hr)
        rw [upd_ne (ne_of y mp (by intro z; cases z)), upd_ne (ne_of_none y nl)]
        exact y
      · rw [upd_ne hc, upd_ne (ne_of_none (keep c o e hc) nl)]
        exact keep c o e hc
      · cases e : H l with
        | none => rfl
        | some o =>
          rw [keep l o e (Ne.symm lp)] at nl
          cases nl
end
end Kx
/-! Web: hears, audible. -/
namespace Kx
open PySem PySem.Spec PyProof.Rows L2 Xa Xb Xc Xd Xs Xp
abbrev sWAud : Stmt := inClass (top 21) 2
/-! ### the mathematics of what is heard -/
def further (rg : Bool) (n a d : Int) : Int := if rg = true then (a + d).fmod n else a + d
/-- the spot k is heard, by the tuples ls -/
def Hear (ls : List (List Int)) (rg : Bool) (n a b : Int) (k : List Int) : Prop := ∃ j d : Int, [b, j, d] ∈ ls ∧ 0 ≤ further rg n a d ∧ further rg n a d < n ∧ k = [further rg n a d, j]
/-- ks is the list of the heard spots, in order -/
structure Told (ls : List (List Int)) (rg : Bool) (n a b : Int) (ks : List (List Int)) : Prop where
  nd : ks.Nodup
  up : ks.Pairwise fun q r => TS.code (n + 2) q ≤ TS.code (n + 2) r
  mem : ∀ k, k ∈ ks ↔ Hear ls rg n a b k
  few : ks.length < 64
theorem code2 (B x y : Int) : TS.code B [x, y] = x * B + y := by
  show x * B ^ 1 + (y * B ^ 0 + 0) = x * B + y
  rw [Int.pow_succ, Int.pow_zero, Int.one_mul, Int.mul_one, Int.add_zero]
theorem Hear.snoc {l : List (List Int)} {rg : Bool} {n a b i j d : Int} {k : List Int} : Hear (l ++ [[i, j, d]]) rg n a b k ↔ Hear l rg n a b k ∨ (i = b ∧ 0 ≤ further rg n a d ∧ further rg n a d < n ∧ k = [further rg n a d, j]) := by
  constructor
  · rintro ⟨j1, d1, m, x, y, z⟩
    rcases List.mem_append.mp m with m | m
    · exact .inl ⟨j1, d1, m, x, y, z⟩
    · have e := List.mem_singleton.mp m
      injection e with e1 e
      injection e with e2 e
      injection e with e3 e
      subst e1 e2 e3
      exact .inr ⟨rfl, x, y, z⟩
  · rintro (⟨j1, d1, m, r⟩ | ⟨rfl, r⟩)
    · exact ⟨j1, d1, List.mem_append_left _ m, r⟩
    · exact ⟨j, d, List.mem_append_right _ List.mem_cons_self, r⟩
theorem sorted_one {key : List Int → Int} : ∀ {l m : List (List Int)}, l.Pairwise (fun a b => key a < key b) → m.Pairwise (fun a b => key a < key b) → (∀ k, k ∈ l ↔ k ∈ m) → l = m
  | [], [], _, _, _ => rfl
  | [], b :: m, _, _, h => absurd ((h b).mpr List.mem_cons_self) (by simp)
  | a :: l, [], _, _, h => absurd ((h a).mp List.mem_cons_self) (by simp)
  | a :: l, b :: m, hl, hm, h => by
    obtain ⟨l1, l2⟩ := List.pairwise_cons.mp hl
    obtain ⟨m1, m2⟩ := List.pairwise_cons.mp hm
    have e : a = b := by
      rcases List.mem_cons.mp ((h a).mp List.mem_cons_self) with z | z
      · exact z
      · rcases List.mem_cons.mp ((h b).mpr List.mem_cons_self) with y | y
        · exact y.symm
        · have := m1 a z
          have := l1 b y
          omega
    subst e
    have t : l = m := sorted_one l2 m2 fun k => by
      have ne : ∀ {x : List (List Int)}, (∀ y ∈ x, key a < key y) → k ∈ x → k ≠ a := fun h1 h2 h3 => by
        have := h1 k h2
        rw [h3] at this
        omega
      refine ⟨fun z => ?_, fun z => ?_⟩
      · rcases List.mem_cons.mp ((h k).mp (List.mem_cons_of_mem _ z)) with y | y
        · exact absurd y (ne l1 z)
        · exact y
      · rcases List.mem_cons.mp ((h k).mpr (List.mem_cons_of_mem _ z)) with y | y
        · exact absurd y (ne m1 z)
        · exact y
    rw [t]
theorem Told.strict {ls : List (List Int)} {rg : Bool} {n a b : Int} {ks : List (List Int)} (T : Told ls rg n a b ks) (hj : ∀ j d, [b, j, d] ∈ ls → 0 ≤ j ∧ j < 2) (hn : 1 ≤ n) : ks.Pairwise fun q r => TS.code (n + 2) q < TS.code (n + 2) r := by
  refine List.Pairwise.imp_of_mem (fun {q r} hq hr h => ?_) (T.up.and T.nd)
  obtain ⟨h1, h2⟩ := h
  obtain ⟨j1, d1, m1, x1, y1, rfl⟩ := (T.mem q).mp hq
  obtain ⟨j2, d2, m2, x2, y2, rfl⟩ := (T.mem r).mp hr
  have z1 := hj _ _ m1
  have z2 := hj _ _ m2
  rw [code2, code2] at h1 ⊢
  rcases Int.lt_or_eq_of_le h1 with z | z
  · exact z
  · exfalso
    apply h2
    have e : further rg n a d1 = further rg n a d2 := by
      rcases Int.lt_trichotomy (further rg n a d1) (further rg n a d2) with u | u | u
      · have : (further rg n a d1 + 1) * (n + 2) ≤ further rg n a d2 * (n + 2) := Int.mul_le_mul_of_nonneg_right (by omega) (by omega)
        rw [Int.add_mul] at this
        omega
      · exact u
      · have : (further rg n a d2 + 1) * (n + 2) ≤ further rg n a d1 * (n + 2) := Int.mul_le_mul_of_nonneg_right (by omega) (by omega)
        rw [Int.add_mul] at this
        omega
    rw [e] at z
    have e2 : j1 = j2 := by omega
    rw [e, e2]
theorem Told.one {ls : List (List Int)} {rg : Bool} {n a b : Int} {ks ks' : List (List Int)} (T : Told ls rg n a b ks) (T' : Told ls rg n a b ks') (hj : ∀ j d, [b, j, d] ∈ ls → 0 ≤ j ∧ j < 2) (hn : 1 ≤ n) : ks = ks' :=
  sorted_one (T.strict hj hn) (T'.strict hj hn) fun k => (T.mem k).trans (T'.mem k).symm
theorem Hear.perm {ls ls' : List (List Int)} {rg : Bool} {n a b : Int} {k : List Int} (p : ls.Perm ls') (h : Hear ls rg n a b k) : Hear ls' rg n a b k := by
  obtain ⟨j, d, m, r⟩ := h
  exact ⟨j, d, p.mem_iff.mp m, r⟩
theorem Told.perm {ls ls' : List (List Int)} {rg : Bool} {n a b : Int} {ks : List (List Int)} (p : ls.Perm ls') (T : Told ls rg n a b ks) : Told ls' rg n a b ks :=
  ⟨T.nd, T.up, fun k => (T.mem k).trans ⟨Hear.perm p, Hear.perm p.symm⟩, T.few⟩
section
variable {P : Program} {w : World} {K : PySem.W.Frag} {mg : Str → Option Value} {base : Heap} {f C CN CS : Addr} {fd : FuncData}
abbrev sWHears2 : Stmt := inClass (top 21) 1
def spHears (C : Addr) : Sp := fun xs H Q _ => ∃ (p l : Addr) (pl rc : Int) (qs : List (Addr × List Int)), xs = [.ref p] ∧ WebAt C H p pl rc l qs ∧ ∀ a, H a = none → Q (.ref a) (upd H a (.lst (qs.map fun q => V.ref q.1)))
theorem scHears : FnScope ["self"] ["self"] (defScope sWHears2) := ⟨rfl, rfl, rfl, by decide +kernel, rfl, by decide +kernel, by decide +kernel⟩
theorem ok_hears (F : FunD K "hears" "Web.hears" (defArgs sWHears2) (defBody sWHears2) (defScope sWHears2) [] [] f fd) (T : WTxt K mg C) (B : Bi2 mg) : FnOk P w K mg base CX0 1 f fd ["self"] (spHears C) := by
  refine F.ok scHears (fun xs H Q E h => ?_) (fun cdv A outer s H vs Q E hr h => ?_)
  · obtain ⟨p, l, pl, rc, qs, rfl, _⟩ := h
    rfl
  · obtain ⟨p, l, pl, rc, qs, rfl, ⟨⟨dx, ob⟩, li, tu⟩, q⟩ := h
    refine ⟨_, PSs.nox (pss_one (ps_ret (pe_ty call_list_of B.list (pa1 (pe_fld (pv 0) rfl))))), ?_⟩
    exact ⟨_, rfl, p, C, dx, _, _, rfl, ob, T.cl, T.nH, wf_he _ _ _, l, _, rfl, .inl (SqL.of li), q⟩
/-! ### audible -/
def spAud (K : PySem.W.Frag) (C CN CS : Addr) : Sp := fun xs H Q E => ∃ (p l : Addr) (pl rc : Int) (qs : List (Addr × List Int)) (nv sv rv : V) (on : Option Int), xs = [.ref p, nv, sv, rv] ∧ WebAt C H p pl rc l qs ∧ (∀ q ∈ qs, Lnk pl q.2) ∧ (pl = 1 ∨ pl = 2) ∧ qs.length ≤ 20 ∧ Num K H nv on ∧
  (okNum on = false → Ref E H CN nv) ∧ ∀ n : Int, on = some n → 1 ≤ n → ∃ bs, Spot K H n pl sv bs ∧ (bs = false → Ref E H CS sv) ∧ (bs = true → ∃ br, IsK K H rv "bool" br ∧ (br = false → Ref E H CN rv) ∧ (br = true → ∃ (rg : Bool) (t : Addr) (a b : Int), rv = .bl rg ∧ sv = .ref t ∧ H t = some (.tup [.int a, .int b]) ∧
    ∀ (ks : List (Addr × List Int)) (u : Addr) (H' : Hp), Told (qs.map (·.2)) rg n a b (ks.map (·.2)) → Same H H' → H u = none → H' u = some (.lst (ks.map fun q => V.ref q.1)) → TupsAt H' ks → Q (.ref u) H'))
theorem scAud : FnScope ["self", "n", "spot", "ring", "piece", "place", "found", "i", "j", "d", "further"] ["self", "n", "spot", "ring"] (defScope sWAud) := ⟨rfl, rfl, rfl, by decide +kernel, rfl, by decide +kernel, by decide +kernel⟩
theorem ok_aud {dvs : List V} {kws : List (Str × V)} (F : FunD K "audible" "Web.audible" (defArgs sWAud) (defBody sWAud) (defScope sWAud) dvs kws f fd) (T : WTxt K mg C) (B : Bi2 mg) (c1 : Can P w K mg base (L2.CX P w) 4 "check_count" ["n"] (spCkCount K CN))
    (c2 : Can P w K mg base (L2.CX P w) 4 "check_spot" ["spot", "n", "places"] (spCkSpot K CS)) (c3 : Can P w K mg base (L2.CX P w) 4 "check_ring" ["ring"] (spCkRing K CN)) : FnOk P w K mg base (L2.CX P w) 5 f fd ["self", "n", "spot", "ring"] (spAud K C CN CS) := by
  refine F.ok scAud (fun xs H Q E h => ?_) (fun cdv A outer s H vs Q E hr h => ?_)
  · obtain ⟨p, l, pl, rc, qs, nv, sv, rv, on, rfl, _⟩ := h
    rfl
  · obtain ⟨p, l, pl, rc, qs, nv, sv, rv, on, rfl, W, lk, pp, few, N, no1, yes1⟩ := h
    obtain ⟨⟨dx, ob⟩, li, tu⟩ := W
    have pass : Passes (L2.CX P w) (cxOf (L2.CX P w) P w K mg base ["self", "n", "spot", "ring", "piece", "place", "found", "i", "j", "d", "further"] "Web.audible" (defScope sWAud) f cdv A outer s H E) E := passes_call (takes_of rfl rfl rfl rfl) fun _ _ _ _ z => z
    refine ⟨_, pss_cons (ps_expr (pe_can c1 hr pass (pa1 (pv 1))))
      (pss_cons (ps_expr (pe_can c2 hr pass (pa_cons (pv 2) (pa_cons (pv 1) (pa1 (pe_fld (pv 0) rfl))))))
      (pss_cons (ps_expr (pe_can c3 hr pass (pa1 (pv 3))))
      (pss_cons (ps_asg (pv 2) (pg_tup (by rfl) (pgs_cons (pg_name (i := 4) scAud.nd rfl (.inl rfl)) (pgs_cons (pg_name (i := 5) scAud.nd rfl (.inl rfl)) pgs_nil))))
      (pss_cons (ps_set (i := 6) scAud.nd rfl (.inl rfl) (pe_callTy0 cr_setT0 (by rfl) B.set (by decide +kernel)))
      (pss_cons (ps_for (passes_of rfl) rfl (pi_list (pe_fld (pv 0) rfl)) (pg_tup (by rfl) (pgs_cons (pg_name (i := 7) scAud.nd rfl (.inl rfl)) (pgs_cons (pg_name (i := 8) scAud.nd rfl (.inl rfl)) (pgs_cons (pg_name (i := 9) scAud.nd rfl (.inl rfl)) pgs_nil))))
        (pss_cons (ps_set (i := 10) scAud.nd rfl (.inl rfl) (pe_ifExp (pt_val (pv 3)) (pe_op op_modN (pe_op op_add (pv 4) (pv 9)) (pv 1)) (pe_op op_add (pv 4) (pv 9))))
        (pss_one (ps_if (PW.pt (pw_and (pt_cmpR op_eq (pv 7) (pv 5) (nomark _)) (pw_and1 (pt_chain op_le op_lt pe_int (pv 10) (pv 1))))) (pss_one (ps_expr (pe_addT hr.units (pv 6) (pe_tup (pa_cons (pv 10) (pa1 (pv 8))))))) pss_nil))))
      (pss_one (ps_ret (pe_bi (cr_sortedT rfl) B.sorted (pa1 (pv 6)))))))))), ?_⟩
    refine ⟨_, rfl, nv, on, rfl, N, fun ok => ?_, no1⟩
    obtain ⟨n, rfl, n1⟩ : ∃ n, on = some n ∧ 1 ≤ n := by
      cases on with
      | none => cases ok
      | some n => exact ⟨n, rfl, of_decide_eq_true ok⟩
    cases N
    obtain ⟨bs, S, no2, yes2⟩ := yes1 n rfl n1
    refine ⟨_, rfl, _, rfl, _, rfl, p, C, dx, _, _, rfl, ob, T.cl, T.nP, wf_pl _ _ _, sv, n, pl, bs, rfl, S, fun bt => ?_, no2⟩
    obtain ⟨br, I, no3, yes3⟩ := yes2 bt
    refine ⟨_, rfl, rv, br, rfl, I, fun bt2 => ?_, no3⟩
    obtain ⟨rg, t, a, b, rfl, rfl, ht, q⟩ := yes3 bt2
    refine ⟨_, rfl, t, _, rfl, SqT.of ht, rfl, .int a, _, rfl, .int b, _, rfl, rfl, rfl, fun sA ns => ?_⟩
    have ob2 : ∀ H' : Hp, Same H H' → H' p = some (.ins C dx (wFlds pl rc l)) := fun H' sm => sm _ _ ob
    refine ⟨_, rfl, p, C, dx, _, _, rfl, ob2 _ (fun c o e => by rw [upd_ne (ne_of_none e ns)]; exact e), T.cl, T.nH, wf_he _ _ _, l, rfl, ⟨_, SqL.of (by rw [upd_ne (ne_of_none li ns)]; exact li)⟩, for_list (K := K) (a := l) (xs := qs.map fun p => V.ref p.1)
      (fun i σ H' => ∃ (L : List (Addr × List Int)) (v7 v8 v9 v10 : Option V), σ = [some (.ref p), some (.int n), some (.ref t), some (.bl rg), some (.int a), some (.int b), some (.ref sA), v7, v8, v9, v10] ∧ H' sA = some (SetTO P w sA L) ∧ Same H H' ∧ TupsAt H' L ∧ (∀ k, k ∈ L.map (·.2) ↔ Hear ((qs.take i).map (·.2)) rg n a b k) ∧ L.length ≤ i)
      ⟨[], none, none, none, none, rfl, upd_same, fun c o e => by rw [upd_ne (ne_of_none e ns)]; exact e, fun q hq => (by cases hq), fun k => ⟨fun z => (by cases z), fun ⟨_, _, m, _⟩ => (by cases m)⟩, Nat.le_refl _⟩ (fun i σ H' _ ⟨_, _, _, _, _, _, _, sm, _⟩ => SqL.of (sm _ _ li)) ?_ ?_⟩
    · rintro i y σ H' hi ⟨L, v7, v8, v9, v10, rfl, hs, sm, tps, mem, len⟩
      obtain ⟨r, hr, rfl⟩ : ∃ r, qs[i]? = some r ∧ y = .ref r.1 := by
        rw [List.getElem?_map] at hi
        cases e : qs[i]? with
        | none =>
          rw [e] at hi
          cases hi
        | some r =>
          rw [e] at hi
          exact ⟨r, rfl, (Option.some.inj hi).symm⟩
      have hil : i < qs.length := (List.getElem?_eq_some_iff.mp hr).1
      have rin := List.mem_of_getElem? hr
      obtain ⟨i1, j1, d1, el, b1, b2, b3, b4, b5, b6⟩ := lk r rin
      have tr := sm _ _ (tu r rin)
      rw [el] at tr
      have tk : (qs.take (i + 1)).map (·.2) = (qs.take i).map (·.2) ++ [[i1, j1, d1]] := by
        rw [List.take_add_one, hr, List.map_append, ← el]
        rfl
      have mem2 : ∀ k, Hear ((qs.take (i + 1)).map (·.2)) rg n a b k ↔ Hear ((qs.take i).map (·.2)) rg n a b k ∨ (i1 = b ∧ 0 ≤ further rg n a d1 ∧ further rg n a d1 < n ∧ k = [further rg n a d1, j1]) := fun k => by rw [tk] <;> exact Hear.snoc
      have sqs : ∀ q ∈ L, SqT K H' q.1 (q.2.map V.int) := fun q hq => SqT.of (tps q hq)
      refine ⟨r.1, _, rfl, SqT.of (xs := [V.int i1, V.int j1, V.int d1]) tr, rfl, .int i1, _, rfl, .int j1, _, rfl, .int d1, _, rfl, rfl, _, rfl, rg, rfl, ?_⟩
      cases rg
      case' false =>
        refine iteF ⟨_, rfl, _, rfl, _, _, rfl, rfl, ?_⟩
        replace mem2 : ∀ k, Hear ((qs.take (i + 1)).map (·.2)) false n a b k ↔ Hear ((qs.take i).map (·.2)) false n a b k ∨ (i1 = b ∧ 0 ≤ a + d1 ∧ a + d1 < n ∧ k = [a + d1, j1]) := mem2
        dsimp only
        generalize a + d1 = fv at mem2 ⊢
      case' true =>
        refine iteT ⟨_, rfl, _, rfl, _, _, rfl, rfl, _, rfl, _, _, rfl, rfl, by omega, ?_⟩
        replace mem2 : ∀ k, Hear ((qs.take (i + 1)).map (·.2)) true n a b k ↔ Hear ((qs.take i).map (·.2)) true n a b k ∨ (i1 = b ∧ 0 ≤ (a + d1).fmod n ∧ (a + d1).fmod n < n ∧ k = [(a + d1).fmod n, j1]) := mem2
        dsimp only
        generalize (a + d1).fmod n = fv at mem2 ⊢
      all_goals
        refine ⟨_, rfl, _, rfl, rfl, _, rfl, ?_⟩
        have stay : (∀ k, ¬ (i1 = b ∧ 0 ≤ fv ∧ fv < n ∧ k = [fv, j1])) → ∀ k, k ∈ L.map (·.2) ↔ Hear ((qs.take (i + 1)).map (·.2)) _ n a b k := fun no k => by
          rw [mem k, mem2 k]
          exact ⟨.inl, fun z => z.resolve_right (no k)⟩
        show if decide (V.int i1 = V.int b) = true then _ else _
        by_cases ib : i1 = b
        · rw [decide_eq_true (by rw [ib])]
          refine iteT ⟨_, rfl, _, _, rfl, rfl, _, rfl, ?_⟩
          by_cases f0 : 0 ≤ fv
          · rw [decide_eq_true f0]
            refine iteT ⟨_, rfl, _, _, rfl, rfl, _, rfl, ?_⟩
            show if decide (fv < n) = true then _ else _
            by_cases fn : fv < n
            · rw [decide_eq_true fn]
              refine iteT ⟨_, rfl, ⟨sA, L, rfl, hs, sqs⟩, _, rfl, _, rfl, (by show 2 ≤ sizeLine; decide), fun u nu => ?_⟩
              have su : ∀ c o, H' c = some o → (upd H' u (.tup [V.int fv, V.int j1])) c = some o := fun c o e => by
                rw [upd_ne (ne_of_none e nu)]
                exact e
              refine ⟨sA, u, [fv, j1], L, rfl, rfl, su _ _ hs, fun q hq => SqT.of (su _ _ (tps q hq)), SqT.of upd_same, by omega, fun L' i1' i2' => ?_⟩
              have sub : ∀ q ∈ L', q = (u, [fv, j1]) ∨ q ∈ L := fun q hq => by
                by_cases z : [fv, j1] ∈ L.map (·.2)
                · rw [i1' z] at hq
                  exact .inr hq
                · exact List.mem_cons.mp ((i2' z).mem_iff.mp hq)
              have memL : ∀ k, k ∈ L'.map (·.2) ↔ k ∈ L.map (·.2) ∨ k = [fv, j1] := fun k => by
                by_cases z : [fv, j1] ∈ L.map (·.2)
                · rw [i1' z]
                  exact ⟨.inl, fun y => y.elim id fun e => by rw [e] <;> exact z⟩
                · rw [((i2' z).map _).mem_iff, List.map_cons, List.mem_cons]
                  exact Or.comm
              refine ⟨L', _, _, _, _, rfl, upd_same, fun c o e => ?_, fun q hq => ?_, fun k => ?_, ?_⟩
              · rw [upd_ne (ne_of_none e ns)]
                exact su c o (sm c o e)
              · rcases sub q hq with e | e
                · rw [e]
                  show (upd (upd H' u _) sA _) u = _
                  rw [upd_ne (Ne.symm (ne_of_none hs nu)), upd_same]
                  rfl
                · have y := tps q e
                  rw [upd_ne (ne_of y hs (by intro z; cases z))]
                  exact su _ _ y
              · rw [memL k, mem k, mem2 k]
                exact ⟨fun z => z.imp id fun e => ⟨ib, f0, fn, e⟩, fun z => z.imp id fun e => e.2.2.2⟩
              · by_cases z : [fv, j1] ∈ L.map (·.2)
                · rw [i1' z]
                  omega
                · rw [(i2' z).length_eq, List.length_cons]
                  omega
            · rw [decide_eq_false fn]
              exact iteF ⟨L, _, _, _, _, rfl, hs, sm, tps, stay fun k z => fn z.2.2.1, by omega⟩
          · rw [decide_eq_false f0]
            exact iteF ⟨_, rfl, iteF ⟨L, _, _, _, _, rfl, hs, sm, tps, stay fun k z => f0 z.2.1, by omega⟩⟩
        · rw [decide_eq_false (fun z => ib (by injection z))]
          exact iteF ⟨L, _, _, _, _, rfl, hs, sm, tps, stay fun k z => ib z.1, by omega⟩
    · rintro σ H' ⟨L, v7, v8, v9, v10, rfl, hs, sm, tps, mem, len⟩
      rw [List.length_map, List.take_length] at mem
      refine ⟨_, rfl, sA, L, 2, n + 2, rfl, hs, fun q hq => SqT.of (tps q hq), by decide, fun k hk => ?_, fun L' u pm nd few2 pw nu => ?_⟩
      · obtain ⟨j1, d1, m, x, y, e⟩ := (mem k.2).mp (List.mem_map.mpr ⟨k, hk, rfl⟩)
        obtain ⟨r, hr, e2⟩ := List.mem_map.mp m
        obtain ⟨i2, j2, d2, el, b1, b2, b3, b4, b5, b6⟩ := lk r hr
        have e2 : r.2 = [b, j1, d1] := e2
        rw [el] at e2
        injection e2 with e3 e2
        injection e2 with e4 e2
        subst e4
        rw [e]
        refine ⟨rfl, fun z hz => ?_⟩
        rcases List.mem_cons.mp hz with h | h
        · rw [h]
          omega
        · rw [List.mem_singleton.mp h]
          omega
      · have keep : ∀ c o, H' c = some o → (upd H' u (.lst (L'.map fun q => V.ref q.1))) c = some o := fun c o e => by
          rw [upd_ne (ne_of_none e nu)]
          exact e
        refine q L' u _ ⟨nd, List.pairwise_map.mpr pw, fun k => ?_, by rw [List.length_map] <;> exact few2⟩ (fun c o e => keep c o (sm c o e)) ?_ upd_same fun q hq => keep _ _ (tps q (pm.mem_iff.mp hq))
        · rw [← mem k]
          exact (pm.map _).mem_iff
        · cases e : H u with
          | none => rfl
          | some o =>
            rw [sm u o e] at nu
            cases nu
end
end Kx
/-! The law's own counting of what is heard. -/
namespace Kx
open PySem PySem.Spec PyProof.Rows L2 Xa Xb Xc Xd Xs Xp Xm
abbrev sHeard : Stmt := top 52
section
variable {P : Program} {w : World} {K : PySem.W.Frag} {mg : Str → Option Value} {base : Heap} {f : Addr} {fd : FuncData}
def spHeard : Sp := fun xs H Q _ => ∃ (tp la sp : Addr) (pl n a b : Int) (rg : Bool) (qs : List (Addr × List Int)), xs = [.ref tp, .int n, .ref sp, .bl rg] ∧ H tp = some (.tup [.int pl, .ref la]) ∧ H la = some (.lst (qs.map fun q => V.ref q.1)) ∧ TupsAt H qs ∧ (∀ q ∈ qs, Lnk pl q.2) ∧ (pl = 1 ∨ pl = 2) ∧ qs.length ≤ 20 ∧
  1 ≤ n ∧ H sp = some (.tup [.int a, .int b]) ∧
  ∀ (ks : List (Addr × List Int)) (u : Addr) (H' : Hp), Told (qs.map (·.2)) rg n a b (ks.map (·.2)) → Same H H' → H u = none → H' u = some (.lst (ks.map fun q => V.ref q.1)) → TupsAt H' ks → Q (.ref u) H'
theorem scHeard : FnScope ["parts", "many", "spot", "rounded", "found", "one", "other", "distance", "piece"] ["parts", "many", "spot", "rounded"] (defScope sHeard) := ⟨rfl, rfl, rfl, by decide +kernel, rfl, by decide +kernel, by decide +kernel⟩
theorem can_heard (D : Dfn K mg "_law_heard" sHeard) (B : Bi2 mg) : CanG P w K mg base 1 "_law_heard" ["parts", "many", "spot", "rounded"] spHeard := by
  obtain ⟨f, fd, F, g⟩ := D.at_
  refine FnG.can (okG F scHeard (fun xs H Q E h => ?_) (fun cdv A outer s H vs Q E hr hn h => ?_)) F g fun _ _ _ _ _ _ us hl => match us, hl with | [_, _, _, _], _ => rfl
  · obtain ⟨tp, la, sp, pl, n, a, b, rg, qs, rfl, _⟩ := h
    rfl
  · obtain ⟨tp, la, sp, pl, n, a, b, rg, qs, rfl, htp, hla, tu, lk, pp, few, n1, hsp, q⟩ := h
    refine ⟨_, pss_cons (ps_set (i := 4) scHeard.nd rfl (.inl rfl) (pe_lst pa_nil))
      (pss_cons (ps_for PassesOwn.never rfl (pi_list (pe_ix ix_tup (pv 0) pe_int (fun _ _ => rfl))) (pg_tup (by rfl) (pgs_cons (pg_name (i := 5) scHeard.nd rfl (.inl rfl)) (pgs_cons (pg_name (i := 6) scHeard.nd rfl (.inl rfl)) (pgs_cons (pg_name (i := 7) scHeard.nd rfl (.inl rfl)) pgs_nil))))
        (pss_cons (ps_set (i := 8) scHeard.nd rfl (.inl rfl) (pe_ifExp (pt_val (pv 3)) (pe_op op_modN (pe_callTy call_int1 (by rfl) B.int (by decide +kernel) (pa1 (pe_op op_add (pe_ix ix_tup (pv 2) pe_int (fun _ _ => rfl)) (pv 7)))) (pv 1)) (pe_op op_add (pe_ix ix_tup (pv 2) pe_int (fun _ _ => rfl)) (pv 7))))
        (pss_one (ps_if (PW.pt (pw_and (pt_cmpR op_eq (pv 5) (pe_ix ix_tup (pv 2) pe_int (fun _ _ => rfl)) (nomark _)) (pw_and1 (pt_chain op_le op_lt pe_int (pv 8) (pv 1)))))
          (pss_one (ps_expr (pe_bm PySem.F.plainAttrs_list PySem.F.slot_list_append PySem.F.type_list_append mt_append (pv 4) (pa1 (pe_tup (pa_cons (pe_callTy call_int1 (by rfl) B.int (by decide +kernel) (pa1 (pv 8))) (pa1 (pv 6)))))))) pss_nil))))
      (pss_one (ps_ret (pe_bi (cr_sortedT rfl) B.sorted (pa1 (pe_ty (cr_setOfT rfl hr.units) B.set (pa1 (pv 4)))))))), ?_⟩
    refine ⟨(by show 0 ≤ sizeLine; decide), fun sA ns => ?_⟩
    have at0 : atI [V.int a, V.int b] 0 = some (V.int a) := atI_nat (j := 0) rfl
    have at1 : atI [V.int a, V.int b] 1 = some (V.int b) := atI_nat (j := 1) rfl
    refine ⟨_, rfl, tp, _, 1, .ref la, rfl, rfl, SqT.of (xs := [.int pl, .ref la]) (by rw [upd_ne (ne_of_none htp ns)]; exact htp), atI_nat (j := 1) rfl, la, rfl, ⟨_, SqL.of (by rw [upd_ne (ne_of_none hla ns)]; exact hla)⟩, for_list (K := K) (a := la) (xs := qs.map fun p => V.ref p.1)
      (fun i σ H' => ∃ (L : List (Addr × List Int)) (v7 v8 v9 v10 : Option V), σ = [some (.ref tp), some (.int n), some (.ref sp), some (.bl rg), some (.ref sA), v7, v8, v9, v10] ∧ H' sA = some (.lst (L.map fun q => V.ref q.1)) ∧ Same H H' ∧ TupsAt H' L ∧ (∀ k, k ∈ L.map (·.2) ↔ Hear ((qs.take i).map (·.2)) rg n a b k) ∧ L.length ≤ i)
      ⟨[], none, none, none, none, rfl, upd_same, fun c o e => by rw [upd_ne (ne_of_none e ns)]; exact e, fun q hq => (by cases hq), fun k => ⟨fun z => (by cases z), fun ⟨_, _, m, _⟩ => (by cases m)⟩, Nat.le_refl _⟩ (fun i σ H' _ ⟨_, _, _, _, _, _, _, sm, _⟩ => SqL.of (sm _ _ hla)) ?_ ?_⟩
    · rintro i y σ H' hi ⟨L, v7, v8, v9, v10, rfl, hs, sm, tps, mem, len⟩
      obtain ⟨r, hr, rfl⟩ : ∃ r, qs[i]? = some r ∧ y = .ref r.1 := by
        rw [List.getElem?_map] at hi
        cases e : qs[i]? with
        | none =>
          rw [e] at hi
          cases hi
        | some r =>
          rw [e] at hi
          exact ⟨r, rfl, (Option.some.inj hi).symm⟩
      have hil : i < qs.length := (List.getElem?_eq_some_iff.mp hr).1
      have rin := List.mem_of_getElem? hr
      obtain ⟨i1, j1, d1, el, b1, b2, b3, b4, b5, b6⟩ := lk r rin
      have tr := sm _ _ (tu r rin)
      rw [el] at tr
      have tk : (qs.take (i + 1)).map (·.2) = (qs.take i).map (·.2) ++ [[i1, j1, d1]] := by
        rw [List.take_add_one, hr, List.map_append, ← el]
        rfl
      have mem2 : ∀ k, Hear ((qs.take (i + 1)).map (·.2)) rg n a b k ↔ Hear ((qs.take i).map (·.2)) rg n a b k ∨ (i1 = b ∧ 0 ≤ further rg n a d1 ∧ further rg n a d1 < n ∧ k = [further rg n a d1, j1]) := fun k => by rw [tk] <;> exact Hear.snoc
      have sp1 : SqT K H' sp [V.int a, V.int b] := SqT.of (sm _ _ hsp)
      refine ⟨r.1, _, rfl, SqT.of (xs := [V.int i1, V.int j1, V.int d1]) tr, rfl, .int i1, _, rfl, .int j1, _, rfl, .int d1, _, rfl, rfl, _, rfl, rg, rfl, ?_⟩
      cases rg
      case' false =>
        refine iteF ⟨_, rfl, sp, _, 0, .int a, rfl, rfl, sp1, at0, _, rfl, _, _, rfl, rfl, ?_⟩
        replace mem2 : ∀ k, Hear ((qs.take (i + 1)).map (·.2)) false n a b k ↔ Hear ((qs.take i).map (·.2)) false n a b k ∨ (i1 = b ∧ 0 ≤ a + d1 ∧ a + d1 < n ∧ k = [a + d1, j1]) := mem2
        dsimp only
        generalize a + d1 = fv at mem2 ⊢
      case' true =>
        refine iteT ⟨_, rfl, sp, _, 0, .int a, rfl, rfl, sp1, at0, _, rfl, _, _, rfl, rfl, .inl ⟨_, rfl, _, rfl, _, _, rfl, rfl, by omega, ?_⟩⟩
        replace mem2 : ∀ k, Hear ((qs.take (i + 1)).map (·.2)) true n a b k ↔ Hear ((qs.take i).map (·.2)) true n a b k ∨ (i1 = b ∧ 0 ≤ (a + d1).fmod n ∧ (a + d1).fmod n < n ∧ k = [(a + d1).fmod n, j1]) := mem2
        dsimp only
        generalize (a + d1).fmod n = fv at mem2 ⊢
      all_goals
        refine ⟨_, rfl, _, rfl, sp, _, 1, .int b, rfl, rfl, sp1, at1, rfl, _, rfl, ?_⟩
        have stay : (∀ k, ¬ (i1 = b ∧ 0 ≤ fv ∧ fv < n ∧ k = [fv, j1])) → ∀ k, k ∈ L.map (·.2) ↔ Hear ((qs.take (i + 1)).map (·.2)) _ n a b k := fun no k => by
          rw [mem k, mem2 k]
          exact ⟨.inl, fun z => z.resolve_right (no k)⟩
        show if decide (V.int i1 = V.int b) = true then _ else _
        by_cases ib : i1 = b
        · rw [decide_eq_true (by rw [ib])]
          refine iteT ⟨_, rfl, _, _, rfl, rfl, _, rfl, ?_⟩
          by_cases f0 : 0 ≤ fv
          · rw [decide_eq_true f0]
            refine iteT ⟨_, rfl, _, _, rfl, rfl, _, rfl, ?_⟩
            show if decide (fv < n) = true then _ else _
            by_cases fn : fv < n
            · rw [decide_eq_true fn]
              refine iteT ⟨_, rfl, .inl ⟨rfl, _, SqL.of hs⟩, _, rfl, .inl ⟨_, rfl, _, rfl, (by show 2 ≤ sizeLine; decide), fun u nu => ?_⟩⟩
              have su : ∀ c o, H' c = some o → (upd H' u (.tup [V.int fv, V.int j1])) c = some o := fun c o e => by
                rw [upd_ne (ne_of_none e nu)]
                exact e
              refine ⟨sA, _, _, rfl, rfl, su _ _ hs, ?_, ?_⟩
              · rw [List.length_map]
                exact small1000 (by omega)
              refine ⟨L ++ [(u, [fv, j1])], _, _, _, _, rfl, ?_, fun c o e => ?_, fun q hq => ?_, fun k => ?_, ?_⟩
              · rw [upd_same, List.map_append]
                rfl
              · rw [upd_ne (ne_of_none e ns)]
                exact su c o (sm c o e)
              · rcases List.mem_append.mp hq with e | e
                · have y := tps q e
                  rw [upd_ne (ne_of y hs (by intro z; cases z))]
                  exact su _ _ y
                · rw [List.mem_singleton.mp e]
                  show (upd (upd H' u _) sA _) u = _
                  rw [upd_ne (Ne.symm (ne_of_none hs nu)), upd_same]
                  rfl
              · rw [List.map_append, List.mem_append, mem k, mem2 k]
                exact ⟨fun z => z.imp id fun e => ⟨ib, f0, fn, List.mem_singleton.mp e⟩, fun z => z.imp id fun e => List.mem_singleton.mpr e.2.2.2⟩
              · rw [List.length_append]
                show L.length + 1 ≤ _
                omega
            · rw [decide_eq_false fn]
              exact iteF ⟨L, _, _, _, _, rfl, hs, sm, tps, stay fun k z => fn z.2.2.1, by omega⟩
          · rw [decide_eq_false f0]
            exact iteF ⟨_, rfl, iteF ⟨L, _, _, _, _, rfl, hs, sm, tps, stay fun k z => f0 z.2.1, by omega⟩⟩
        · rw [decide_eq_false (fun z => ib (by injection z))]
          exact iteF ⟨L, _, _, _, _, rfl, hs, sm, tps, stay fun k z => ib z.1, by omega⟩
    · rintro σ H' ⟨L, v7, v8, v9, v10, rfl, hs, sm, tps, mem, len⟩
      rw [List.length_map, List.take_length] at mem
      rw [List.length_map] at len
      refine ⟨_, rfl, sA, L, rfl, SqL.of hs, fun q hq => SqT.of (tps q hq), by omega, fun c L2 nc i1 i2 => ?_⟩
      have kc : ∀ d o, H' d = some o → (upd H' c (SetTO P w c L2)) d = some o := fun d o e => by
        rw [upd_ne (ne_of_none e nc)]
        exact e
      have mm : ∀ k, k ∈ L2.map (·.2) ↔ k ∈ L.map (·.2) := fun k => by
        constructor
        · intro h
          obtain ⟨q, hq, e⟩ := List.mem_map.mp h
          exact List.mem_map.mpr ⟨q, i1 q hq, e⟩
        · intro h
          obtain ⟨q, hq, e⟩ := List.mem_map.mp h
          rw [← e]
          exact i2 q hq
      refine ⟨c, L2, 2, n + 2, rfl, upd_same, fun q hq => SqT.of (kc _ _ (tps q (i1 q hq))), by decide, fun k hk => ?_, fun L' u pm nd few2 pw nu => ?_⟩
      · obtain ⟨j1, d1, m, x, y, e⟩ := (mem k.2).mp (List.mem_map.mpr ⟨k, i1 k hk, rfl⟩)
        obtain ⟨r, hr, e2⟩ := List.mem_map.mp m
        obtain ⟨i2, j2, d2, el, b1, b2, b3, b4, b5, b6⟩ := lk r hr
        have e2 : r.2 = [b, j1, d1] := e2
        rw [el] at e2
        injection e2 with e3 e2
        injection e2 with e4 e2
        subst e4
        rw [e]
        refine ⟨rfl, fun z hz => ?_⟩
        rcases List.mem_cons.mp hz with h | h
        · rw [h]
          omega
        · rw [List.mem_singleton.mp h]
          omega
      · have keep : ∀ d o, H' d = some o → (upd (upd H' c (SetTO P w c L2)) u (.lst (L'.map fun q => V.ref q.1))) d = some o := fun d o e => by
          rw [upd_ne (ne_of_none (kc d o e) nu)]
          exact kc d o e
        refine q L' u _ ⟨nd, List.pairwise_map.mpr pw, fun k => ?_, by rw [List.length_map] <;> exact few2⟩ (fun c o e => keep c o (sm c o e)) ?_ upd_same fun q hq => keep _ _ (tps q (i1 q (pm.mem_iff.mp hq)))
        · rw [← mem k, ← mm k]
          exact (pm.map _).mem_iff
        · cases e : H u with
          | none => rfl
          | some o =>
            have nu2 : (upd H' c (SetTO P w c L2)) u = none := nu
            rw [kc u o (sm u o e)] at nu2
            cases nu2
end
end Kx
/-! Drawn plans. -/
namespace Kx
open PySem PySem.Spec PyProof.Rows L2 Xa Xb Xc Xd Xs Xp Xm Xl Xq Ya Yb Yc Yd Ye Yf
theorem lc_yes2 {A B : Hp → Prop} {σ : L2.St} {H : Hp} (h : A H) : tYes σ H (fun b H3 => if b = true then A H3 else B H3) := by
  show if true = true then A H else B H
  rw [if_pos rfl]
  exact h
theorem lc_if {A B : Prop} {b : Bool} (h : b = true → A) (h' : b = false → B) : (if b = true then A else B) := by
  cases b with
  | true =>
    rw [if_pos rfl]
    exact h rfl
  | false =>
    rw [if_neg Bool.false_ne_true]
    exact h' rfl
theorem more_same {H0 H : Hp} {D : Addr} {o : HO} (sm : Same H0 H) (nD : H0 D = none) : Same H0 (upd H D o) := fun c o' e => by
  rw [upd_ne (ne_of_none e nD)]
  exact sm c o' e
section
variable {P : Program} {w : World} {K : PySem.W.Frag} {mg : Str → Option Value} {base : Heap} {f : Addr} {fd : FuncData}
/-- all that was tracked stands, but at g -/
def ButG (g : Addr) (H H' : Hp) : Prop := ∀ c o, H c = some o → c ≠ g → H' c = some o
/-- a piece of a plan -/
def Pc (pl : Nat) (l : List Int) : Prop := l.Pairwise (· < ·) ∧ ∀ z ∈ l, 0 ≤ z ∧ z < pl
end
end Kx
/-! Own ground: what a text tells, sign by sign from the left. -/
namespace Yi
open PySem PySem.Spec PyProof.Rows L2 Ya Ye Yh
def isB (c : Nat) : Bool := c == 32 || c == 10
abbrev StW := List (List Nat) × List Nat
def finW (s : StW) : List (List Nat) := if s.2 = [] then s.1 else s.1 ++ [s.2]
def stepW (s : StW) (c : Nat) : StW := if isB c = true then (finW s, []) else (s.1, s.2 ++ [c])
def step32 (s : StW) (c : Nat) : StW := if (c == 32) = true then (finW s, []) else (s.1, s.2 ++ [c])
def nl (c : Nat) : Nat := if c = 10 then 32 else c
theorem join_cons2 (g p q : Str) (r : List Str) : sg (Str.join g (p :: q :: r)) = sg p ++ sg g ++ sg (Str.join g (q :: r)) := by
  show sg (p ++ g ++ Str.join g (q :: r)) = _
  rw [sg_append, sg_append]
theorem map_nl {l : List Nat} (h : 10 ∉ l) : l.map nl = l := by
  induction l with
  | nil => rfl
  | cons c l ih =>
    rw [List.map_cons, ih fun z => h (List.mem_cons_of_mem _ z), nl, if_neg fun z => h (by rw [z]; exact List.mem_cons_self)]
theorem join_nl : ∀ ps : List Str, (∀ p ∈ ps, 10 ∉ sg p) → sg (Str.join ⟨#[32]⟩ ps) = (sg (Str.join ⟨#[10]⟩ ps)).map nl
  | [], _ => rfl
  | [p], h => (map_nl (h p List.mem_cons_self)).symm
  | p :: q :: r, h => by
    rw [join_cons2, join_cons2, List.map_append, List.map_append, map_nl (h p List.mem_cons_self), join_nl (q :: r) fun s hs => h s (List.mem_cons_of_mem _ hs)]
    rfl
theorem flat_map (z : Str) : sg (flat z) = (sg z).map nl := by
  have h := join_nl (Txt.split z ⟨#[10]⟩) fun p hp => StrLaws.split_free z 10 p hp
  rw [StrLaws.join_split] at h
  rw [flat_eq]
  exact h
theorem step_nl (s : StW) (c : Nat) : step32 s (nl c) = stepW s c := by
  unfold step32 stepW isB nl
  by_cases h : c = 10
  · rw [if_pos h, h]
    rfl
  · rw [if_neg h]
    have : (c == 10) = false := by simpa using h
    rw [this, Bool.or_false]
theorem fold_nl (l : List Nat) : ∀ s : StW, (l.map nl).foldl step32 s = l.foldl stepW s := by
  induction l with
  | nil => exact fun s => rfl
  | cons c l ih =>
    intro s
    rw [List.map_cons, List.foldl_cons, List.foldl_cons, step_nl, ih]
theorem fold_word {p : List Nat} (h : 32 ∉ p) : ∀ s : StW, p.foldl step32 s = (s.1, s.2 ++ p) := by
  induction p with
  | nil => exact fun s => by simp
  | cons c p ih =>
    intro s
    have hc : (c == 32) = false := by
      have : c ≠ 32 := fun z => h (by rw [z]; exact List.mem_cons_self)
      simpa using this
    rw [List.foldl_cons, ih fun z => h (List.mem_cons_of_mem _ z)]
    unfold step32
    rw [hc, if_neg Bool.false_ne_true]
    simp
theorem full_iff (w : Str) : full w = true ↔ sg w ≠ [] := by
  unfold full
  constructor
  · intro h e
    have : w = Str.empty := by
      obtain ⟨a⟩ := w
      have e : a.toList = [] := e
      show Str.mk a = Str.mk #[]
      rw [Array.toList_eq_nil_iff.mp e]
    rw [this] at h
    simp at h
  · intro h
    have : w ≠ Str.empty := fun z => h (by rw [z]; rfl)
    rw [decide_eq_false this]
    rfl
theorem fold_parts : ∀ (ps : List Str), (∀ p ∈ ps, 32 ∉ sg p) → ∀ (p : Str), 32 ∉ sg p → ∀ s : StW, finW ((sg (Str.join ⟨#[32]⟩ (p :: ps))).foldl step32 s) = finW (s.1, s.2 ++ sg p) ++ (ps.filter full).map sg
  | [], _, p, hp, s => by
    show finW ((sg p).foldl step32 s) = _
    rw [fold_word hp]
    simp
  | q :: r, h, p, hp, s => by
    rw [join_cons2, List.foldl_append, List.foldl_append, fold_word hp]
    have e : (sg (⟨#[32]⟩ : Str)).foldl step32 (s.1, s.2 ++ sg p) = (finW (s.1, s.2 ++ sg p), []) := rfl
    rw [e, fold_parts r (fun x hx => h x (List.mem_cons_of_mem _ hx)) q (h q List.mem_cons_self)]
    show finW (finW (s.1, s.2 ++ sg p), [] ++ sg q) ++ _ = _
    rw [List.nil_append]
    by_cases c : sg q = []
    · have nf : ¬ full q = true := fun z => (full_iff q).mp z c
      rw [List.filter_cons_of_neg nf]
      show (if sg q = [] then finW (s.1, s.2 ++ sg p) else _) ++ _ = _
      rw [if_pos c]
    · have nf : full q = true := (full_iff q).mpr c
      rw [List.filter_cons_of_pos nf]
      show (if sg q = [] then _ else finW (s.1, s.2 ++ sg p) ++ [sg q]) ++ _ = _
      rw [if_neg c, List.map_cons, List.append_assoc]
      rfl
theorem wds_fold (z : Str) : (wdsOf z).map sg = finW ((sg z).foldl stepW ([], [])) := by
  rw [← fold_nl, ← flat_map, ← StrLaws.join_split (flat z) ⟨#[32]⟩]
  have free : ∀ p ∈ Txt.split (flat z) ⟨#[32]⟩, 32 ∉ sg p := fun p hp => StrLaws.split_free (flat z) 32 p hp
  show ((Txt.split (flat z) ⟨#[32]⟩).filter full).map sg = _
  have pos : 1 ≤ (Txt.split (flat z) ⟨#[32]⟩).length := PyProof.Rows.split_pos _ _
  generalize Txt.split (flat z) ⟨#[32]⟩ = ps at free pos ⊢
  cases ps with
  | nil => cases pos
  | cons p ps =>
    rw [fold_parts ps (fun x hx => free x (List.mem_cons_of_mem _ hx)) p (free p List.mem_cons_self)]
    show _ = (if [] ++ sg p = [] then [] else [] ++ [[] ++ sg p]) ++ _
    rw [List.nil_append, List.nil_append]
    by_cases c : sg p = []
    · rw [if_pos c, List.filter_cons_of_neg (fun z => (full_iff p).mp z c)]
      rfl
    · rw [if_neg c, List.filter_cons_of_pos ((full_iff p).mpr c)]
      rfl
/-! ### what is told so far -/
def runLn (pl : Nat) (w : List Nat) : List (List Int) := runU pl w (w.length / pl)
def okL (pl : Nat) (w : List Nat) : Prop := w.length % pl = 0 ∧ ∀ c ∈ w, isS c = true
structure Good (pl : Nat) (s : StW) (acc : List (List Int)) : Prop where
  done : ∀ w ∈ s.1, okL pl w
  cur : okL pl s.2
  val : (s.1.flatMap (runLn pl)) ++ runLn pl s.2 = acc
def Told (pl : Nat) (z : List Nat) (acc : List (List Int)) : Prop := Good pl (z.foldl stepW ([], [])) acc
theorem runLn_nil (pl : Nat) : runLn pl [] = [] := by
  show runU pl [] (0 / pl) = []
  rw [Nat.zero_div]
  rfl
theorem told_nil (pl : Nat) : Told pl [] [] := by
  have h0 : okL pl [] := ⟨Nat.zero_mod pl, fun c h => nomatch h⟩
  refine ⟨fun w (h : w ∈ []) => (nomatch h), h0, ?_⟩
  show [] ++ runLn pl [] = []
  rw [runLn_nil]
  rfl
theorem good_fin {pl : Nat} {s : StW} {acc : List (List Int)} (g : Good pl s acc) : Good pl (finW s, []) acc := by
  obtain ⟨d, c, v⟩ := g
  refine ⟨fun w hw => ?_, ⟨Nat.zero_mod pl, fun c h => nomatch h⟩, ?_⟩
  · have hw : w ∈ finW s := hw
    unfold finW at hw
    split at hw
    · exact d w hw
    · rcases List.mem_append.mp hw with h | h
      · exact d w h
      · rw [List.mem_singleton.mp h]
        exact c
  · show (finW s).flatMap (runLn pl) ++ runLn pl [] = acc
    rw [runLn_nil, List.append_nil, ← v]
    unfold finW
    split
    · rename_i e
      rw [e, runLn_nil, List.append_nil]
    · rw [List.flatMap_append]
      show _ ++ (runLn pl s.2 ++ []) = _
      rw [List.append_nil]
theorem told_blank {pl : Nat} {z b : List Nat} {acc : List (List Int)} (t : Told pl z acc) (hb : ∀ c ∈ b, isB c = true) : Told pl (z ++ b) acc := by
  unfold Told at t ⊢
  rw [List.foldl_append]
  generalize z.foldl stepW ([], []) = s at t
  clear z
  induction b generalizing s with
  | nil => exact t
  | cons c b ih =>
    rw [List.foldl_cons]
    refine ih (fun x hx => hb x (List.mem_cons_of_mem _ hx)) (stepW s c) ?_
    unfold stepW
    rw [if_pos (hb c List.mem_cons_self)]
    exact good_fin t
theorem runU_congr {pl : Nat} {w u : List Nat} : ∀ {n : Nat}, n * pl ≤ w.length → runU pl (w ++ u) n = runU pl w n
  | 0, _ => rfl
  | n + 1, h => by
    have h2 : n * pl + pl ≤ w.length := by rw [Nat.add_mul, Nat.one_mul] at h; exact h
    show runU pl (w ++ u) n ++ [piece pl (w ++ u) (n * pl)] = runU pl w n ++ [piece pl w (n * pl)]
    rw [runU_congr (by omega)]
    congr 2
    refine pcN_congr fun k hk => ?_
    show ((w ++ u)[n * pl + k]?).any isO = (w[n * pl + k]?).any isO
    rw [List.getElem?_append_left (by omega)]
theorem run_more {pl : Nat} {w u : List Nat} (hp : 1 ≤ pl) (hw : w.length % pl = 0) (hu : u.length = pl) : runLn pl (w ++ u) = runLn pl w ++ [piece pl u 0] := by
  have e : (w ++ u).length / pl = w.length / pl + 1 := by
    rw [List.length_append, hu, Nat.add_div_right _ hp]
  have ew : w.length / pl * pl = w.length := Nat.div_mul_cancel (Nat.dvd_of_mod_eq_zero hw)
  unfold runLn
  rw [e]
  show runU pl (w ++ u) (w.length / pl) ++ [piece pl (w ++ u) (w.length / pl * pl)] = _
  rw [runU_congr (by rw [ew]; exact Nat.le_refl _), ew]
  congr 2
  refine pcN_congr fun k hk => ?_
  show ((w ++ u)[w.length + k]?).any isO = (u[0 + k]?).any isO
  rw [List.getElem?_append_right (by omega)]
  congr 2
  omega
theorem isS_notB {c : Nat} (h : isS c = true) : isB c = false := by
  obtain ⟨a, b⟩ := isS_ne h
  unfold isB
  simp [a, b]
theorem fold_signs {u : List Nat} (h : ∀ c ∈ u, isS c = true) : ∀ s : StW, u.foldl stepW s = (s.1, s.2 ++ u) := by
  induction u with
  | nil => exact fun s => by simp
  | cons c u ih =>
    intro s
    rw [List.foldl_cons, ih fun x hx => h x (List.mem_cons_of_mem _ hx)]
    unfold stepW
    rw [if_neg (by rw [isS_notB (h c List.mem_cons_self)]; exact Bool.false_ne_true)]
    simp
theorem told_piece {pl : Nat} {z u : List Nat} {acc : List (List Int)} (hp : 1 ≤ pl) (t : Told pl z acc) (hs : ∀ c ∈ u, isS c = true) (hu : u.length = pl) : Told pl (z ++ u) (acc ++ [piece pl u 0]) := by
  unfold Told at t ⊢
  rw [List.foldl_append]
  generalize z.foldl stepW ([], []) = s at t
  rw [fold_signs hs]
  obtain ⟨d, c, v⟩ := t
  refine ⟨d, ⟨?_, ?_⟩, ?_⟩
  · show (s.2 ++ u).length % pl = 0
    rw [List.length_append, hu, Nat.add_mod_right]
    exact c.1
  · intro x hx
    rcases List.mem_append.mp hx with h | h
    · exact c.2 x h
    · exact hs x h
  · show s.1.flatMap (runLn pl) ++ runLn pl (s.2 ++ u) = _
    rw [run_more hp c.1 hu, ← List.append_assoc, v]
/-- what a whole text tells -/
theorem due_told {pl : Nat} {z : Str} {acc : List (List Int)} (hp : 1 ≤ pl) (t : Told pl (sg z) acc) (ne : acc ≠ []) : dueOf z pl = some acc := by
  have g := good_fin t
  have e := wds_fold z
  obtain ⟨d, _, v⟩ := g
  have d : ∀ w ∈ finW ((sg z).foldl stepW ([], [])), okL pl w := d
  have v : (finW ((sg z).foldl stepW ([], []))).flatMap (runLn pl) ++ runLn pl [] = acc := v
  rw [runLn_nil, List.append_nil] at v
  rw [← e] at d v
  have va : allP pl (wdsOf z) = acc := by
    rw [← v, List.flatMap_map]
    unfold allP
    congr 1
  unfold dueOf
  rw [if_pos, va]
  refine ⟨fun z0 => ne ?_, fun w hw => ?_⟩
  · rw [← va, z0]
    rfl
  · obtain ⟨a, b⟩ := d (sg w) (List.mem_map.mpr ⟨w, hw, rfl⟩)
    rw [len_sg] at a
    rw [okW, decide_eq_true a, Bool.true_and]
    exact List.all_eq_true.mpr b
end Yi
/-! The program's plans: pieces, and lists of them. -/
namespace Kx
open PySem PySem.Spec PyProof.Rows L2 Xa Xb Xc Xd Xs Xp Xm Xr Xl Xq Ya Yb Yc Yd Ye Yf Yg Yh Yi
abbrev sIsPiece : Stmt := top 31
abbrev sArePieces : Stmt := top 32
abbrev sAscends : Stmt := top 33
/-- built-ins besides -/
structure Bi3 (mg : Str → Option Value) : Prop extends Bi2 mg where
  str : mg "str" = none
  all : mg "all" = none
  enum : mg "enumerate" = none
  zip : mg "zip" = none
/-! ### what pieces are -/
def asc : List Int → Bool
  | [] => true
  | [_] => true
  | x :: y :: r => decide (x < y) && asc (y :: r)
def intsO : List (Option Int) → List Int
  | [] => []
  | some i :: r => i :: intsO r
  | none :: r => intsO r
inductive Nums (K : PySem.W.Frag) (H : Hp) : List V → List (Option Int) → Prop
  | nil : Nums K H [] []
  | cons {v : V} {o : Option Int} {vs : List V} {os : List (Option Int)} (h : Num K H v o) (t : Nums K H vs os) : Nums K H (v :: vs) (o :: os)
def pceB (pl : Nat) (os : List (Option Int)) : Bool := os.all (fun o => Xp.inR o 0 ((pl : Int) - 1)) && asc (intsO os)
inductive Pce (K : PySem.W.Frag) (H : Hp) (pl : Nat) : V → Bool → Prop
  | kind {v : V} (h : IsK K H v "list" false) : Pce K H pl v false
  | lst {a : Addr} {xs : List V} {os : List (Option Int)} (h : H a = some (.lst xs)) (hn : Nums K H xs os) (few : xs.length ≤ 100) : Pce K H pl (.ref a) (pceB pl os)
inductive Pces (K : PySem.W.Frag) (H : Hp) (pl : Nat) : List V → List Bool → Prop
  | nil : Pces K H pl [] []
  | cons {v : V} {b : Bool} {vs : List V} {bs : List Bool} (h : Pce K H pl v b) (t : Pces K H pl vs bs) : Pces K H pl (v :: vs) (b :: bs)
inductive Pcs (K : PySem.W.Frag) (H : Hp) (pl : Nat) : V → Bool → Prop
  | kind {v : V} (h : IsK K H v "list" false) : Pcs K H pl v false
  | lst {a : Addr} {xs : List V} {bs : List Bool} (h : H a = some (.lst xs)) (hp : Pces K H pl xs bs) (few : xs.length ≤ 1000) : Pcs K H pl (.ref a) (bs.all id)
section
variable {K : PySem.W.Frag} {H H' : Hp}
theorem num_same (e : Same H H') {v : V} {o : Option Int} : Num K H v o → Num K H' v o
  | .is i => .is i
  | .no ⟨T, b1, b2, k, e1, e2, e3⟩ => .no ⟨T, b1, b2, ty_same e k, e1, e2, e3⟩
theorem nums_same (e : Same H H') : ∀ {vs : List V} {os : List (Option Int)}, Nums K H vs os → Nums K H' vs os
  | _, _, .nil => .nil
  | _, _, .cons h t => .cons (num_same e h) (nums_same e t)
theorem pce_same (e : Same H H') {pl : Nat} {v : V} {b : Bool} : Pce K H pl v b → Pce K H' pl v b
  | .kind h => .kind (isk_same e h)
  | .lst h hn few => .lst (e _ _ h) (nums_same e hn) few
theorem pces_same (e : Same H H') {pl : Nat} : ∀ {vs : List V} {bs : List Bool}, Pces K H pl vs bs → Pces K H' pl vs bs
  | _, _, .nil => .nil
  | _, _, .cons h t => .cons (pce_same e h) (pces_same e t)
theorem pcs_same (e : Same H H') {pl : Nat} {v : V} {b : Bool} : Pcs K H pl v b → Pcs K H' pl v b
  | .kind h => .kind (isk_same e h)
  | .lst h hp few => .lst (e _ _ h) (pces_same e hp) few
theorem nums_get : ∀ {vs : List V} {os : List (Option Int)}, Nums K H vs os → ∀ {i : Nat} {v : V}, vs[i]? = some v → ∃ o, os[i]? = some o ∧ Num K H v o
  | _, _, .nil, i, v, h => by simp at h
  | _, _, .cons h t, 0, v, e => ⟨_, rfl, by have e : _ = _ := Option.some.inj e; rw [← e]; exact h⟩
  | _, _, .cons h t, i + 1, v, e => nums_get t (by simpa using e)
theorem pces_get {pl : Nat} : ∀ {vs : List V} {bs : List Bool}, Pces K H pl vs bs → ∀ {i : Nat} {v : V}, vs[i]? = some v → ∃ b, bs[i]? = some b ∧ Pce K H pl v b
  | _, _, .nil, i, v, h => by simp at h
  | _, _, .cons h t, 0, v, e => ⟨_, rfl, by have e : _ = _ := Option.some.inj e; rw [← e]; exact h⟩
  | _, _, .cons h t, i + 1, v, e => pces_get t (by simpa using e)
theorem nums_len : ∀ {vs : List V} {os : List (Option Int)}, Nums K H vs os → os.length = vs.length
  | _, _, .nil => rfl
  | _, _, .cons h t => congrArg Nat.succ (nums_len t)
theorem pces_len {pl : Nat} : ∀ {vs : List V} {bs : List Bool}, Pces K H pl vs bs → bs.length = vs.length
  | _, _, .nil => rfl
  | _, _, .cons h t => congrArg Nat.succ (pces_len t)
theorem nums_ints {lo hi : Int} : ∀ {vs : List V} {os : List (Option Int)}, Nums K H vs os → os.all (fun o => Xp.inR o lo hi) = true → vs = (intsO os).map V.int
  | _, _, .nil, _ => rfl
  | _, _, .cons (.is i) t, e => by
    simp only [List.all_cons, Bool.and_eq_true] at e
    show V.int i :: _ = V.int i :: _
    rw [← nums_ints t e.2]
  | _, _, .cons (.no h) t, e => by
    simp only [List.all_cons, Bool.and_eq_true] at e
    cases e.1
end
/-- the comparisons of neighbours -/
def asc2 (l : List Int) (i : Nat) : Bool := match l[i]?, l[i + 1]? with
  | some x, some y => decide (x < y)
  | _, _ => true
theorem asc_all : ∀ l : List Int, asc l = ((List.range (l.length - 1)).map (asc2 l)).all id
  | [] => rfl
  | [_] => rfl
  | x :: y :: r => by
    have e : (x :: y :: r).length - 1 = (y :: r).length - 1 + 1 := by simp
    rw [e, List.range_succ_eq_map, List.map_cons, List.all_cons]
    show (decide (x < y) && asc (y :: r)) = _
    rw [asc_all (y :: r), List.map_map]
    rfl
theorem cut1 (xs : List V) : cutV xs (some 1) none = xs.drop 1 := by
  unfold cutV HT.sIx
  cases xs with
  | nil => simp
  | cons x xs => simp
section
variable {P : Program} {w : World} {K : PySem.W.Frag} {mg : Str → Option Value} {base : Heap} {f : Addr} {fd : FuncData}
def spAscends : Sp := fun xs H Q _ => ∃ (a : Addr) (l : List Int), xs = [.ref a] ∧ H a = some (.lst (l.map V.int)) ∧ l.length ≤ 100 ∧ ∀ H', Same H H' → Q (.bl (asc l)) H'
theorem scAscends : FnScope ["values", "one", "other"] ["values"] (defScope sAscends) := ⟨rfl, rfl, rfl, by decide +kernel, rfl, by decide +kernel, by decide +kernel⟩
theorem can_ascends (D : Dfn K mg "ascends" sAscends) (B : Bi3 mg) : Can P w K mg base CX0 1 "ascends" ["values"] spAscends := by
  obtain ⟨f, fd, F, g⟩ := D.at_
  refine FnOk.can (F.ok scAscends (fun xs H Q E h => ?_) (fun cdv A outer s H vs Q E hr h => ?_)) F g fun _ _ _ _ _ _ us hl => match us, hl with | [_], _ => rfl
  · obtain ⟨a, l, rfl, _⟩ := h
    rfl
  · obtain ⟨a, l, rfl, ha, hl, q⟩ := h
    refine ⟨_, PSs.nox (pss_one (ps_ret (pe_bi (cr_all rfl) B.all (pa1 (pe_lc (own := [("one", 1), ("other", 2)]) (g := gTup K 2 (gCons (gName 1) (gCons (gName 2) gNil))) (tt := tYes) rfl scAscends.nd (pi_zip (by rfl) B.zip (pa_cons (pv 0) (pa1 (pe_slice sl_list (pv 0) (po_some pe_int) po_none)))) (blkOk_by (own := [("one", 1), ("other", 2)]) (N := ["values", "one", "other"]) (sc := defScope sAscends) (by decide +kernel))
      (fun _ _ _ _ _ => pg_tup (by rfl) (pgs_cons (pg_name (i := 1) scAscends.nd rfl (Or.inl rfl)) (pgs_cons (pg_name (i := 2) scAscends.nd rfl (Or.inl rfl)) pgs_nil))) (fun _ _ _ _ _ => pts_nil) (fun _ _ _ _ _ => pe_cmpR op_lt (pv 1) (pv 2) (nomark _))))))), ?_⟩
    refine ⟨_, rfl, _, rfl, 1, rfl, a, _, rfl, SqL.of ha, fun b nb => ?_⟩
    rw [cut1]
    have s1 := upd_same_as (o := .lst ((l.map V.int).drop 1)) nb
    refine ⟨a, b, _, _, rfl, SqL.of (s1 _ _ ha), SqL.of upd_same, fun D nD => ?_⟩
    have hb : (upd H b (.lst ((l.map V.int).drop 1))) b = some (.lst ((l.map V.int).drop 1)) := upd_same
    have ha1 := s1 _ _ ha
    generalize upd H b (.lst ((l.map V.int).drop 1)) = H1 at s1 hb ha1 nD ⊢
    refine lc_it (walk_zip (K := K) (a := a) (b := b) (xs := l.map V.int) (ys := (l.map V.int).drop 1) (n := l.length - 1) (by rw [List.length_drop, List.length_map]; omega)) (fun i H' => H' D = some (.lst (((List.range i).map (asc2 l)).map V.bl)) ∧ Same H1 H') ⟨upd_same, upd_same_as nD⟩ (fun i H' _ ⟨_, s⟩ => ⟨SqL.of (s _ _ ha1), SqL.of (s _ _ hb)⟩) ?_ ?_
    · rintro i x H' H2 hi ⟨hd, sm⟩ ⟨T, vx, vy, rfl, nT, rfl, hx, hy⟩
      have hx : (l.map V.int)[i]? = some vx := hx
      have hy : ((l.map V.int).drop 1)[i]? = some vy := hy
      rw [List.getElem?_map] at hx
      rw [List.getElem?_drop, List.getElem?_map] at hy
      have i1 : i < l.length := by omega
      have i2 : 1 + i < l.length := by omega
      have e1 : l[i]? = some l[i] := List.getElem?_eq_getElem i1
      have e2 : l[1 + i]? = some l[1 + i] := List.getElem?_eq_getElem i2
      rw [e1] at hx
      rw [e2] at hy
      have hx : V.int l[i] = vx := Option.some.inj hx
      have hy : V.int l[1 + i] = vy := Option.some.inj hy
      subst hx hy
      have hd2 : (upd H' T (.tup [.int l[i], .int l[1 + i]])) D = some (.lst (((List.range i).map (asc2 l)).map V.bl)) := by
        rw [upd_ne (ne_of_none hd nT)]
        exact hd
      refine ⟨T, _, rfl, SqT.of upd_same, rfl, .int l[i], _, rfl, .int l[1 + i], _, rfl, rfl, rfl, lc_yes2 ?_⟩
      refine ⟨_, rfl, _, rfl, _, _, rfl, rfl, _, hd2, ?_, ?_, more_same (more_same sm (sm.free nT)) nD⟩
      · rw [List.length_map, List.length_map, List.length_range, sizeLine_eq]
        omega
      · have ea : asc2 l i = decide (l[i] < l[1 + i]) := by
          unfold asc2
          rw [e1, show i + 1 = 1 + i by omega, e2]
        rw [upd_same, List.range_succ, List.map_append, List.map_append]
        show some (HO.lst (_ ++ [V.bl (decide (l[i] < l[1 + i]))])) = some (HO.lst (_ ++ [V.bl (asc2 l i)]))
        rw [ea]
    · rintro H' ⟨hd, sm⟩
      refine ⟨D, (List.range (l.length - 1)).map (asc2 l), rfl, SqL.of hd, ?_⟩
      rw [← asc_all]
      exact q H' (s1.trans sm)
/-! ### is_piece, are_pieces -/
def spIsPiece (K : PySem.W.Frag) : Sp := fun xs H Q _ => ∃ v b, ∃ pl : Nat, xs = [v, .int pl] ∧ Pce K H pl v b ∧ ∀ H', Same H H' → Q (.bl b) H'
theorem scIsPiece : FnScope ["value", "places", "place"] ["value", "places"] (defScope sIsPiece) := ⟨rfl, rfl, rfl, by decide +kernel, rfl, by decide +kernel, by decide +kernel⟩
theorem can_ispiece (D : Dfn K mg "is_piece" sIsPiece) (B : Bi3 mg) (cB : Can P w K mg base CX0 2 "is_between" ["value", "low", "high"] (spBetween K)) (cA : Can P w K mg base CX0 1 "ascends" ["values"] spAscends) : Can P w K mg base CX0 3 "is_piece" ["value", "places"] (spIsPiece K) := by
  obtain ⟨f, fd, F, g⟩ := D.at_
  refine FnOk.can (F.ok scIsPiece (fun xs H Q E h => ?_) (fun cdv A outer s H vs Q E hr h => ?_)) F g fun _ _ _ _ _ _ us hl => match us, hl with | [_, _], _ => rfl
  · obtain ⟨v, b, pl, rfl, _⟩ := h
    rfl
  · obtain ⟨v, b, pl, rfl, S, q⟩ := h
    refine ⟨_, PSs.nox (pss_cons (ps_if (pt_not (pt_val (pe_bi call_kd B.isi (pa_cons (pv 0) (pa1 (pe_tyv "list" B.list)))))) (pss_one (ps_ret pe_bl)) pss_nil)
      (pss_cons (ps_if (pt_not (pt_val (pe_bi (cr_all rfl) B.all (pa1 (pe_lc (own := [("place", 2)]) (g := gName 2) (tt := tYes) rfl scIsPiece.nd (pi_list (pv 0)) (blkOk_by (own := [("place", 2)]) (N := ["value", "places", "place"]) (sc := defScope sIsPiece) (by decide +kernel))
          (fun _ _ _ _ _ => pg_name (i := 2) scIsPiece.nd rfl (Or.inl rfl)) (fun _ _ _ _ _ => pts_nil) (fun _ _ _ _ _ => pe_can cB hr pass0 (pa_cons (pv 2) (pa_cons pe_int (pa1 (pe_op op_sub (pv 1) pe_int)))))))))) (pss_one (ps_ret pe_bl)) pss_nil)
      (pss_one (ps_ret (pe_can cA (hr.mono (by decide)) pass0 (pa1 (pv 0))))))), ?_⟩
    cases S with
    | kind h => exact ⟨_, rfl, v, "list", false, rfl, h, false, rfl, iteT (q H (Same.refl _))⟩
    | @lst a xs os h hn few =>
      refine ⟨_, rfl, _, "list", true, rfl, isk_lst h _ (by decide +kernel), true, rfl, iteF ?_⟩
      refine ⟨_, rfl, a, rfl, ⟨_, SqL.of h⟩, fun D nD => ?_⟩
      refine lc_list (K := K) (a := a) (xs := xs) (fun i H' => H' D = some (.lst ((os.take i).map fun o => V.bl (Xp.inR o 0 ((pl : Int) - 1)))) ∧ Same H H') ⟨upd_same, upd_same_as nD⟩ (fun i H' _ ⟨_, s⟩ => SqL.of (s _ _ h)) ?_ ?_
      · rintro i x H' hx ⟨hd, sm⟩
        obtain ⟨o, ho, no⟩ := nums_get hn hx
        have tk : os.take (i + 1) = os.take i ++ [o] := by rw [List.take_add_one, ho] <;> rfl
        have il := (List.getElem?_eq_some_iff.mp hx).1
        refine ⟨rfl, lc_yes2 ⟨_, rfl, _, rfl, _, _, rfl, rfl, x, o, 0, (pl : Int) - 1, rfl, num_same sm no, _, hd, ?_, ?_, more_same sm nD⟩⟩
        · rw [List.length_map, sizeLine_eq]
          have := List.length_take_le i os
          omega
        · rw [upd_same, tk, List.map_append]
          rfl
      · rintro H' ⟨hd, sm⟩
        rw [← nums_len hn, List.take_length] at hd
        refine ⟨D, os.map fun o => Xp.inR o 0 ((pl : Int) - 1), rfl, SqL.of (by rw [hd, List.map_map] <;> rfl), _, rfl, ?_⟩
        have ea : (os.map fun o => Xp.inR o 0 ((pl : Int) - 1)).all id = os.all fun o => Xp.inR o 0 ((pl : Int) - 1) := by
          rw [List.all_map]
          rfl
        rw [ea]
        cases e : os.all fun o => Xp.inR o 0 ((pl : Int) - 1) with
        | false =>
          have : pceB pl os = false := by rw [pceB, e, Bool.false_and]
          rw [this] at q
          exact iteT (q H' sm)
        | true =>
          have ex := nums_ints hn e
          refine iteF ⟨_, rfl, a, intsO os, rfl, by rw [← ex]; exact sm _ _ h, ?_, fun H2 s2 => ?_⟩
          · have := congrArg List.length ex
            rw [List.length_map] at this
            omega
          · have : pceB pl os = asc (intsO os) := by rw [pceB, e, Bool.true_and]
            rw [this] at q
            exact q H2 (sm.trans s2)
def spArePieces (K : PySem.W.Frag) : Sp := fun xs H Q _ => ∃ v b, ∃ pl : Nat, xs = [v, .int pl] ∧ Pcs K H pl v b ∧ ∀ H', Same H H' → Q (.bl b) H'
theorem scArePieces : FnScope ["value", "places", "piece"] ["value", "places"] (defScope sArePieces) := ⟨rfl, rfl, rfl, by decide +kernel, rfl, by decide +kernel, by decide +kernel⟩
theorem can_arepieces (D : Dfn K mg "are_pieces" sArePieces) (B : Bi3 mg) (cP : Can P w K mg base CX0 3 "is_piece" ["value", "places"] (spIsPiece K)) : Can P w K mg base CX0 4 "are_pieces" ["value", "places"] (spArePieces K) := by
  obtain ⟨f, fd, F, g⟩ := D.at_
  refine FnOk.can (F.ok scArePieces (fun xs H Q E h => ?_) (fun cdv A outer s H vs Q E hr h => ?_)) F g fun _ _ _ _ _ _ us hl => match us, hl with | [_, _], _ => rfl
  · obtain ⟨v, b, pl, rfl, _⟩ := h
    rfl
  · obtain ⟨v, b, pl, rfl, S, q⟩ := h
    refine ⟨_, PSs.nox (pss_one (ps_ret (pe_and (pe_bi call_kd B.isi (pa_cons (pv 0) (pa1 (pe_tyv "list" B.list)))) (pe_one (pe_bi (cr_all rfl) B.all (pa1 (pe_lc (own := [("piece", 2)]) (g := gName 2) (tt := tYes) rfl scArePieces.nd (pi_list (pv 0)) (blkOk_by (own := [("piece", 2)]) (N := ["value", "places", "piece"]) (sc := defScope sArePieces) (by decide +kernel))
          (fun _ _ _ _ _ => pg_name (i := 2) scArePieces.nd rfl (Or.inl rfl)) (fun _ _ _ _ _ => pts_nil) (fun _ _ _ _ _ => pe_can cP hr pass0 (pa_cons (pv 2) (pa1 (pv 1))))))))))), ?_⟩
    cases S with
    | kind h => exact ⟨_, rfl, v, "list", false, rfl, h, false, rfl, iteF (q H (Same.refl _))⟩
    | @lst a xs bs h hp few =>
      refine ⟨_, rfl, _, "list", true, rfl, isk_lst h _ (by decide +kernel), true, rfl, iteT ?_⟩
      refine ⟨_, rfl, a, rfl, ⟨_, SqL.of h⟩, fun D nD => ?_⟩
      refine lc_list (K := K) (a := a) (xs := xs) (fun i H' => H' D = some (.lst ((bs.take i).map V.bl)) ∧ Same H H') ⟨upd_same, upd_same_as nD⟩ (fun i H' _ ⟨_, s⟩ => SqL.of (s _ _ h)) ?_ ?_
      · rintro i x H' hx ⟨hd, sm⟩
        obtain ⟨o, ho, no⟩ := pces_get hp hx
        have tk : bs.take (i + 1) = bs.take i ++ [o] := by rw [List.take_add_one, ho] <;> rfl
        have il := (List.getElem?_eq_some_iff.mp hx).1
        refine ⟨rfl, lc_yes2 ⟨_, rfl, _, rfl, x, o, pl, rfl, pce_same sm no, fun H2 s2 => ⟨_, s2 _ _ hd, ?_, ?_, more_same (sm.trans s2) nD⟩⟩⟩
        · rw [List.length_map, sizeLine_eq]
          have := List.length_take_le i bs
          omega
        · rw [upd_same, tk, List.map_append]
          rfl
      · rintro H' ⟨hd, sm⟩
        rw [← pces_len hp, List.take_length] at hd
        exact ⟨D, bs, rfl, SqL.of hd, q H' sm⟩
end
end Kx
/-! Own ground, part YL: an own class called within a try. -/
namespace Yl
open PySem PySem.Spec PyProof.Rows L2 Xa Xb Xc Xp Xm
def tMakeS (C : Addr) (sp : Sp) (E : L2.St → XK) (t : TA) : TE := fun σ H Q => t σ H fun vs H1 => ∀ x dx, H1 x = none → H1 dx = none → dx ≠ x → sp (.ref x :: vs) (upd (upd H1 dx (.own x)) x (.ins C dx [])) (fun v H2 => v = .non ∧ Q (.ref x) H2) (E σ)
section
variable {X : Cx} {CX : CXT} {k : Nat} {f C : Addr} {fd : FuncData} {ps : List Str} {sp : Sp} {E : L2.St → XK} {x : Str} {p pos : Pos} {e : Expr} {es : List Expr} {t : TA}
theorem run_makeS {pins : List (Addr × Obj)} {σ : L2.St} {H : Hp} {s : Shared} {Q : VK} {us : List Value} {vs : List V} (M : Mk X.K C f) (F : FnOk X.prog X.w X.K X.mg X.base CX k f fd ps sp) (hr : Room (k + 1) X.A) (hb : Binds X.K fd ps [])
    (hx : PassesAt CX X σ (E σ)) (I : Inv X pins σ H s) (r : Vals vs us)
    (h : ∀ x dx, H x = none → H dx = none → dx ≠ x → sp (.ref x :: vs) (upd (upd H dx (.own x)) x (.ins C dx [])) (fun v H2 => v = .non ∧ Q (.ref x) H2) (E σ)) :
    wpAny (model X.prog X.w) X.A (call (.ref C) us) (EP X pins σ Q) X.xe s := by
  have hq := h (s.heap.objs.size + 1) s.heap.objs.size (I.hok.fresh (Nat.le_succ _)) (I.hok.fresh (Nat.le_refl _)) (Nat.ne_of_lt (Nat.lt_succ_self _))
  have I2 := Inv.made (C := C) I
  have r2 : Vals (V.ref (s.heap.objs.size + 1) :: vs) (Value.ref (s.heap.objs.size + 1) :: us) := .cons rfl r
  have hl : (Value.ref (s.heap.objs.size + 1) :: us).length = ps.length := by
    have e := r2.length
    rw [F.len _ _ _ _ hq] at e
    exact e.symm
  have b := hb { s with heap := _ } (Value.ref (s.heap.objs.size + 1) :: us) I2.kIn (by rw [List.append_nil]; exact hl)
  rw [List.append_nil] at b
  refine wpAny_call (make_map (f := f) I.kIn M.makes M.init (beq_iff_eq.mp M.fn) (codeAny_mono (F.run _ X.stack _ _ ⟨Value.ref (s.heap.objs.size + 1) :: us, []⟩ (Value.ref (s.heap.objs.size + 1) :: us) _ _ (E σ) (hr.make C us [])
    (I2.env0.make C us []) b r2 hq) fun r s' hq' => ?_))
  cases r with
  | error e => exact hx pins _ _ e s' I2 hq'
  | ok fl =>
    cases fl with
    | ret u =>
      obtain ⟨v, H', I3, rv, ev, q3⟩ := I2.after hq'
      subst ev
      exact ⟨rv, ⟨V.ref (s.heap.objs.size + 1), H', I3, rfl, q3⟩⟩
    | next => exact False.elim hq'
    | brk => exact False.elim hq'
    | cont => exact False.elim hq'
/-- C(e, ..), where what leaves is taken -/
theorem pe_makeS (M : Mk X.K C f) (F : FnOk X.prog X.w X.K X.mg X.base CX k f fd ps sp) (hr : Room (k + 1) X.A) (hg : Gl X x) (hm : X.mg x = some (.ref C)) (hb : Binds X.K fd ps []) (hx : ∀ σ, PassesAt CX X σ (E σ))
    (ha : PA X (e :: es) t) (hdb : (x == ("__debug__" : Str)) = false := by decide) (he : starEach (e :: es) X.env = (false, eval e X.env) :: starEach es X.env := by rfl) (hpl : (backTo pos (starEach es X.env)).any (·.1) = false := by rfl) :
    PE X (.Call (.Name x p) (e :: es) [] pos) (tMakeS C sp E t) := by
  refine ⟨fun pins s σ H Q I h => ?_⟩
  refine wpAny_Call_Name_kw (ld_glob I hg hm ?_ hdb)
  refine PySem.W.callWith_K (h₀ := X.base) I.ok.mod.kin M.kp (thn (ha.run pos pins s σ H _ I h) fun us s1 ⟨vs, H1, I1, r, q⟩ => ⟨I1.kIn, ?_⟩) he hpl
  exact run_makeS M F hr hb (hx σ) I1 r q
end
end Yl
/-! Own ground, part YM: == with an own `__eq__`, the other of any kind. -/
namespace Ym
open PySem PySem.Spec PyProof.Rows L2 Xa Xb Xc Xp Xm
/-- v is of the type t -/
inductive KindV (K : PySem.W.Frag) (H : Hp) : V → Value → Prop
  | base {v : V} {T : String} (h : TyB K H v T) : KindV K H v (.type T)
  | ins {a C dx : Addr} {fs : List (Str × V)} (h : H a = some (.ins C dx fs)) : KindV K H (.ref a) (.ref C)
theorem looks_typeIs {M : Model} {s : Shared} {u : Value} {T : String} (h : s.TypeIs u T) : PySem.W.Looks M s.heap (typeOf u) (.type T) := by
  cases u with
  | ref a =>
    obtain ⟨o, ho, hc⟩ := h
    exact hc ▸ (PySem.W.Looks.ld ho).andThen .now
  | _ => exact PySem.W.Looks.of_pure h
section
variable {X : Cx} {pins : List (Addr × Obj)} {σ : L2.St} {H : Hp} {s : Shared}
theorem looks_kind (I : Inv X pins σ H s) {v : V} {u t : Value} (rx : RelV v u) (k : KindV X.K H v t) : PySem.W.Looks (model X.prog X.w) s.heap (typeOf u) t := by
  cases k with
  | base h => exact looks_typeIs (h.is I rx)
  | ins h =>
    cases rx
    obtain ⟨mA, J, _⟩ := ins_get I.hok h
    obtain ⟨od, J, _⟩ := J.look
    exact J.type
def rOwnEq (K : PySem.W.Frag) (C : Addr) (sp : Sp) (E : XK) : R2 := fun x y H Q => ∃ a dx fs t, x = .ref a ∧ H a = some (.ins C dx fs) ∧ KindV K H y t ∧ PySem.W.notFirst K C t = true ∧ sp [x, y] H (fun v H' => ∃ b, v = .bl b ∧ Q v H') E
/-- x == y, x of an own class -/
theorem op_ownEq {CX : CXT} {n : Nat} {C f : Addr} {fd : FuncData} {ps : List Str} {sp : Sp} {E : XK} (F : FnOk X.prog X.w X.K X.mg X.base CX n f fd ps sp)
    (hs : PySem.W.findIn X.K (.ref C) "__eq__" = some (some (.ref f))) (hf : PySem.W.isFn X.K (.ref f) = true) (hb : Binds X.K fd ps []) (hx : Passes CX X E) (hr : Room n X.A) : OpR X (compareOp .Eq) (rOwnEq X.K C sp E) := by
  intro pins s σ H x y v u Q I rx ry h
  obtain ⟨a, dx, fs, t, rfl, ha, hk, nf, q⟩ := h
  have ly := looks_kind I ry hk
  cases rx
  obtain ⟨mA, J, _⟩ := ins_get I.hok ha
  obtain ⟨od, J, _⟩ := J.look
  obtain ⟨m, hF⟩ := I.fr
  show wpAny (model X.prog X.w) X.A (richCompare .Eq (.ref a) u) (EP X pins σ Q) X.xe s
  refine PySem.W.cmp_K (op := .Eq) hr.units0 hF I.ok.mod.kin J ly nf hs hf ?_
  have hl := F.len _ _ _ _ q
  have r2 : Vals [V.ref a, y] [Value.ref a, u] := .cons rfl (.cons ry .nil)
  refine wpAny_call (codeAny_mono (F.run X.A X.stack s H ⟨[.ref a, u], []⟩ [.ref a, u] [.ref a, y] _ E hr I.env0 (by
    have := hb s [.ref a, u] I.kIn (by simpa using hl)
    simpa using this) r2 q) fun r s' hq => ?_)
  cases r with
  | error e => exact hx pins σ H s e s' I hq
  | ok fl =>
    cases fl with
    | ret w =>
      obtain ⟨z, H', I', rz, b, ez, qq⟩ := I.after hq
      subst ez
      cases rz
      exact ⟨.bl b, H', I', rfl, qq⟩
    | next => exact False.elim hq
    | brk => exact False.elim hq
    | cont => exact False.elim hq
end
end Ym
/-! Own ground, part YN: y == x, y of a built-in kind, x with an own `__eq__`. -/
namespace Yn
open PySem PySem.Spec PyProof.Rows L2 Xa Xb Xc Xp Xm Ym
open AutoSeq1 (wpAny_loadPart')
open MeetsSeq
theorem wpAny_isInst {M : Model} {A : Around} {E : Value → Shared → Prop} {s : Shared} {K : PySem.W.Frag} {x C : Addr} {o : Obj} {t : Value} {b : Bool} {Q : Bool → Shared → Prop} (hx : s.heap.get? x = some o) (hc : o.cls = .ref C) (X : K.In s.heap) (e : PySem.W.subIn K (.ref C) t = some b) (h : Q b s) :
    wpAny M A (isInstance (.ref x) t) Q E s := by
  unfold isInstance
  have l1 : PySem.W.Looks M s.heap (typeOf (.ref x)) (.ref C) := hc ▸ (PySem.W.Looks.ld hx).andThen .now
  exact wpAny_bind (l1.here ((PySem.W.looks_subIn X e).here h))
theorem list_back (K : PySem.W.Frag) (l x C : Addr) (o od : Obj) (hd : od.cls = .type "list") :
    Meets (Builtin.«list.__eq__» ⟨[.ref l, .ref x], []⟩) (fun _ R s => s.heap.get? l = some od ∧ s.heap.get? x = some o ∧ o.cls = .ref C ∧ K.In s.heap ∧ PySem.W.subIn K (.ref C) (.type "list") = some false ∧ R (.ok (.ret .notImplemented)) s) :=
  .of_wp fun prog w A R s h => by
    obtain ⟨hp, g, d, tk, os⟩ := s
    obtain ⟨hl, hx, hc, X, e, h⟩ := h
    wp_walk using wpAny_loadPart' hl, wpAny_load hl, wpAny_isInst hx hc X e
    exact ⟨_, rfl, h⟩
theorem tuple_back (K : PySem.W.Frag) (l x C : Addr) (o od : Obj) (hd : od.cls = .type "tuple") :
    Meets (Builtin.«tuple.__eq__» ⟨[.ref l, .ref x], []⟩) (fun _ R s => s.heap.get? l = some od ∧ s.heap.get? x = some o ∧ o.cls = .ref C ∧ K.In s.heap ∧ PySem.W.subIn K (.ref C) (.type "tuple") = some false ∧ R (.ok (.ret .notImplemented)) s) :=
  .of_wp fun prog w A R s h => by
    obtain ⟨hp, g, d, tk, os⟩ := s
    obtain ⟨hl, hx, hc, X, e, h⟩ := h
    wp_walk using wpAny_loadPart' hl, wpAny_load hl, wpAny_isInst hx hc X e
    exact ⟨_, rfl, h⟩
theorem none_back (x : Addr) : Gives (Builtin.«NoneType.__eq__» ⟨[.none, .ref x], []⟩) (.val (Value.notImplemented)) := PySem.SeqAt.NoneType___eq___none_ref_0 x
theorem int_back (b : Int) (u : Tok) (x : Addr) (c : Value) (dd : Option Addr) (sl : Array (Option Value)) :
    Meets (Builtin.«int.__eq__» ⟨[.int b u, .ref x], []⟩) (fun _ R s => s.heap.get? x = some { cls := c, dict := dd, data := .plain, slots := sl } ∧ R (.ok (.ret .notImplemented)) s) :=
  .of_wp fun prog w A R s h => by
    obtain ⟨hp, g, d, tk, os⟩ := s
    obtain ⟨hl, h⟩ := h
    wp_walk using wpAny_loadPart' hl, wpAny_load hl
    exact ⟨_, rfl, h⟩
theorem str_back (b : Str) (u : Tok) (x : Addr) (c : Value) (dd : Option Addr) (sl : Array (Option Value)) :
    Meets (Builtin.«str.__eq__» ⟨[.str b u, .ref x], []⟩) (fun _ R s => s.heap.get? x = some { cls := c, dict := dd, data := .plain, slots := sl } ∧ R (.ok (.ret .notImplemented)) s) :=
  .of_wp fun prog w A R s h => by
    obtain ⟨hp, g, d, tk, os⟩ := s
    obtain ⟨hl, h⟩ := h
    wp_walk using wpAny_loadPart' hl, wpAny_load hl
    exact ⟨_, rfl, h⟩
theorem dict_back (K : PySem.W.Frag) (l x C : Addr) (o od : Obj) (hd : od.cls = .type "dict") :
    Meets (Builtin.«dict.__eq__» ⟨[.ref l, .ref x], []⟩) (fun _ R s => s.heap.get? l = some od ∧ s.heap.get? x = some o ∧ o.cls = .ref C ∧ K.In s.heap ∧ PySem.W.subIn K (.ref C) (.type "dict") = some false ∧ R (.ok (.ret .notImplemented)) s) :=
  .of_wp fun prog w A R s h => by
    obtain ⟨hp, g, d, tk, os⟩ := s
    obtain ⟨hl, hx, hc, X, e, h⟩ := h
    wp_walk using wpAny_loadPart' hl, wpAny_load hl, wpAny_isInst hx hc X e

    exact ⟨_, rfl, h⟩
section
variable {prog : Program} {w : World} {A : Around} {E : Value → Shared → Prop} {s : Shared} {K : PySem.W.Frag} {x C L f : Addr} {h₀ : Heap} {m : Str → Option Value} {ox : Obj} {od : Option Obj}
theorem back_K {u : Value} {T id : String} {Q : Value → Shared → Prop} (hu : A.units < cLine) (F : Fr h₀ L s.heap m) (X₀ : K.In h₀) (hT : s.TypeIs u T) (I : PySem.W.InstAt s.heap x ox C od) (hsub : PySem.W.subIn K (.ref C) (.type T) = some false)
    (h1 : Slot T (cmpInfo .Eq).2.1 id) (hc1 : ∀ Q' : Value → Shared → Prop, Q' .notImplemented s → wpAny (model prog w) A (call (.builtin id) [u, .ref x]) Q' E s)
    (hs : PySem.W.findIn K (.ref C) "__eq__" = some (some (.ref f))) (hf : PySem.W.isFn K (.ref f) = true)
    (h : wpAny (model prog w) A (call (.ref f) [.ref x, u]) (PySem.W.CmpBack Q) E s) : wpAny (model prog w) A (richCompare .Eq u (.ref x)) Q E s := by
  have X := X₀.keeps F.keep
  have one : wpAny (model prog w) A (tryCompare (.ref x) (cmpInfo .Eq).2.2 u) (fun r s' => ∃ v, r = some v ∧ Q v s') E s := by
    unfold tryCompare
    refine wpAny_bind (PySem.W.ifBound_K X I hs hf (wpAny_mono h (fun v s' hv => ?_) fun _ _ e => e))
    cases v <;> first | exact hv.elim | exact wpAny_pure ⟨_, rfl, hv⟩
  rcases hi : cmpInfo CmpOp.Eq with ⟨sym, f1, r1⟩
  rw [hi] at h1 one
  simp only [richCompare, hi, hT.oneThing_none]
  refine wpAny_holding (wpAny_bind (wpAny_cRoomFor hu ?_))
  refine wpAny_bind (wpAny_typeOf hT (wpAny_bind (I.type.here ?_)))
  have ne : (Value.type T != Value.ref C) = true := by simp
  simp only [ne, if_true]
  refine wpAny_bind ((PySem.W.looks_subIn X hsub).here ?_)
  simp only [Bool.false_eq_true, if_false, Bool.not_false, if_true]
  refine wpAny_bind (m := tryCompare u _ (.ref x)) (wpAny_tryCompare_declines hT h1 (hc1 _ ⟨rfl, ?_⟩))
  refine wpAny_bind (wpAny_mono one (fun r s' z => ?_) fun _ _ e => e)
  obtain ⟨v, rfl, hq⟩ := z
  exact wpAny_pure hq
end
end Yn
/-! Own ground, part YO: x != y, x with an own `__eq__` and no own `__ne__`. -/
namespace Yo
open PySem PySem.Spec PyProof.Rows L2 Xa Xb Xc Xp Xm Ym Yn
section
variable {prog : Program} {w : World} {A : Around} {E : Value → Shared → Prop} {s : Shared} {K : PySem.W.Frag} {x C L f : Addr} {h₀ : Heap} {m : Str → Option Value} {ox : Obj} {od : Option Obj}
theorem check_K {M : Model} {id owner n : String} {rest : List Value} {Q : Unit → Shared → Prop} (hk : builtinKind id = some .slot) (hs : splitId id = some (owner, n)) (ha : argsOk id ⟨.ref x :: rest, []⟩) (hx : s.heap.get? x = some ox) (hc : ox.cls = .ref C) (X : K.In s.heap)
    (e : PySem.W.subIn K (.ref C) (.type owner) = some true) (hq : Q () s) : wpAny M A (checkBuiltinCall id ⟨.ref x :: rest, []⟩) Q E s := by
  simp only [checkBuiltinCall, hk, hs]
  refine wpAny_bind (wpAny_isInst hx hc X e ?_)
  cases hsig : Manifest.signature? id with
  | none => exact wpAny_pure hq
  | some sig =>
    simp only [argsOk, hsig] at ha
    have h2 : Bind.checkArgs id sig ⟨.ref x :: rest, []⟩ = pure () := ha
    show wpAny M A (Bind.checkArgs id sig ⟨.ref x :: rest, []⟩) Q E _
    rw [h2]
    exact wpAny_pure hq
theorem ifBoundB_K {M : Model} {name : Str} {id : String} {args : List Value} {Q : Option Value → Shared → Prop} (X : K.In s.heap) (I : PySem.W.InstAt s.heap x ox C od) (hs : PySem.W.findIn K (.ref C) name = some (some (.builtin id))) (hb : ∀ self, bindSpecial (.builtin id) self = pure (.builtin id, [self]))
    (h : wpAny M A (call (.builtin id) (.ref x :: args)) (fun v => Q (some v)) E s) : wpAny M A (callSpecialIfBound? (.ref x) name args) Q E s := by
  simp only [callSpecialIfBound?, bindSpecialIfBound?]
  refine wpAny_holding (wpAny_bind (wpAny_bind (wpAny_bind (I.type.here ((PySem.W.looks_findIn X hs).here ?_)))))
  simp only [hb]
  refine wpAny_bind (wpAny_askSetting (wpAny_ite ?_))
  have fin : wpAny M A (call (.builtin id) ([.ref x] ++ args) >>= fun v => pure (some v)) Q E s := wpAny_bind (wpAny_mono h (fun v s' h' => wpAny_pure h') fun _ _ h' => h')
  split
  · exact wpAny_bind (wpAny_pure (wpAny_pure fin))
  · exact wpAny_tryCatch (wpAny_bind (wpAny_pure (wpAny_pure fin)))
theorem objNe_K {u : Value} (X : K.In s.heap) (I : PySem.W.InstAt s.heap x ox C od) (hs : PySem.W.findIn K (.ref C) "__eq__" = some (some (.ref f))) (hf : PySem.W.isFn K (.ref f) = true) (hu : A.units < cLine) {Q : Fin → Shared → Prop}
    (hcall : wpAny (model prog w) A (call (.ref f) [.ref x, u]) (fun v s' => ∃ b, v = .bool b ∧ Q (.done (.ret (.bool (!b)))) s') E s) :
    wpAny (model prog w) A (Builtin.«object.__ne__» ⟨[.ref x, u], []⟩) Q E s := by
  unfold Builtin.«object.__ne__»
  repeat (first
    | with_reducible refine wpAny_cRoomFor hu ?_
    | (refine wpAny_bind (m := callSpecialIfBound? (.ref x) (Str.ofString "__eq__") [u])
        (PySem.W.ifBound_K X I hs hf (wpAny_mono hcall (fun r s' hr => by
          obtain ⟨b, rfl, hq⟩ := hr
          repeat (first | exact hq | exact wpAny_pure hq | exact wpAny_truthy_bool hq | (refine wpAny_bind (m := truthy (.bool _)) (wpAny_truthy_bool ?_)) | wp_step)) fun _ _ e => e)))
    | wp_step)
theorem ne_K {u tb : Value} {Q : Value → Shared → Prop} (hu : A.units + 1 < cLine) (Fr0 : Fr h₀ L s.heap m) (X₀ : K.In h₀) (I : PySem.W.InstAt s.heap x ox C od) (hb : PySem.W.Looks (model prog w) s.heap (typeOf u) tb) (hn : PySem.W.notFirst K C tb = true)
    (hs : PySem.W.findIn K (.ref C) "__eq__" = some (some (.ref f))) (hf : PySem.W.isFn K (.ref f) = true) (hne : PySem.W.findIn K (.ref C) "__ne__" = some (some (.builtin "object.__ne__"))) (ho : PySem.W.subIn K (.ref C) (.type "object") = some true)
    (h : wpAny (model prog w) A.in1 (call (.ref f) [.ref x, u]) (fun v s' => ∃ b, v = .bool b ∧ Q (.bool (!b)) s') E s) : wpAny (model prog w) A (richCompare .NotEq (.ref x) u) Q E s := by
  have X := X₀.keeps Fr0.keep
  have one : wpAny (model prog w) A (tryCompare (.ref x) (cmpInfo .NotEq).2.1 u) (fun r s' => ∃ v, r = some v ∧ Q v s') E s := by
    show wpAny (model prog w) A (tryCompare (.ref x) "__ne__" u) _ E s
    unfold tryCompare
    refine wpAny_bind (ifBoundB_K X I hne PySem.F.cmp_object.ne.bind (wpAny_call (codeAny_call_builtin PySem.F.cmp_object.ne.plain PySem.F.cmpEntry_ne (check_K PySem.F.cmpKind_ne PySem.F.cmpSplit_ne (PySem.F.cmpArgs_ne _ _) I.at_ I.cls X ho
      (objNe_K (A := A.in1) X I hs hf hu (wpAny_mono h (fun v s' hv => ?_) fun _ _ e => e))))))
    obtain ⟨b, rfl, hq⟩ := hv
    first | exact ⟨b, rfl, wpAny_pure ⟨_, rfl, hq⟩⟩ | exact ⟨b, rfl, wpAny_pure (wpAny_pure ⟨_, rfl, hq⟩)⟩ | exact ⟨b, rfl, ⟨_, rfl, hq⟩⟩
  unfold richCompare
  simp only [oneThing_ref]
  refine wpAny_holding (wpAny_bind (wpAny_cRoomFor (Nat.lt_of_succ_lt hu) ?_))
  refine wpAny_bind (I.type.here (wpAny_bind (hb.here ?_)))
  split
  · rename_i q
    have e : PySem.W.subIn K tb (.ref C) = some false := by
      rcases Bool.or_eq_true_iff.mp hn with e | e
      · rw [beq_iff_eq.mp e] at q
        simp at q
      · exact beq_iff_eq.mp e
    refine wpAny_bind ((PySem.W.looks_subIn X e).here ?_)
    simp only [Bool.false_eq_true, if_false]
    refine wpAny_bind (wpAny_mono one (fun r s' z => ?_) fun _ _ e => e)
    obtain ⟨v, rfl, hq⟩ := z
    exact wpAny_pure hq
  · refine wpAny_bind (wpAny_pure ?_)
    simp only [Bool.false_eq_true, if_false]
    refine wpAny_bind (wpAny_mono one (fun r s' z => ?_) fun _ _ e => e)
    obtain ⟨v, rfl, hq⟩ := z
    exact wpAny_pure hq
end
section
variable {X : Cx} {CX : CXT} {n : Nat} {C f : Addr} {fd : FuncData} {ps : List Str} {sp : Sp} {E : XK}
theorem run_eq {A : Around} {pins : List (Addr × Obj)} {σ : L2.St} {H : Hp} {s : Shared} {a : Addr} {y : V} {u : Value} {Q : VK} (sb : Sub X n A) (F : FnOk X.prog X.w X.K X.mg X.base CX n f fd ps sp) (hb : Binds X.K fd ps []) (hx : Passes CX X E) (I : Inv X pins σ H s) (ry : RelV y u)
    (q : sp [V.ref a, y] H (fun v H' => ∃ b, v = .bl b ∧ Q v H') E) : wpAny (model X.prog X.w) A (call (.ref f) [.ref a, u]) (fun v s' => ∃ b, v = .bool b ∧ ∃ H', Inv X pins σ H' s' ∧ Q (.bl b) H') X.xe s := by
  have e0 : Env0 X.prog X.w X.K X.mg X.base A X.stack s H := by
    have e := I.env0
    exact ⟨by rw [sb.fr]; exact e.frames, e.mod, e.bs, e.bsz, e.funs, e.frf, e.hok, e.bare⟩
  have hl := F.len _ _ _ _ q
  have r2 : Vals [V.ref a, y] [Value.ref a, u] := .cons rfl (.cons ry .nil)
  refine wpAny_call (codeAny_mono (F.run A X.stack s H ⟨[.ref a, u], []⟩ [.ref a, u] [.ref a, y] _ E sb.room e0 (by
    have := hb s [.ref a, u] I.kIn (by simpa using hl)
    simpa using this) r2 q) fun r s' hq => ?_)
  cases r with
  | error e => exact hx pins σ H s e s' I hq
  | ok fl =>
    cases fl with
    | ret w =>
      obtain ⟨z, H', I', rz, b, ez, qq⟩ := I.after hq
      subst ez
      cases rz
      exact ⟨b, rfl, H', I', qq⟩
    | next => exact False.elim hq
    | brk => exact False.elim hq
    | cont => exact False.elim hq
/-- x != y, x of an own class with an own `__eq__` -/
def rOwnNe (K : PySem.W.Frag) (C : Addr) (sp : Sp) (E : XK) : R2 := fun x y H Q => ∃ a dx fs t, x = .ref a ∧ H a = some (.ins C dx fs) ∧ KindV K H y t ∧ PySem.W.notFirst K C t = true ∧ sp [x, y] H (fun v H' => ∃ b, v = .bl b ∧ Q (.bl (!b)) H') E
theorem op_ownNe (F : FnOk X.prog X.w X.K X.mg X.base CX n f fd ps sp)
    (hs : PySem.W.findIn X.K (.ref C) "__eq__" = some (some (.ref f))) (hf : PySem.W.isFn X.K (.ref f) = true) (hne : PySem.W.findIn X.K (.ref C) "__ne__" = some (some (.builtin "object.__ne__"))) (ho : PySem.W.subIn X.K (.ref C) (.type "object") = some true)
    (hb : Binds X.K fd ps []) (hx : Passes CX X E) (hr : Room (n + 1) X.A) : OpR X (compareOp .NotEq) (rOwnNe X.K C sp E) := by
  intro pins s σ H x y v u Q I rx ry h
  obtain ⟨a, dx, fs, t, rfl, ha, hk, nf, q⟩ := h
  have ly := looks_kind I ry hk
  cases rx
  obtain ⟨mA, J, _⟩ := ins_get I.hok ha
  obtain ⟨od, J, _⟩ := J.look
  obtain ⟨m, hF⟩ := I.fr
  have sb : Sub X (n + 1) X.A := ⟨hr, rfl⟩
  show wpAny (model X.prog X.w) X.A (richCompare .NotEq (.ref a) u) (EP X pins σ Q) X.xe s
  refine ne_K (by exact sb.in1.room.units0) hF I.ok.mod.kin J ly nf hs hf hne ho (wpAny_mono (run_eq (Q := fun v H' => ∃ b, v = .bl b ∧ Q (.bl (!b)) H') sb.in1 F hb hx I ry ?_) (fun r s' z => ?_) fun _ _ e => e)
  · have : (fun v H' => ∃ b, v = V.bl b ∧ ∃ b', v = V.bl b' ∧ Q (V.bl !b') H') = fun v H' => ∃ b, v = V.bl b ∧ Q (.bl (!b)) H' := by
      funext v H'
      refine propext ⟨fun ⟨b, e, b', e', q⟩ => ⟨b', e', q⟩, fun ⟨b, e, q⟩ => ⟨b, e, b, e, q⟩⟩
    rw [this]
    exact q
  · obtain ⟨b, rfl, H', I', b', e, qq⟩ := z
    injection e with e
    subst e
    exact ⟨b, rfl, .bl (!b), H', I', rfl, qq⟩
/-- y == x, y of a built-in kind: the own `__eq__` is asked -/
def rBackEq (K : PySem.W.Frag) (C : Addr) (sp : Sp) (E : XK) : R2 := fun y x H Q => ∃ a dx fs T, x = .ref a ∧ H a = some (.ins C dx fs) ∧ TyB K H y T ∧ T ∈ ["NoneType", "int", "str", "list", "tuple", "dict"] ∧ PySem.W.subIn K (.ref C) (.type T) = some false ∧ sp [x, y] H (fun v H' => ∃ b, v = .bl b ∧ Q v H') E
theorem op_backEq (F : FnOk X.prog X.w X.K X.mg X.base CX n f fd ps sp)
    (hs : PySem.W.findIn X.K (.ref C) "__eq__" = some (some (.ref f))) (hf : PySem.W.isFn X.K (.ref f) = true) (hb : Binds X.K fd ps []) (hx : Passes CX X E) (hr : Room n X.A) : OpR X (compareOp .Eq) (rBackEq X.K C sp E) := by
  intro pins s σ H y x v u Q I ry rx h
  obtain ⟨a, dx, fs, T, rfl, ha, hk, hT, hsub, q⟩ := h
  have ty := hk.is I ry
  cases rx
  obtain ⟨mA, O, _⟩ := ins_get I.hok ha
  have ob := O.obj
  obtain ⟨od, J, _⟩ := O.look
  obtain ⟨m, hF⟩ := I.fr
  have X1 := PySem.W.Frag.In.keeps I.ok.mod.kin hF.keep
  have oc : (PySem.W.instObj C dx).cls = .ref C := rfl
  have fin : wpAny (model X.prog X.w) X.A (call (.ref f) [.ref a, v]) (PySem.W.CmpBack (EP X pins σ Q)) X.xe s := by
    refine wpAny_mono (run_eq ⟨hr, rfl⟩ F hb hx I ry q) (fun r s' z => ?_) fun _ _ e => e
    obtain ⟨b, rfl, H', I', qq⟩ := z
    exact ⟨.bl b, H', I', rfl, qq⟩
  show wpAny (model X.prog X.w) X.A (richCompare .Eq v (.ref a)) (EP X pins σ Q) X.xe s
  cases hk with
  | non =>
    cases (show v = Value.none from ry)
    exact back_K hr.units0 hF I.ok.mod.kin ty J hsub PySem.F.slot_NoneType_eq (fun Q' hq => call_gives PySem.F.slot_NoneType_eq ty PySem.F.entry_NoneType_eq (PySem.F.args_NoneType_eq_2 _ _) (none_back a) hq) hs hf fin
  | int i =>
    obtain ⟨t, rfl⟩ := (show ∃ t, v = Value.int i t from ry)
    exact back_K hr.units0 hF I.ok.mod.kin ty J hsub PySem.F.slot_int_eq (fun Q' hq => call_meets PySem.F.slot_int_eq ty PySem.F.entry_int_eq (PySem.F.args_int_eq_2 _ _) (int_back i t a _ _ _) ⟨ob, hq⟩) hs hf fin
  | str z =>
    obtain ⟨t, rfl⟩ := (show ∃ t, v = Value.str z t from ry)
    exact back_K hr.units0 hF I.ok.mod.kin ty J hsub PySem.F.slot_str_eq (fun Q' hq => call_meets PySem.F.slot_str_eq ty PySem.F.entry_str_eq (PySem.F.args_str_eq_2 _ _) (str_back z t a _ _ _) ⟨ob, hq⟩) hs hf fin
  | @lst l xs h =>
    cases (show v = Value.ref l from ry)
    obtain ⟨o, g1, g2⟩ := ty
    exact back_K hr.units0 hF I.ok.mod.kin ⟨o, g1, g2⟩ J hsub PySem.F.slot_list_eq (fun Q' hq => call_meets PySem.F.slot_list_eq ⟨o, g1, g2⟩ PySem.F.entry_list_eq (PySem.F.args_list_eq_2 _ _) (list_back X.K l a C _ o g2) ⟨g1, ob, oc, X1, hsub, hq⟩) hs hf fin
  | @tup l xs h =>
    cases (show v = Value.ref l from ry)
    obtain ⟨o, g1, g2⟩ := ty
    exact back_K hr.units0 hF I.ok.mod.kin ⟨o, g1, g2⟩ J hsub PySem.F.slot_tuple_eq (fun Q' hq => call_meets PySem.F.slot_tuple_eq ⟨o, g1, g2⟩ PySem.F.entry_tuple_eq (PySem.F.args_tuple_eq_2 _ _) (tuple_back X.K l a C _ o g2) ⟨g1, ob, oc, X1, hsub, hq⟩) hs hf fin
  | @dK l xs h =>
    cases (show v = Value.ref l from ry)
    obtain ⟨o, g1, g2⟩ := ty
    exact back_K hr.units0 hF I.ok.mod.kin ⟨o, g1, g2⟩ J hsub PySem.F.slot_dict_eq (fun Q' hq => call_meets PySem.F.slot_dict_eq ⟨o, g1, g2⟩ PySem.F.entry_dict_eq (PySem.F.args_dict_eq_2 _ _) (dict_back X.K l a C _ o g2) ⟨g1, ob, oc, X1, hsub, hq⟩) hs hf fin
  | bl b => simp at hT
  | byt b => simp at hT
end
end Yo
/-! Own ground, part YP: `links != kept`, the elements one by one the same. -/
namespace Yp
open PySem PySem.Spec PyProof.Rows L2 Xa Xb Xc Xp Xm Ym Yn Yo
open AutoSeq1 (wpAny_loadPart')
open MeetsSeq MeetsSeq2 MeetsSeq3 SeqRoads2 PySem.SeqAt GQ
section
variable {prog : Program} {w : World} {A : Around} {R : Result → Shared → Prop}
theorem ne_loop (l b : Addr) (N : Nat) (J : Nat → Shared → Prop) (hl : ListI prog w A (fun e s' => R (.error e) s') l b N J) (fin : ∀ s, J N s → R (.ok (.ret (.bool false))) s) : ∀ (k i : Nat), N - i = k → i ≤ N → ∀ s, J i s →
      wpAny (model prog w) A.in1 (Builtin.«list.__eq__.loop» ⟨[.ref l, .ref b, rawInt i, rawInt 3], []⟩) (FinOf prog w A R) (fun e s' => R (.error e) s') s
  | 0, i, hk, hi, s, h => by
    obtain ⟨items, items2, n, n2, hl1, hb1, hs1, hs2, _⟩ := hl _ _ h
    have iN : i = N := by omega
    have hR := fin s (iN ▸ h)
    obtain ⟨hp, g, d, tk, os⟩ := s
    wp_walk using wpAny_loadPart' hl1, wpAny_loadPart' hb1
    have no1 : items[((i : Nat) : Int).toNat]? = none := by simp; omega
    have no2 : items2[((i : Nat) : Int).toNat]? = none := by simp; omega
    rw [no1, no2]
    wp_walk using wpAny_loadPart' hl1, wpAny_loadPart' hb1
    show R (.ok (.ret (.bool (items.size != items2.size)))) _
    rw [hs1, hs2]
    simpa using hR
  | k + 1, i, hk, hi, s, h => by
    obtain ⟨items, items2, n, n2, hl1, hb1, hs1, hs2, turn⟩ := hl _ _ h
    have il : i < items.size := by omega
    have il2 : i < items2.size := by omega
    have ht := turn il il2
    obtain ⟨hp, g, d, tk, os⟩ := s
    wp_walk using wpAny_loadPart' hl1, wpAny_loadPart' hb1
    have at1 : items[((i : Nat) : Int).toNat]? = some items[i] := by simp [il]
    have at2 : items2[((i : Nat) : Int).toNat]? = some items2[i] := by simp [il2]
    have up : ((i : Int) + 1) = ((i + 1 : Nat) : Int) := by omega
    rw [at1, at2]
    refine wpAny_bind (wpAny_mono ht (fun r s2 h2 => ?_) fun _ _ x => x)
    obtain ⟨rfl, h2⟩ := h2
    have rec_ := ne_loop l b N J hl fin k (i + 1) (by omega) (by omega) s2 h2
    obtain ⟨hp2, g2, d2, tk2, os2⟩ := s2
    wp_walk
    rw [up]
    exact ⟨plainId_quiet plain_eq_loop _, codeAny_builtin entry_eq_loop (by rw [Around.under_plainId plain_eq_loop _] <;> exact rec_)⟩
theorem list_ne (l b : Addr) (N : Nat) (J : Nat → Shared → Prop) (hl : ListI prog w A (fun e s' => R (.error e) s') l b N J) (fin : ∀ s, J N s → R (.ok (.ret (.bool false))) s) {s : Shared} (h : J 0 s) :
    wpAny (model prog w) A.in1 (Builtin.«list.__ne__» ⟨[.ref l, .ref b], []⟩) (FinOf prog w A R) (fun e s' => R (.error e) s') s := by
  obtain ⟨items, items2, n, n2, hl1, hb1, hs1, hs2, _⟩ := hl _ _ h
  have rec_ := ne_loop (A := A) (R := R) l b N J hl fin _ 0 rfl (Nat.zero_le _) s h
  obtain ⟨hp, g, d, tk, os⟩ := s
  have sub := AutoSeq1.sub_list_list
  have same : ¬ (items.size != items2.size) = true := by simp [hs1, hs2]
  wp_walk using wpAny_loadPart' hl1, wpAny_loadPart' hb1
  exact ⟨plainId_quiet plain_eq_loop _, codeAny_builtin entry_eq_loop (by rw [Around.under_plainId plain_eq_loop _] <;> exact rec_)⟩
end
section
variable {prog : Program} {w : World} {A : Around} {E : Value → Shared → Prop} {s : Shared}
theorem rc_ne {l b : Addr} {N : Nat} {Q : Value → Shared → Prop} (hu : A.units < cLine) (J : Nat → Shared → Prop) (hl : ListI prog w A E l b N J) (fin : ∀ s, J N s → Q (.bool false) s) (h : J 0 s) : wpAny (model prog w) A (richCompare .NotEq (.ref l) (.ref b)) Q E s := by
  obtain ⟨items, items2, n, n2, hl1, hb1, _, _, _⟩ := hl _ _ h
  refine wpAny_richCompare_same_room (op := .NotEq) ⟨_, hl1, rfl⟩ ⟨_, hb1, rfl⟩ PySem.F.slot_list_ne (call_here PySem.F.slot_list_ne ⟨_, hl1, rfl⟩ PySem.F.entry_list_ne (PySem.F.args_list_ne_2 _ _) ?_) hu
  exact list_ne (R := wants (fun v s' => v ≠ .notImplemented ∧ Q v s') E) l b N J hl (fun s' q => ⟨(fun x => nomatch x), fin s' q⟩) h
end
section
variable {X : Cx}
theorem eqV_self {x : V} (h : flatV x = true) : eqV x x = true := by
  cases x <;> first | rfl | (simp [eqV]; done) | cases h
/-- a thing beside itself -/
def DSame : Eqv := fun x y _ => x = y ∧ (flatV x = true ∨ ∃ a, x = .ref a)
theorem same_eq : EqG X 0 DSame := by
  intro A pins s σ H x y u v sb I ru rv d
  obtain ⟨rfl, k⟩ := d
  rcases k with k | ⟨a, rfl⟩
  · exact eqG_flat A pins s σ H x x u v sb I ru rv ⟨k, k, eqV_self k⟩
  · cases ru
    cases rv
    exact SeqAt.EqAt.same (A := A) (s := s) (.ref a) X.prog X.w X.xe _ ⟨rfl, H, I, Ext.rfl'⟩
/-- links != kept -/
def rNeSame : R2 := fun x y H Q => ∃ a b xs, x = .ref a ∧ y = .ref b ∧ H a = some (.lst xs) ∧ H b = some (.lst xs) ∧ (∀ v ∈ xs, flatV v = true ∨ ∃ a, v = .ref a) ∧ ∀ H', Ext H H' → Q (.bl false) H'
theorem op_neSame (hr : Room 1 X.A) : OpR X (compareOp .NotEq) rNeSame := by
  intro pins s σ H x y v u Q I rx ry h
  obtain ⟨a, b, xs, rfl, rfl, ha, hb, ok, q⟩ := h
  cases rx
  cases ry
  have sb : Sub X 1 X.A := ⟨hr, rfl⟩
  show wpAny (model X.prog X.w) X.A (richCompare .NotEq (.ref a) (.ref b)) (EP X pins σ Q) X.xe s
  refine rc_ne (N := xs.length) sb.room.units0 (fun _ s' => LoopI X pins σ H s') (fun i s' z => ?_) (fun s' z => ?_) ⟨H, I, Ext.rfl'⟩
  · obtain ⟨H1, I1, e1⟩ := id z
    obtain ⟨_, its, k, r, e⟩ := I1.hok a _ (e1 _ _ ha)
    obtain ⟨_, its2, k2, r2, e2⟩ := I1.hok b _ (e1 _ _ hb)
    have p : Prs DSame xs xs H := ⟨rfl, fun i x y h1 h2 => by
      rw [h1] at h2
      obtain rfl := Option.some.inj h2
      exact ⟨rfl, ok x (List.mem_of_getElem? h1)⟩⟩
    refine ⟨its.toArray, its2.toArray, k, k2, e, e2, by rw [List.size_toArray, ← r.length], by rw [List.size_toArray, ← r2.length], fun h1 h2 => ?_⟩
    exact turnG (fun _ _ _ _ _ d => d) same_eq sb p r r2 i h1 h2 s' z
  · obtain ⟨H1, I1, e1⟩ := z
    exact ⟨.bl false, H1, I1, rfl, q H1 e1⟩
end
end Yp
/-! Plans checked. -/
namespace Kx
open PySem PySem.Spec PyProof.Rows L2 Xa Xb Xc Xd Xs Xp Xm Xl Xq Ya Yb Yc Yd Ye Yf
abbrev sCkWeb : Stmt := top 24
abbrev sIsPlan : Stmt := top 26
abbrev sCkPlan : Stmt := top 37
theorem iteE {b c : Bool} (e : b = c) {A B : Prop} (h : if c = true then A else B) : if b = true then A else B := by rw [e]; exact h
/-- what of the class's kind the text says -/
structure WKind (K : PySem.W.Frag) (C : Addr) : Prop where
  ha : PySem.W.findIn K (.ref C) "__class__" = some (some (.builtin "object.__class__"))
  hn : PySem.W.specialIn K (.builtin "object.__class__") "__get__" = some (some (.builtin "getset_descriptor.__get__"))
  htk : PySem.W.takesIn K (.builtin "object.__class__") = some true
  hm : PySem.W.mroIn K C (.type "object") = some true
  own : PySem.W.kitOne K (.ref C) (.ref C) = some true
section
variable {P : Program} {w : World} {K : PySem.W.Frag} {mg : Str → Option Value} {base : Heap} {f C CW CP : Addr} {fd : FuncData}
theorem web_kind {H : Hp} {p l : Addr} {pl rc : Int} {qs : List (Addr × List Int)} (T : WTxt K mg C) (W : WKind K C) (h : WebAt C H p pl rc l qs) : TyX K H (.ref p) (.ref C) :=
  let ⟨_, ob⟩ := h.ob
  .base (.ins ob T.cl W.ha W.hn W.htk W.hm)
theorem WebAt.same {C : Addr} {H H' : Hp} {p l : Addr} {pl rc : Int} {qs : List (Addr × List Int)} (e : Same H H') (h : WebAt C H p pl rc l qs) : WebAt C H' p pl rc l qs :=
  ⟨let ⟨dx, z⟩ := h.ob; ⟨dx, e _ _ z⟩, e _ _ h.li, fun q hq => e _ _ (h.tu q hq)⟩
/-- no web -/
def NoWeb (K : PySem.W.Frag) (C : Addr) (H : Hp) (v : V) : Prop := ∃ t, TyX K H v t ∧ PySem.W.kitOne K t (.ref C) = some false
def spCkWeb (K : PySem.W.Frag) (C CW : Addr) : Sp := fun xs H Q E => ∃ v, xs = [v] ∧ ((NoWeb K C H v ∧ Ref E H CW v) ∨ ∃ (p l : Addr) (pl rc : Int) (qs : List (Addr × List Int)), v = .ref p ∧ WebAt C H p pl rc l qs ∧ Q .non H)
theorem scCkWeb : FnScope ["web"] ["web"] (defScope sCkWeb) := ⟨rfl, rfl, rfl, by decide +kernel, rfl, by decide +kernel, by decide +kernel⟩
theorem can_ckweb (D : Dfn K mg "check_web" sCkWeb) (B : Bi2 mg) (T : WTxt K mg C) (WD : WKind K C) (M : Xc.XMake P w K mg base "InvalidWeb" CW "value") : Can P w K mg base (L2.CX P w) 3 "check_web" ["web"] (spCkWeb K C CW) := by
  obtain ⟨f, fd, F, g⟩ := D.at_
  refine FnOk.can (F.ok scCkWeb (fun xs H Q E h => ?_) (fun cdv A outer s H vs Q E hr h => ?_)) F g fun _ _ _ _ _ _ us hl => match us, hl with | [_], _ => rfl
  · obtain ⟨v, rfl, _⟩ := h
    rfl
  · obtain ⟨v, rfl, q⟩ := h
    refine ⟨_, pss_one <| ps_if (pt_not <| pt_val <| pe_bi call_isi B.isi <| pa_cons (pv 0) <| pa1 <| pe_glob (v := .ref C) (by rfl) T.gl rfl) (pss_one <| ps_rz rfl M (hr.mono (by decide)) (takes_of rfl rfl rfl rfl) (by rfl) (pv 0)) pss_nil, ?_⟩
    rcases q with ⟨⟨t, ty, k⟩, no⟩ | ⟨p, l, pl, rc, qs, rfl, W, q⟩
    · exact ⟨_, rfl, v, .ref C, t, .ref C, false, rfl, .own C, ty, k, _, rfl, iteT ⟨_, rfl, no⟩⟩
    · exact ⟨_, rfl, .ref p, .ref C, .ref C, .ref C, true, rfl, .own C, web_kind T WD W, WD.own, _, rfl, iteF q⟩
/-- whether v is a plan for so many places -/
def IsPl (K : PySem.W.Frag) (H : Hp) (pl : Nat) (v : V) (b : Bool) : Prop := ∃ (b0 : Bool) (n : Nat), Pcs K H pl v b0 ∧ (b0 = true → ∃ (a : Addr) (zs : List V), v = .ref a ∧ H a = some (.lst zs) ∧ zs.length = n) ∧ b = (b0 && decide (0 < n))
theorem IsPl.same {H H' : Hp} {pl : Nat} {v : V} {b : Bool} (e : Same H H') : IsPl K H pl v b → IsPl K H' pl v b := fun ⟨b0, n, h1, h2, h3⟩ => ⟨b0, n, pcs_same e h1, fun z => let ⟨a, zs, e1, e2, e3⟩ := h2 z; ⟨a, zs, e1, e _ _ e2, e3⟩, h3⟩
def spIsPlan (K : PySem.W.Frag) (C CW : Addr) : Sp := fun xs H Q E => ∃ wv v, xs = [wv, v] ∧ ((NoWeb K C H wv ∧ Ref E H CW wv) ∨ ∃ (p l : Addr) (pl : Nat) (rc : Int) (qs : List (Addr × List Int)) (b : Bool), wv = .ref p ∧ WebAt C H p pl rc l qs ∧ IsPl K H pl v b ∧ ∀ H', Same H H' → Q (.bl b) H')
theorem scIsPlan : FnScope ["web", "value"] ["web", "value"] (defScope sIsPlan) := ⟨rfl, rfl, rfl, by decide +kernel, rfl, by decide +kernel, by decide +kernel⟩
theorem can_isplan (D : Dfn K mg "is_plan" sIsPlan) (B : Bi3 mg) (T : WTxt K mg C) (cW : Can P w K mg base (L2.CX P w) 3 "check_web" ["web"] (spCkWeb K C CW)) (cA : Can P w K mg base CX0 4 "are_pieces" ["value", "places"] (spArePieces K)) : Can P w K mg base (L2.CX P w) 5 "is_plan" ["web", "value"] (spIsPlan K C CW) := by
  obtain ⟨f, fd, F, g⟩ := D.at_
  refine FnOk.can (F.ok scIsPlan (fun xs H Q E h => ?_) (fun cdv A outer s H vs Q E hr h => ?_)) F g fun _ _ _ _ _ _ us hl => match us, hl with | [_, _], _ => rfl
  · obtain ⟨wv, v, rfl, _⟩ := h
    rfl
  · obtain ⟨wv, v, rfl, q⟩ := h
    have h3 := hr.mono (show 3 ≤ 4 by decide)
    have pass : Passes (L2.CX P w) (cxOf (L2.CX P w) P w K mg base ["web", "value"] "is_plan" (defScope sIsPlan) f cdv A outer s H E) E := passes_call (takes_of rfl rfl rfl rfl) fun _ _ _ _ z => z
    refine ⟨_, pss_cons (ps_expr <| pe_can cW h3 pass <| pa1 <| pv 0) <| pss_one <| ps_ret <| pe_and (pe_can cA hr pass0 <| pa_cons (pv 1) <| pa1 <| pe_fld (pv 0) rfl) <| pe_one <| pe_cmpR op_gt (pe_bi call_len_seq B.len <| pa1 <| pv 1) pe_int (nomark _), ?_⟩
    rcases q with ⟨nw, no⟩ | ⟨p, l, pl, rc, qs, b, rfl, W, ⟨b0, n, pc, at_, eb⟩, q⟩
    · exact ⟨_, rfl, wv, rfl, .inl ⟨nw, no⟩⟩
    · obtain ⟨dx, ob⟩ := W.ob
      refine ⟨_, rfl, .ref p, rfl, .inr ⟨p, l, pl, rc, qs, rfl, W, ?_⟩⟩
      refine ⟨_, rfl, _, rfl, p, C, dx, _, _, rfl, ob, T.cl, T.nP, wf_pl _ _ _, v, b0, pl, rfl, pc, fun H1 s1 => ⟨_, rfl, ?_⟩⟩
      cases b0 with
      | false =>
        rw [eb] at q
        exact iteF (q H1 s1)
      | true =>
        obtain ⟨a, zs, rfl, ha, zn⟩ := at_ rfl
        refine iteT ⟨_, rfl, a, zs, rfl, .inl (SqL.of (s1 _ _ ha)), _, _, rfl, rfl, ?_⟩
        have q := q H1 s1
        rw [eb, Bool.true_and] at q
        rw [zn]
        have e : decide ((0 : Int) < (n : Int)) = decide (0 < n) := decide_eq_decide.mpr (by omega)
        show Q (.bl (decide ((0 : Int) < (n : Int)))) H1
        rw [e]
        exact q
def spCkPlan (K : PySem.W.Frag) (C CW CP : Addr) : Sp := fun xs H Q E => ∃ wv v, xs = [wv, v] ∧ ((NoWeb K C H wv ∧ Ref E H CW wv) ∨ ∃ (p l : Addr) (pl : Nat) (rc : Int) (qs : List (Addr × List Int)) (b : Bool), wv = .ref p ∧ WebAt C H p pl rc l qs ∧ IsPl K H pl v b ∧
  (b = false → ∀ H', Same H H' → Ref E H' CP v) ∧ (b = true → ∀ H', Same H H' → Q .non H'))
theorem scCkPlan : FnScope ["web", "plan"] ["web", "plan"] (defScope sCkPlan) := ⟨rfl, rfl, rfl, by decide +kernel, rfl, by decide +kernel, by decide +kernel⟩
theorem can_ckplan (D : Dfn K mg "check_plan" sCkPlan) (M : Xc.XMake P w K mg base "InvalidPlan" CP "value") (cP : Can P w K mg base (L2.CX P w) 5 "is_plan" ["web", "value"] (spIsPlan K C CW)) : Can P w K mg base (L2.CX P w) 6 "check_plan" ["web", "plan"] (spCkPlan K C CW CP) := by
  obtain ⟨f, fd, F, g⟩ := D.at_
  refine FnOk.can (F.ok scCkPlan (fun xs H Q E h => ?_) (fun cdv A outer s H vs Q E hr h => ?_)) F g fun _ _ _ _ _ _ us hl => match us, hl with | [_, _], _ => rfl
  · obtain ⟨wv, v, rfl, _⟩ := h
    rfl
  · obtain ⟨wv, v, rfl, q⟩ := h
    have pass : Passes (L2.CX P w) (cxOf (L2.CX P w) P w K mg base ["web", "plan"] "check_plan" (defScope sCkPlan) f cdv A outer s H E) E := passes_call (takes_of rfl rfl rfl rfl) fun _ _ _ _ z => z
    refine ⟨_, pss_one <| ps_if (pt_not <| pt_val <| pe_can cP hr pass <| pa_cons (pv 0) <| pa1 <| pv 1) (pss_one <| ps_rz rfl M (hr.mono (by decide)) (takes_of rfl rfl rfl rfl) (by rfl) (pv 1)) pss_nil, ?_⟩
    rcases q with ⟨nw, no⟩ | ⟨p, l, pl, rc, qs, b, rfl, W, ip, no, yes⟩
    · exact ⟨_, rfl, _, rfl, wv, v, rfl, .inl ⟨nw, no⟩⟩
    · refine ⟨_, rfl, _, rfl, _, v, rfl, .inr ⟨p, l, pl, rc, qs, b, rfl, W, ip, fun H1 s1 => ⟨_, rfl, ?_⟩⟩⟩
      cases b with
      | false => exact iteT ⟨_, rfl, no rfl H1 s1⟩
      | true => exact iteF (yes rfl H1 s1)
end
end Kx
/-! Comprehensions with two for's, gone through. -/
namespace Yr
open L2 PySem PySem.Spec PyProof.Rows
section
variable {n : Nat} {J : It} {G : Hp → Prop} {Y : Nat → Hp → V → Hp → Prop}
/-- the first for of two: the second one leads from a turn's state to the next -/
theorem two_it (wk : Walk J n G Y) {g : TG} {tt : TT} {wi1 : TI} {g1 : TG} {tb1 : TT} {te : TE} {own own1 : List Nat} {σ : L2.St} {H1 : Hp} {D : Addr} {Qd : Hp → Prop} (Pv : Nat → Hp → Prop) (h0 : Pv 0 (upd H1 D (.lst []))) (hG : ∀ i H, i ≤ n → Pv i H → G H)
    (hs : ∀ i x H H', i < n → Pv i H → Y i H x H' → g x (wipe σ own) H' fun σ2 H2 => wipe σ2 own = wipe σ own ∧ tt σ2 H2 fun b H3 =>
      if b = true then wi1 σ2 H3 fun I1 H4 => ∃ U1 : Nat → Nat → Hp → Prop, (∃ m, U1 0 m H4) ∧ ∀ j k H, U1 j k H →
        (I1.stop j H ∧ Pv (i + 1) H) ∨ (I1.go j H ∧ ∃ N1 : Hp → Prop, (∀ H', N1 H' → ∃ k', k' < k ∧ U1 (j + 1) k' H') ∧ ∀ x H', I1.yld j H x H' → g1 x (wipe σ2 own1) H' fun σ3 H5 => wipe σ3 own1 = wipe σ2 own1 ∧ tb1 σ3 H5 fun b H6 =>
          if b = true then te σ3 H6 fun y H7 => ∃ zs, H7 D = some (.lst zs) ∧ zs.length < sizeLine ∧ N1 (upd H7 D (.lst (zs ++ [y]))) else N1 H6)
      else Pv (i + 1) H3) (hd : ∀ H, Pv n H → Qd H) :
    ∃ U : Nat → Nat → Hp → Prop, (∃ m, U 0 m (upd H1 D (.lst []))) ∧ ∀ i m H, U i m H →
      (J.stop i H ∧ Qd H) ∨ (J.go i H ∧ ∃ Nx : Hp → Prop, (∀ H', Nx H' → ∃ m', m' < m ∧ U (i + 1) m' H') ∧ ∀ x H', J.yld i H x H' → g x (wipe σ own) H' fun σ2 H2 => wipe σ2 own = wipe σ own ∧ tt σ2 H2 fun b H3 =>
        if b = true then wi1 σ2 H3 fun I1 H4 => ∃ U1 : Nat → Nat → Hp → Prop, (∃ m, U1 0 m H4) ∧ ∀ j k H, U1 j k H →
          (I1.stop j H ∧ Nx H) ∨ (I1.go j H ∧ ∃ N1 : Hp → Prop, (∀ H', N1 H' → ∃ k', k' < k ∧ U1 (j + 1) k' H') ∧ ∀ x H', I1.yld j H x H' → g1 x (wipe σ2 own1) H' fun σ3 H5 => wipe σ3 own1 = wipe σ2 own1 ∧ tb1 σ3 H5 fun b H6 =>
            if b = true then te σ3 H6 fun y H7 => ∃ zs, H7 D = some (.lst zs) ∧ zs.length < sizeLine ∧ N1 (upd H7 D (.lst (zs ++ [y]))) else N1 H6)
        else Nx H3) := by
  refine ⟨fun i m H => (m = n - i ∧ i ≤ n) ∧ Pv i H, ⟨n, ⟨by omega, by omega⟩, h0⟩, ?_⟩
  rintro i m H ⟨⟨rfl, hi⟩, p⟩
  rcases Nat.lt_or_ge i n with lt | ge
  · exact .inr ⟨wk.goes i H lt (hG i H hi p), Pv (i + 1), fun H' p' => ⟨n - (i + 1), by omega, ⟨rfl, lt⟩, p'⟩, fun x H' y => hs i x H H' lt p (wk.yields i H x H' lt (hG i H hi p) y)⟩
  · obtain rfl : i = n := Nat.le_antisymm hi ge
    exact .inl ⟨wk.stops H (hG _ H hi p), hd H p⟩
/-- the second for -/
theorem inn_it (wk : Walk J n G Y) {g1 : TG} {tb1 : TT} {te : TE} {own1 : List Nat} {σ2 : L2.St} {H4 : Hp} {D : Addr} {Nx : Hp → Prop} (Pv : Nat → Hp → Prop) (h0 : Pv 0 H4) (hG : ∀ j H, j ≤ n → Pv j H → G H)
    (hs : ∀ j x H H', j < n → Pv j H → Y j H x H' → g1 x (wipe σ2 own1) H' fun σ3 H5 => wipe σ3 own1 = wipe σ2 own1 ∧ tb1 σ3 H5 fun b H6 =>
      if b = true then te σ3 H6 fun y H7 => ∃ zs, H7 D = some (.lst zs) ∧ zs.length < sizeLine ∧ Pv (j + 1) (upd H7 D (.lst (zs ++ [y]))) else Pv (j + 1) H6) (hd : ∀ H, Pv n H → Nx H) :
    ∃ U1 : Nat → Nat → Hp → Prop, (∃ m, U1 0 m H4) ∧ ∀ j k H, U1 j k H →
      (J.stop j H ∧ Nx H) ∨ (J.go j H ∧ ∃ N1 : Hp → Prop, (∀ H', N1 H' → ∃ k', k' < k ∧ U1 (j + 1) k' H') ∧ ∀ x H', J.yld j H x H' → g1 x (wipe σ2 own1) H' fun σ3 H5 => wipe σ3 own1 = wipe σ2 own1 ∧ tb1 σ3 H5 fun b H6 =>
        if b = true then te σ3 H6 fun y H7 => ∃ zs, H7 D = some (.lst zs) ∧ zs.length < sizeLine ∧ N1 (upd H7 D (.lst (zs ++ [y]))) else N1 H6) := by
  refine ⟨fun j m H => (m = n - j ∧ j ≤ n) ∧ Pv j H, ⟨n, ⟨by omega, by omega⟩, h0⟩, ?_⟩
  rintro j m H ⟨⟨rfl, hj⟩, p⟩
  rcases Nat.lt_or_ge j n with lt | ge
  · exact .inr ⟨wk.goes j H lt (hG j H hj p), Pv (j + 1), fun H' p' => ⟨n - (j + 1), by omega, ⟨rfl, lt⟩, p'⟩, fun x H' y => hs j x H H' lt p (wk.yields j H x H' lt (hG j H hj p) y)⟩
  · obtain rfl : j = n := Nat.le_antisymm hj ge
    exact .inl ⟨wk.stops H (hG _ H hj p), hd H p⟩
end
end Yr
/-! Watchers and spots of a plan. -/
namespace Kx
open PySem PySem.Spec PyProof.Rows L2 Xa Xb Xc Xd Xs Xp Xm Xl Xq Ya Yb Yc Yd Ye Yf Yr
abbrev sWatchers : Stmt := top 40
abbrev sSpots : Stmt := top 41
/-- the pairs (number of the piece, place), the first piece being numbered t -/
def wtsN : Nat → List (List Int) → List (List Int)
  | _, [] => []
  | t, p :: r => (p.map fun z => [(t : Int), z]) ++ wtsN (t + 1) r
def wts (ps : List (List Int)) : List (List Int) := wtsN 0 ps
theorem wtsN_snoc : ∀ (t : Nat) (ps : List (List Int)) (p : List Int), wtsN t (ps ++ [p]) = wtsN t ps ++ p.map fun z => [((t + ps.length : Nat) : Int), z]
  | t, [], p => by simp [wtsN]
  | t, q :: r, p => by
    rw [List.cons_append, wtsN, wtsN_snoc (t + 1) r p, wtsN, List.append_assoc, List.length_cons]
    have e : t + 1 + r.length = t + (r.length + 1) := by omega
    rw [e]
theorem wts_snoc (ps : List (List Int)) (p : List Int) : wts (ps ++ [p]) = wts ps ++ p.map fun z => [(ps.length : Int), z] := by
  unfold wts
  rw [wtsN_snoc, Nat.zero_add]
theorem wtsN_len {m : Nat} : ∀ (t : Nat) (ps : List (List Int)), (∀ p ∈ ps, p.length ≤ m) → (wtsN t ps).length ≤ m * ps.length
  | _, [], _ => Nat.zero_le _
  | t, p :: r, h => by
    have h1 := wtsN_len (t + 1) r fun q hq => h q (List.mem_cons_of_mem _ hq)
    have h2 := h p List.mem_cons_self
    rw [wtsN, List.length_append, List.length_map, List.length_cons, Nat.mul_succ]
    omega
theorem wts_len {m : Nat} {ps : List (List Int)} (h : ∀ p ∈ ps, p.length ≤ m) : (wts ps).length ≤ m * ps.length := wtsN_len 0 ps h
theorem small_ {n : Nat} (h : n ≤ 1000000) : n < sizeLine := by rw [sizeLine_eq]; omega
/-- a list of tuples stands at r -/
structure TL (H : Hp) (r : Addr) (ws : List (Addr × List Int)) : Prop where
  li : H r = some (.lst (ws.map fun q => V.ref q.1))
  tu : TupsAt H ws
theorem TL.same {H H' : Hp} {r : Addr} {ws : List (Addr × List Int)} (e : Same H H') (T : TL H r ws) : TL H' r ws := ⟨e _ _ T.li, fun q hq => e _ _ (T.tu q hq)⟩
/-- one more tuple put behind -/
theorem TL.put {H : Hp} {r t : Addr} {ws : List (Addr × List Int)} {l : List Int} (T : TL H r ws) (nt : H t = none) : TL (upd (upd H t (.tup (l.map V.int))) r (.lst ((ws.map fun q => V.ref q.1) ++ [.ref t]))) r (ws ++ [(t, l)]) := by
  refine ⟨by rw [upd_same, List.map_append] <;> rfl, fun q hq => ?_⟩
  have rt : r ≠ t := ne_of_none T.li nt
  rcases List.mem_append.mp hq with hq | hq
  · have y := T.tu q hq
    rw [upd_ne (ne_of y T.li (by intro z; cases z)), upd_ne (ne_of_none y nt)]
    exact y
  · rw [List.mem_singleton.mp hq]
    rw [upd_ne (Ne.symm rt), upd_same]
section
variable {P : Program} {w : World} {K : PySem.W.Frag} {mg : Str → Option Value} {base : Heap} {f : Addr} {fd : FuncData}
def spWatchers : Sp := fun xs H Q _ => ∃ (u : Addr) (ks : List (Addr × List Int)), xs = [.ref u] ∧ LL H u ks ∧ ks.length ≤ 300 ∧ (∀ q ∈ ks, q.2.length ≤ 10) ∧ ∀ (r : Addr) (ws : List (Addr × List Int)) (H' : Hp), Same H H' → H r = none → TL H' r ws → ws.map (·.2) = wts (ks.map (·.2)) → Q (.ref r) H'
abbrev nWatchers : List Str := ["plan", "t", "place", "piece"]
theorem scWatchers : FnScope nWatchers ["plan"] (defScope sWatchers) := ⟨rfl, rfl, rfl, by decide +kernel, rfl, by decide +kernel, by decide +kernel⟩
theorem can_watchers (D : Dfn K mg "watchers" sWatchers) (B : Bi3 mg) : Can P w K mg base CX0 1 "watchers" ["plan"] spWatchers := by
  obtain ⟨f, fd, F, g⟩ := D.at_
  refine FnOk.can (F.ok scWatchers (fun xs H Q E h => ?_) (fun cdv A outer s H vs Q E hr h => ?_)) F g fun _ _ _ _ _ _ us hl => match us, hl with | [_], _ => rfl
  · obtain ⟨u, ks, rfl, _⟩ := h
    rfl
  · obtain ⟨u, ks, rfl, L, few, sh, q⟩ := h
    refine ⟨_, PSs.nox <| pss_one <| ps_ret <| pe_lc2 (own := [("t", 1), ("place", 2), ("piece", 3)]) (vs1 := [2]) (g := gTup K 2 (gCons (gName 1) (gCons (gName 3) gNil))) (tt := tYes) (wi1 := iList K (tVar 3)) (g1 := gName 2) (tt1 := tYes) rfl scWatchers.nd (pi_enum (by rfl) B.enum <| pa1 <| pv 0)
        (blkOk_by (own := [("t", 1), ("place", 2), ("piece", 3)]) (N := nWatchers) (sc := defScope sWatchers) (by decide +kernel)) (by decide)
        (fun _ _ _ _ _ => pg_tup (by rfl) <| pgs_cons (pg_name (i := 1) scWatchers.nd rfl (Or.inl rfl)) <| pgs_cons (pg_name (i := 3) scWatchers.nd rfl (Or.inl rfl)) pgs_nil) (fun _ _ _ _ _ => pts_nil) (fun _ _ _ _ _ => pi_list <| pv 3)
        (fun _ _ _ _ _ => pg_name (i := 2) scWatchers.nd rfl (Or.inl rfl)) (fun _ _ _ _ _ => pts_nil) (fun _ _ _ _ _ => pe_tup <| pa_cons (pv 1) <| pa1 <| pv 2), ?_⟩
    refine ⟨_, rfl, u, _, rfl, SqL.of L.1, fun D nD => ?_⟩
    refine two_it (walk_enum (K := K) (a := u) (xs := ks.map fun q => V.ref q.1)) (fun i H' => ∃ ws, TL H' D ws ∧ ws.map (·.2) = wts ((ks.take i).map (·.2)) ∧ Same H H') ⟨[], ⟨upd_same, fun q hq => nomatch hq⟩, rfl, upd_same_as nD⟩ (fun i H' _ ⟨_, _, _, sm⟩ => SqL.of (sm _ _ L.1)) ?_ ?_
    · rintro i x H' H'' lt ⟨ws, T, ew, sm⟩ ⟨p, m, n, rfl, np, rfl, hm, hn2⟩
      obtain rfl : V.int (i : Nat) = m := Option.some.inj hm
      obtain ⟨r, hr2, rfl⟩ : ∃ r, ks[i]? = some r ∧ n = .ref r.1 := by
        have hn2 : (ks.map fun q => V.ref q.1)[i]? = some n := hn2
        rw [List.getElem?_map] at hn2
        cases e : ks[i]? with
        | none =>
          rw [e] at hn2
          cases hn2
        | some r =>
          rw [e] at hn2
          exact ⟨r, rfl, (Option.some.inj hn2).symm⟩
      have il := (List.getElem?_eq_some_iff.mp hr2).1
      have rin := List.mem_of_getElem? hr2
      have lr := sh r rin
      have s2 := upd_same_as (o := .tup [V.int (i : Nat), .ref r.1]) np
      have hrr := s2 _ _ (sm _ _ (L.2 r rin))
      have T2 := T.same s2
      have s02 := sm.trans s2
      refine ⟨p, _, rfl, SqT.of upd_same, rfl, _, _, rfl, _, _, rfl, rfl, rfl, lc_yes2 ⟨_, rfl, r.1, rfl, ⟨_, SqL.of hrr⟩, ?_⟩⟩
      generalize upd H' p (.tup [V.int (i : Nat), .ref r.1]) = H2 at hrr T2 s02 ⊢
      have ln : (wts ((ks.take i).map (·.2))).length ≤ 10 * 300 := by
        have h := wts_len (m := 10) (ps := (ks.take i).map (·.2)) fun p hp => by
          obtain ⟨y, hy, rfl⟩ := List.mem_map.mp hp
          exact sh y (List.mem_of_mem_take hy)
        rw [List.length_map, List.length_take] at h
        have : min i ks.length ≤ 300 := by omega
        have := Nat.mul_le_mul_left 10 this
        omega
      refine inn_it (walk_list (K := K) (a := r.1) (xs := r.2.map V.int)) (fun j H4 => ∃ ws', TL H4 D ws' ∧ ws'.map (·.2) = wts ((ks.take i).map (·.2)) ++ (r.2.take j).map (fun z => [(i : Int), z]) ∧ Same H H4) ⟨ws, T2, by rw [ew]; simp, s02⟩ (fun j H4 _ ⟨_, _, _, s⟩ => SqL.of (s _ _ (L.2 r rin))) ?_ ?_
      · rintro j y H4 H5 lt2 ⟨ws', T4, e4, s4⟩ ⟨rfl, hy⟩
        obtain ⟨z, hz, rfl⟩ : ∃ z, r.2[j]? = some z ∧ y = .int z := by
          rw [List.getElem?_map] at hy
          cases e : r.2[j]? with
          | none =>
            rw [e] at hy
            cases hy
          | some z =>
            rw [e] at hy
            exact ⟨z, rfl, (Option.some.inj hy).symm⟩
        have jl := (List.getElem?_eq_some_iff.mp hz).1
        have wl : ws'.length ≤ 10 * 300 + 10 := by
          have h := congrArg List.length e4
          rw [List.length_map, List.length_append, List.length_map, List.length_take] at h
          omega
        refine ⟨rfl, lc_yes2 ⟨_, rfl, _, rfl, (by show 2 ≤ sizeLine; decide), fun t nt => ?_⟩⟩
        have Dt : D ≠ t := ne_of_none T4.li nt
        have up : ∀ {X : Hp}, Same X H5 → X D = none → Same X (upd (upd H5 t (.tup [V.int (i : Nat), .int z])) D (.lst ((ws'.map fun q => V.ref q.1) ++ [.ref t]))) := fun {X} sx nX c o e => by
          rw [upd_ne (ne_of_none e nX)]
          exact upd_same_as nt _ _ (sx _ _ e)
        refine ⟨_, by rw [upd_ne Dt]; exact T4.li, by rw [List.length_map]; exact small_ (by omega), ws' ++ [(t, [(i : Int), z])], T4.put (l := [(i : Int), z]) nt, ?_, up s4 nD⟩
        rw [List.map_append, e4, List.take_add_one, hz, List.append_assoc]
        simp
      · rintro H4 ⟨ws', T4, e4, s4⟩
        rw [List.length_map, List.take_length] at e4
        refine ⟨ws', T4, ?_, s4⟩
        rw [e4, List.take_add_one, hr2]
        have e : ((ks.take i).map (·.2)).length = i := by
          rw [List.length_map, List.length_take]
          omega
        show _ = wts ((ks.take i ++ [r]).map (·.2))
        rw [List.map_append]
        show _ = wts ((ks.take i).map (·.2) ++ [r.2])
        rw [wts_snoc, e]
    · rintro H' ⟨ws, T, ew, sm⟩
      rw [List.length_map, List.take_length] at ew
      exact q D ws H' sm nD T ew
/-! ### spots -/
def rangeI (pl : Nat) : List Int := (List.range pl).map fun (j : Nat) => (j : Int)
def grid (n pl : Nat) : List (List Int) := wts (List.replicate n (rangeI pl))
def spSpots : Sp := fun xs H Q _ => ∃ (n pl : Nat), xs = [.int n, .int pl] ∧ n ≤ 300 ∧ pl ≤ 10 ∧ ∀ (r : Addr) (ws : List (Addr × List Int)) (H' : Hp), Same H H' → H r = none → TL H' r ws → ws.map (·.2) = grid n pl → Q (.ref r) H'
abbrev nSpots : List Str := ["n", "places", "t", "j"]
theorem scSpots : FnScope nSpots ["n", "places"] (defScope sSpots) := ⟨rfl, rfl, rfl, by decide +kernel, rfl, by decide +kernel, by decide +kernel⟩
theorem can_spots (D : Dfn K mg "spots" sSpots) (B : Bi3 mg) : Can P w K mg base CX0 1 "spots" ["n", "places"] spSpots := by
  obtain ⟨f, fd, F, g⟩ := D.at_
  refine FnOk.can (F.ok scSpots (fun xs H Q E h => ?_) (fun cdv A outer s H vs Q E hr h => ?_)) F g fun _ _ _ _ _ _ us hl => match us, hl with | [_, _], _ => rfl
  · obtain ⟨n, pl, rfl, _⟩ := h
    rfl
  · obtain ⟨n, pl, rfl, n3, p1, q⟩ := h
    refine ⟨_, PSs.nox <| pss_one <| ps_ret <| pe_lc2 (own := [("t", 2), ("j", 3)]) (vs1 := [3]) (g := gName 2) (tt := tYes) (wi1 := iRng1 (tCons (tVar 1) tNil)) (g1 := gName 3) (tt1 := tYes) rfl scSpots.nd (pi_range1 (by rfl) B.range <| pa1 <| pv 0)
        (blkOk_by (own := [("t", 2), ("j", 3)]) (N := nSpots) (sc := defScope sSpots) (by decide +kernel)) (by decide)
        (fun _ _ _ _ _ => pg_name (i := 2) scSpots.nd rfl (Or.inl rfl)) (fun _ _ _ _ _ => pts_nil) (fun _ _ _ _ _ => pi_range1 (by rfl) B.range <| pa1 <| pv 1)
        (fun _ _ _ _ _ => pg_name (i := 3) scSpots.nd rfl (Or.inl rfl)) (fun _ _ _ _ _ => pts_nil) (fun _ _ _ _ _ => pe_tup <| pa_cons (pv 2) <| pa1 <| pv 3), ?_⟩
    refine ⟨_, rfl, _, rfl, by omega, by omega, fun D nD => ?_⟩
    refine two_it (walk_range (lo := 0) (n := n)) (fun i H' => ∃ ws, TL H' D ws ∧ ws.map (·.2) = grid i pl ∧ Same H H') ⟨[], ⟨upd_same, fun q hq => nomatch hq⟩, rfl, upd_same_as nD⟩ (fun i H' _ _ => trivial) ?_ ?_
    · rintro i x H' H'' lt ⟨ws, T, ew, sm⟩ ⟨rfl, rfl⟩
      have rl : (rangeI pl).length = pl := by rw [rangeI, List.length_map, List.length_range]
      have ln : (grid i pl).length ≤ 10 * 300 := by
        have h := wts_len (m := 10) (ps := List.replicate i (rangeI pl)) fun p hp => by
          rw [List.eq_of_mem_replicate hp, rl]
          exact p1
        rw [List.length_replicate] at h
        exact Nat.le_trans h (Nat.mul_le_mul_left 10 (by omega))
      refine ⟨rfl, lc_yes2 ⟨_, rfl, _, rfl, by omega, by omega, ?_⟩⟩
      refine inn_it (walk_range (lo := 0) (n := pl)) (fun j H4 => ∃ ws', TL H4 D ws' ∧ ws'.map (·.2) = grid i pl ++ ((rangeI pl).take j).map (fun z => [(i : Int), z]) ∧ Same H H4) ⟨ws, T, by rw [ew]; simp, sm⟩ (fun j H4 _ _ => trivial) ?_ ?_
      · rintro j y H4 H5 lt2 ⟨ws', T4, e4, s4⟩ ⟨rfl, rfl⟩
        have wl : ws'.length ≤ 10 * 300 + 10 := by
          have h := congrArg List.length e4
          rw [List.length_map, List.length_append, List.length_map, List.length_take] at h
          omega
        have hz : (rangeI pl)[j]? = some (j : Int) := by
          rw [rangeI, List.getElem?_map, List.getElem?_range lt2]
          rfl
        have ei : (0 : Int) + (i : Nat) = (i : Int) := Int.zero_add _
        have ej : (0 : Int) + (j : Nat) = (j : Int) := Int.zero_add _
        refine ⟨rfl, lc_yes2 ⟨_, rfl, _, rfl, (by show 2 ≤ sizeLine; decide), fun t nt => ?_⟩⟩
        simp only [ei, ej]
        have Dt : D ≠ t := ne_of_none T4.li nt
        refine ⟨_, by rw [upd_ne Dt]; exact T4.li, by rw [List.length_map]; exact small_ (by omega), ws' ++ [(t, [(i : Int), j])], T4.put (l := [(i : Int), j]) nt, ?_, fun c o e => ?_⟩
        · rw [List.map_append, e4, List.take_add_one, hz, List.append_assoc]
          simp
        · rw [upd_ne (ne_of_none e nD)]
          exact upd_same_as nt _ _ (s4 _ _ e)
      · rintro H4 ⟨ws', T4, e4, s4⟩
        refine ⟨ws', T4, ?_, s4⟩
        have e : (rangeI pl).take pl = rangeI pl := by
          exact List.take_of_length_le (by omega)
        rw [e4, e, grid, grid, List.replicate_succ', wts_snoc, List.length_replicate]
    · rintro H' ⟨ws, T, ew, sm⟩
      exact q D ws H' sm nD T ew
end
end Kx
/-! Dict comprehensions whose keys are tuples. -/
namespace Zb
open L2 PySem PySem.Spec PyProof.Rows
/-- stored under the tuple at b -/
theorem dt_put {X : Cx} {pns : List (Addr × Obj)} {vs : L2.St} {G : Hp} {sh : Shared} {EE : Value → Shared → Prop} {D b : Addr} {ents : List (List L2.Key × V)} {k : List L2.Key} {v : V} {r : Value} {Q : Unit → Shared → Prop} (hu : X.A.units + 1 < cLine) (J : Inv X pns vs G sh)
    (hD : G D = some (.dT ents)) (hb : G b = some (.tup (k.map kV))) (lt : ents.length < sizeLine) (rv : RelV v r) (h : ∀ sh', Inv X pns vs (upd G D (.dT (putK ents k v))) sh' → Q () sh') : wpAny (model X.prog X.w) X.A (dictSet D (.ref b) r) Q EE sh := by
  obtain ⟨z, nsys, xs, rel, dd⟩ := dt_of J.hok hD
  have sz : xs.length ≤ sizeLine := Nat.le_trans (Nat.le_of_eq (Paired.length rel).symm) z
  have sz2 := length_putK ents k v
  refine wpAny_dictSet_heap (hsz := sz) (show (tupleKind (mixKind X.prog X.w)).room X.A from Nat.lt_of_succ_lt hu) (key_of J.hok hb) dd fun h' dd' sb => h _ ?_
  obtain ⟨o, es, ep, e1, e2, e3, e4, _, e5⟩ := dd'
  have kt := (rel.put k hb rv).keeps (H' := upd G D (.dT (putK ents k v))) fun c ys ec => by
    have ne := ne_of ec hD (by intro y; cases y)
    rw [upd_ne ne]
    exact ec
  exact d_write J (by rw [hD]; trivial) sb ⟨o, e1⟩ ⟨by omega, nsys, _, kt, o, es, ep, e1, e2, e3, e4, e5⟩
section
variable {X : Cx}
/-- {k: v for target in iter if ..}, the keys tuples: D the new dict -/
def tDt (wi : TI) (g : TG) (tt : TT) (tk tv : TE) (own : List Nat) : TE := fun vs G Q => wi vs G fun J G1 => ∀ D, G1 D = none → ∃ W : Nat → Nat → Hp → Prop, (∃ m, W 0 m (upd G1 D (.dT []))) ∧ ∀ j m G, W j m G →
  (J.stop j G ∧ Q (.ref D) G) ∨ (J.go j G ∧ ∃ Nx : Hp → Prop, (∀ G', Nx G' → ∃ m', m' < m ∧ W (j + 1) m' G') ∧ ∀ x G', J.yld j G x G' → g x (wipe vs own) G' fun v2 G2 => wipe v2 own = wipe vs own ∧ tt v2 G2 fun b G3 =>
    if b = true then tk v2 G3 fun y G4 => tv v2 G4 fun z G5 => ∃ ents k q, (y = .ref q ∧ G5 q = some (.tup (k.map kV))) ∧ (G5 D = some (.dT ents) ∧ ents.length < sizeLine) ∧ Nx (upd G5 D (.dT (putK ents k z))) else Nx G3)
abbrev BlkA (X : Cx) (sc : Scope) (sh : Shared) (G : Hp) (C : Addr) (cl : List (Str × Addr)) (fp : List Addr) : Cx := X.blk sh G sc (compEnvC sc cl C X.env) fp
/-- what is common: the new dict is told, the block's cell still stands -/
theorem dt_core {pns : List (Addr × Obj)} {sh : Shared} {vs : L2.St} {G : Hp} {Q : VK} {kx vx tg iter : Expr} {ifs : List Expr} {sc : Scope} {own : List (Str × Nat)} {pos at_ : Pos} {wi : TI} {g : TG} {tt : TT} {tk tv : TE} {us : Option (Value → Sem Unit)} {Qf : Value → Shared → Prop}
    (calm : X.calm = true) (hu : X.A.units + 1 < cLine) (nd : X.N.Nodup) (I : Inv X pns vs G sh) (hi : PI X tg iter wi) (ok : BlkOk X.N X.env.scope sc own)
    (hg : ∀ sh G C cl fp, PG (BlkA X sc sh G C cl fp) tg g) (ht : ∀ sh G C cl fp, PTs (BlkA X sc sh G C cl fp) ifs tt) (hk : ∀ sh G C cl fp, PE (BlkA X sc sh G C cl fp) kx tk) (hv : ∀ sh G C cl fp, PE (BlkA X sc sh G C cl fp) vx tv)
    (hs : ∀ x, foldedSetIterable iter X.env x = pure x) (h : tDt wi g tt tk tv (own.map (·.2)) vs G Q)
    (fin0 : ∀ (D C : Addr) (sh' : Shared) (mm : Str → Option Value) (G' : Hp), Inv X pns vs G' sh' → Q (.ref D) G' → sh'.heap.Ns C mm → FpOk X pns G' C → compPost (model X.prog X.w) X.A X.xe us Qf (.ref D) C (.ok .next) sh') :
    wpAny (model X.prog X.w) X.A (comprehension (.DictComp kx vx [⟨tg, iter, ifs, 0⟩] sc pos) sc X.env at_ newDict false (eval iter X.env) us) Qf X.xe sh := by
  have free : ∀ y ∈ sc.names, y.2 = .free → ∃ c, X.env.cells.lookup y.1 = some c := fun y hy e => (ok.free y hy e).elim (fun k => I.ok.has _ (.inl k)) fun k => I.ok.has _ (.inr k)
  refine wpAny_comprehension_free (use := us) rfl hs (closure_ok free) ok.kind (fun y hy e => by rw [ok.uniq y hy, e]) (thn (hi.run pns sh vs G _ I h) fun xv a1 hx => thn hx fun iv a2 h2 => ?_)
  obtain ⟨it, fp, tn, J, G2, rfl, I2, T, t2, f2, q⟩ := h2
  refine (wpAny_newObj_type (newEnv_comp ?_))
  generalize eD : a2.heap.objs.size = D
  have nD : G2 D = none := I2.hok.fresh (Nat.le_of_eq eD)
  obtain ⟨W, ⟨m0, w0⟩, turn⟩ := q D nD
  generalize ea : ({ a2 with heap := a2.heap.push { cls := .type "dict", data := .dict #[] } } : Shared) = a3
  have ha3 : a3.heap = a2.heap.push { cls := .type "dict", data := .dict #[] } := by rw [← ea]
  have keep3 : ∀ c o, a2.heap.get? c = some o → a3.heap.get? c = some o := fun c o e => by
    rw [ha3]
    exact (Heap.get?_push_of_some _ e)
  have I3 : Inv X pns vs (upd G2 D (.dT [])) a3 := by
    subst ea eD
    exact I2.laid (t' := a2.toks) (fun c o e => Heap.get?_push_of_some _ e) (Nat.le_refl _) (dt_empty a2.heap I2.big)
  have f3 : ∀ c ∈ fp, FpOk X pns (upd G2 D (.dT [])) c ∧ c < a3.heap.objs.size := fun c hc => by
    obtain ⟨o, e, _⟩ := T.obj _ _ t2 c hc
    have lt := Heap.lt_size e
    refine ⟨⟨?_, (f2 c hc).2⟩, Heap.lt_size (keep3 c o e)⟩
    rw [upd_ne (fun z => by rw [z, ← eD] at lt; exact Nat.lt_irrefl _ lt)]
    exact (f2 c hc).1
  have t3 : tn 0 a3.heap := T.keep _ _ _ t2 fun c _ o e => keep3 c o e
  have I4 := block_start I3 ok nd f3
  have pg := hg a3 (upd G2 D (.dT [])) a3.heap.objs.size (cellsFrom (a3.heap.objs.size + 1) sc.names (cloFrom X.env.cells sc.names [])) fp
  have pt := ht a3 (upd G2 D (.dT [])) a3.heap.objs.size (cellsFrom (a3.heap.objs.size + 1) sc.names (cloFrom X.env.cells sc.names [])) fp
  have pk := hk a3 (upd G2 D (.dT [])) a3.heap.objs.size (cellsFrom (a3.heap.objs.size + 1) sc.names (cloFrom X.env.cells sc.names [])) fp
  have pv := hv a3 (upd G2 D (.dT [])) a3.heap.objs.size (cellsFrom (a3.heap.objs.size + 1) sc.names (cloFrom X.env.cells sc.names [])) fp
  have nf : ∀ c ∈ fp, (upd G2 D (.dT [])) c = none := fun c hc => (f3 c hc).1.1
  unfold BlkA at pg pt pk pv
  show codeAny _ _ (.compStart (.DictComp kx vx [⟨tg, iter, ifs, 0⟩] sc pos) 0 (.ref it) (.ref D) (compEnvC sc (cellsFrom (a3.heap.objs.size + 1) sc.names (cloFrom X.env.cells sc.names [])) a3.heap.objs.size X.env)) _ { a3 with heap := pushCells (a3.heap.push { cls := .type "dict", data := .dict #[] }) sc.names }
  generalize ee : compEnvC sc (cellsFrom (a3.heap.objs.size + 1) sc.names (cloFrom X.env.cells sc.names [])) a3.heap.objs.size X.env = ev at I4 pg pt pk pv ⊢
  have eL : ev.locals = a3.heap.objs.size := by rw [← ee]; rfl
  generalize upd G2 D (.dT []) = G3 at I3 I4 pg pt pk pv w0 nf f3
  generalize ea4 : ({ a3 with heap := pushCells (a3.heap.push { cls := .type "dict", data := .dict #[] }) sc.names } : Shared) = a4 at I4 ⊢
  have t4 : tn 0 a4.heap := T.keep _ _ _ t3 fun c _ o e => by
    rw [← ea4]
    exact pushCells_keeps _ _ _ _ (Heap.get?_push_of_some _ e)
  have okf : ∀ {us : L2.St} {G' : Hp} {sh' : Shared}, Inv (X.blk a3 G3 sc ev fp) [] us G' sh' → (∀ c ∈ fp, G' c = none) → ∀ c ∈ fp, FpOk (X.blk a3 G3 sc ev fp) [] G' c := fun I' n c hc =>
    ⟨n c hc, (I'.ok.exf c hc).1, I'.ok.exfs c hc, .inl hc, fun x y e => (I'.ok.exf c hc).2 x y e, fun p hp => nomatch hp⟩
  refine codeAny_compStart_dict ?_ (T.self X.A 0 _ _ _ t4 ?_)
  all_goals
    refine compLoop_anyD (fun n sh' => ∃ j G', Inv (X.blk a3 G3 sc ev fp) [] (wipe vs (own.map (·.2))) G' sh' ∧ (tn j sh'.heap ∧ ∀ c ∈ fp, G' c = none) ∧ W j n G') ?_ m0 ⟨0, G3, I4, ⟨t4, nf⟩, w0⟩
    rintro n a5 ⟨j, G5, I5, ⟨t5, n5⟩, w5⟩
    rcases turn j n G5 w5 with ⟨stop, qq⟩ | ⟨go, Nx, hN, step⟩
    · refine thnF (T.done (X.blk a3 G3 sc ev fp) rfl rfl rfl calm j [] a5 _ G5 (fun _ _ => False) I5 (okf I5 n5) t5 stop) fun r a6 ⟨hr, I6⟩ => ?_
      subst hr
      have I7 : Inv X pns vs G5 a6 := I3.call' (ch := fp) I6.os I6.base I6.hok I6.bare fun c hc => let ⟨_, y1, y2, y3, y4, y5⟩ := (f3 c hc).1; ⟨y3, y1, y4, y5⟩
      have nC : G5 a3.heap.objs.size = none := eL ▸ (show G5 ev.locals = none from I6.free)
      obtain ⟨mm, hn, _⟩ := I6.loc
      have hn : a6.heap.Ns a3.heap.objs.size mm := eL ▸ (show a6.heap.Ns ev.locals mm from hn)
      exact fin0 D _ a6 mm G5 I7 qq hn (I3.fpOk (Nat.le_refl _) nC)
    · refine thnF (T.item (X.blk a3 G3 sc ev fp) rfl rfl rfl calm j [] a5 _ G5 (fun _ _ => False) I5 (okf I5 n5) t5 go) fun r a6 ⟨u, hr, h6⟩ => ?_
      subst hr
      refine thnF h6 fun _ a7 ⟨x, G7, I7, r7, y7, t7, n7⟩ => ?_
      refine thnF (pg.run _ a7 _ G7 x u _ (I7.pinned (okf I7 n7) (T.obj _ _ t7)) r7 (step x G7 y7)) fun _ a8 ⟨v8, G8, I8, e8, q8⟩ => ?_
      refine thnF (pt.run _ a8 v8 G8 _ I8 q8) fun b a9 ⟨G9, I9, q9⟩ => ?_
      have fin : ∀ {sh' : Shared} {G' : Hp}, Inv (X.blk a3 G3 sc ev fp) ([] ++ pinsAt fp a7.heap) v8 G' sh' → Nx G' → ∃ m, m < n ∧ ∃ j G', Inv (X.blk a3 G3 sc ev fp) [] (wipe vs (own.map (·.2))) G' sh' ∧ (tn j sh'.heap ∧ ∀ c ∈ fp, G' c = none) ∧ W j m G' := fun {sh' G'} I' nx => by
        obtain ⟨m', lt, w'⟩ := hN G' nx
        have pin : ∀ c ∈ fp, ∀ o, a7.heap.get? c = some o → sh'.heap.get? c = some o ∧ G' c = none := fun c hc o e => by
          obtain ⟨y1, y2, _⟩ := I'.pin (c, o) (List.mem_append_right _ (List.mem_append_right _ (mem_pinsAt hc e)))
          exact ⟨y1, y2⟩
        refine ⟨m', lt, j + 1, G', (I'.unpinned (pins := [])).weak (by rw [← e8, wipe_length]) (fun i v e => ?_), ⟨T.keep _ _ _ t7 fun c hc o e => (pin c hc o e).1, fun c hc => ?_⟩, w'⟩
        · rw [← e8] at e
          exact (wipe_some e).1
        · obtain ⟨o, e, _⟩ := T.obj _ _ t7 c hc
          exact (pin c hc o e).2
      cases b with
      | false =>
        simp only [if_false, Bool.false_eq_true] at q9 ⊢
        exact fin I9 q9
      | true =>
        simp only [if_true] at q9 ⊢
        refine thnF (pk.run _ a9 v8 G9 _ I9 q9) fun z1 a10 ⟨y1, G10, I10, r10, q10⟩ => ?_
        refine thnF (pv.run _ a10 v8 G10 _ I10 q10) fun z2 a11 ⟨y2, G11, I11, r11, ents, k, p, ⟨ek, hp⟩, ⟨hD, lt⟩, nx⟩ => ?_
        subst ek
        cases r10
        exact dt_put (X := X.blk a3 G3 sc ev fp) hu I11 hD hp lt r11 fun a12 I12 => fin I12 nx
/-- as a value -/
theorem pe_dt {kx vx tg iter : Expr} {ifs : List Expr} {sc : Scope} {own : List (Str × Nat)} {pos : Pos} {wi : TI} {g : TG} {tt : TT} {tk tv : TE} (calm : X.calm = true) (hu : X.A.units + 1 < cLine) (nd : X.N.Nodup) (hi : PI X tg iter wi) (ok : BlkOk X.N X.env.scope sc own)
    (hg : ∀ sh G C cl fp, PG (BlkA X sc sh G C cl fp) tg g) (ht : ∀ sh G C cl fp, PTs (BlkA X sc sh G C cl fp) ifs tt) (hk : ∀ sh G C cl fp, PE (BlkA X sc sh G C cl fp) kx tk) (hv : ∀ sh G C cl fp, PE (BlkA X sc sh G C cl fp) vx tv)
    (hs : ∀ x, foldedSetIterable iter X.env x = pure x := by intro _; rfl) : PE X (.DictComp kx vx [⟨tg, iter, ifs, 0⟩] sc pos) (tDt wi g tt tk tv (own.map (·.2))) := by
  refine ⟨fun pns sh vs G Q I h => ?_⟩
  rw [arm_eval_DictComp]
  refine dt_core calm hu nd I hi ok hg ht hk hv hs h fun D C sh' mm G' I' q hn fp => ⟨mm, hn, fun h2 sb => ?_⟩
  obtain ⟨y0, y1, y2, y3, y4, y5⟩ := fp
  exact ⟨.ref D, G', I'.turned (t' := sh'.toks) (fun c o hc e => (sb.2 c hc).trans e) y0 y1 y3 y4 y5, rfl, q⟩
/-- name = {..} on one line, the name a local -/
theorem ps_setDt {i : Nat} {y : Str} {py : Pos} {kx vx tg iter : Expr} {ifs : List Expr} {sc : Scope} {own : List (Str × Nat)} {pos sp : Pos} {wi : TI} {g : TG} {tt : TT} {tk tv : TE} (calm : X.calm = true) (hu : X.A.units + 1 < cLine) (nd : X.N.Nodup) (hy : X.N[i]? = some y) (hyl : X.env.scope.names.lookup y = some .local)
    (sw : swapsWith (.DictComp kx vx [⟨tg, iter, ifs, 0⟩] sc pos) (some (.Name y py)) sp.line X.env = pure true) (hi : PI X tg iter wi) (ok : BlkOk X.N X.env.scope sc own)
    (hg : ∀ sh G C cl fp, PG (BlkA X sc sh G C cl fp) tg g) (ht : ∀ sh G C cl fp, PTs (BlkA X sc sh G C cl fp) ifs tt) (hk : ∀ sh G C cl fp, PE (BlkA X sc sh G C cl fp) kx tk) (hv : ∀ sh G C cl fp, PE (BlkA X sc sh G C cl fp) vx tv)
    (hs : ∀ x, foldedSetIterable iter X.env x = pure x := by intro _; rfl) : PS X (.Assign [.Name y py] (.DictComp kx vx [⟨tg, iter, ifs, 0⟩] sc pos) sp) (tAsg (tDt wi g tt tk tv (own.map (·.2))) (gName i)) := by
  refine ⟨fun pns sh vs G De I h => ?_⟩
  rw [exec_Assign_Name_used _ _ _ _ sw]
  refine (wpAny_bind (wpAny_standAt (wpAny_bind ?_)))
  show wpAny _ X.A (do let _ ← comprehension (.DictComp kx vx [⟨tg, iter, ifs, 0⟩] sc pos) sc X.env (firstIterPos [⟨tg, iter, ifs, 0⟩] pos) newDict false (eval iter X.env) (some (assign (.Name y py) X.env))) _ _ sh
  have h : tDt wi g tt tk tv (own.map (·.2)) vs G (fun x G1 => gName i x vs G1 De.nx) := h
  refine wpAny_bind (thn (dt_core (Qf := fun _ sh' => SP X pns De .next sh') calm hu nd I hi ok hg ht hk hv hs h fun D C sh' mm G' I' q hn fp => ?_) fun _ sh' hq => wpAny_pure (wpAny_pure hq))
  show wpAny _ _ (assign (.Name y py) X.env (.ref D)) _ _ _
  obtain ⟨y0, y1, y2, y3, y4, y5⟩ := fp
  refine wpAny_assign_Name (store_ok2 (v := V.ref D) I' nd hy (.inl hyl) rfl (fun a I2 ⟨c, sb, hc⟩ => ?_) (.inr hyl))
  have ne : C ≠ c := hc.elim (fun z => z ▸ y1) fun z e => y4 y c z e.symm
  exact ⟨mm, hn.sameBut sb ne, fun h3 sb3 => ⟨_, G', I2.turned (t' := a.toks) (fun b o hb e => (sb3.2 b hb).trans e) y0 y1 y3 y4 y5, q⟩⟩
theorem sw_dict {kx vx : Expr} {gs : List Comprehension} {sc : Scope} {pos py : Pos} {y : Str} {l : Nat} {env : Env} (hk : env.scope.kind = .function) (hy : env.scope.names.lookup y = some .local) (hl : (py.line == pos.line) = true)
    (ha : (sc.names.any fun (n, k) => n == y && (k == .local || k == .cell)) = false) : swapsWith (.DictComp kx vx gs sc pos) (some (.Name y py)) l env = pure true := by
  have e1 : env.kindOf y = some .local := hy
  have e2 : env.blockKind = .function := by
    unfold Env.blockKind
    rw [hk]
    rfl
  unfold swapsWith
  simp only [e2, e1, ha, Expr.pos, hl]
  rfl
/-- gone through: Pv by the turn and the heap (the new dict at D within) -/
theorem dt_it {J : It} {n : Nat} {Gd : Hp → Prop} {Y : Nat → Hp → V → Hp → Prop} (wk : Walk J n Gd Y) {g : TG} {tt : TT} {tk tv : TE} {own : List Nat} {vs : L2.St} {G1 : Hp} {D : Addr} {Qd : Hp → Prop} (Pv : Nat → Hp → Prop) (h0 : Pv 0 (upd G1 D (.dT []))) (hG : ∀ j G, j ≤ n → Pv j G → Gd G)
    (hs : ∀ j x G G', j < n → Pv j G → Y j G x G' → g x (wipe vs own) G' fun v2 G2 => wipe v2 own = wipe vs own ∧ tt v2 G2 fun b G3 =>
      if b = true then tk v2 G3 fun y G4 => tv v2 G4 fun z G5 => ∃ ents k q, (y = .ref q ∧ G5 q = some (.tup (k.map kV))) ∧ (G5 D = some (.dT ents) ∧ ents.length < sizeLine) ∧ Pv (j + 1) (upd G5 D (.dT (putK ents k z))) else Pv (j + 1) G3) (hd : ∀ G, Pv n G → Qd G) :
    ∃ W : Nat → Nat → Hp → Prop, (∃ m, W 0 m (upd G1 D (.dT []))) ∧ ∀ j m G, W j m G →
      (J.stop j G ∧ Qd G) ∨ (J.go j G ∧ ∃ Nx : Hp → Prop, (∀ G', Nx G' → ∃ m', m' < m ∧ W (j + 1) m' G') ∧ ∀ x G', J.yld j G x G' → g x (wipe vs own) G' fun v2 G2 => wipe v2 own = wipe vs own ∧ tt v2 G2 fun b G3 =>
        if b = true then tk v2 G3 fun y G4 => tv v2 G4 fun z G5 => ∃ ents k q, (y = .ref q ∧ G5 q = some (.tup (k.map kV))) ∧ (G5 D = some (.dT ents) ∧ ents.length < sizeLine) ∧ Nx (upd G5 D (.dT (putK ents k z))) else Nx G3) := by
  refine ⟨fun j m G => (m = n - j ∧ j ≤ n) ∧ Pv j G, ⟨n, ⟨by omega, by omega⟩, h0⟩, ?_⟩
  rintro j m G ⟨⟨rfl, hj⟩, p⟩
  rcases Nat.lt_or_ge j n with lt | ge
  · exact .inr ⟨wk.goes j G lt (hG j G hj p), Pv (j + 1), fun G' p' => ⟨n - (j + 1), by omega, ⟨rfl, lt⟩, p'⟩, fun x G' y => hs j x G G' lt p (wk.yields j G x G' lt (hG j G hj p) y)⟩
  · obtain rfl : j = n := Nat.le_antisymm hj ge
    exact .inl ⟨wk.stops G (hG _ G hj p), hd G p⟩
end
end Zb
/-! Who hears what: the table. -/
namespace Kx
open PySem PySem.Spec PyProof.Rows L2 Xa Xb Xc Xd Xs Xp Xm Xl Xq Ya Yb Yc Yd Ye Yf Yr Zb
/-- a spot as a key -/
def kI (k : List Int) : List L2.Key := k.map Sum.inl
theorem kI_v (k : List Int) : (kI k).map kV = k.map V.int := by
  rw [kI, List.map_map]
  rfl
theorem kI_inj {k k' : List Int} (h : kI k = kI k') : k = k' := (List.map_inj_right fun a b e => by injection e).mp h
def entsOf (ks : List (List Int)) (ad : List Int → Addr) : List (List L2.Key × V) := ks.map fun k => (kI k, V.ref (ad k))
theorem ents_val {ad : List Int → Addr} : ∀ {ks : List (List Int)} {k : List Int}, k ∈ ks → valV (entsOf ks ad) (kI k) = some (.ref (ad k))
  | x :: ks, k, h => by
    by_cases e : x = k
    · subst e
      exact valV_pos rfl
    · rw [entsOf, List.map_cons, valV_neg (fun z => e (kI_inj z))]
      exact ents_val ((List.mem_cons.mp h).resolve_left (Ne.symm e))
theorem ents_none {ad : List Int → Addr} : ∀ {ks : List (List Int)} {k : List Int}, k ∉ ks → valV (entsOf ks ad) (kI k) = none
  | [], _, _ => rfl
  | x :: ks, k, h => by
    rw [entsOf, List.map_cons, valV_neg (fun z => h (by rw [kI_inj z]; exact List.mem_cons_self))]
    exact ents_none fun z => h (List.mem_cons_of_mem _ z)
/-- the table stands at d: for each of the keys ks a list of its own, told by cs -/
structure Tab (H0 : Hp) (d : Addr) (ks : List (List Int)) (ad : List Int → Addr) (cs : List Int → List (List Int)) (H' : Hp) : Prop where
  same : Same H0 H'
  di : H' d = some (.dT (entsOf ks ad))
  el : ∀ k ∈ ks, ∃ ws : List (Addr × List Int), TL H' (ad k) ws ∧ ws.map (·.2) = cs k
  new : ∀ k ∈ ks, H0 (ad k) = none
  nd : H0 d = none
  inj : ∀ k ∈ ks, ∀ k' ∈ ks, ad k = ad k' → k = k'
section
variable {H0 H' H2 : Hp} {d a : Addr} {ks : List (List Int)} {ad : List Int → Addr} {cs : List Int → List (List Int)} {k w : List Int}
theorem Tab.up (T : Tab H0 d ks ad cs H') (s : Same H' H2) : Tab H0 d ks ad cs H2 := ⟨T.same.trans s, s _ _ T.di, fun k hk => let ⟨ws, h, e⟩ := T.el k hk; ⟨ws, h.same s, e⟩, T.new, T.nd, T.inj⟩
/-- one more put behind the list of k -/
theorem Tab.put (T : Tab H0 d ks ad cs H') (hk : k ∈ ks) (ha : H' a = some (.tup (w.map V.int))) {ws : List (Addr × List Int)} (hw : TL H' (ad k) ws) (ew : ws.map (·.2) = cs k) :
    Tab H0 d ks ad (fun x => if x = k then cs k ++ [w] else cs x) (upd H' (ad k) (.lst ((ws.map fun q => V.ref q.1) ++ [.ref a]))) := by
  refine ⟨fun c o e => ?_, ?_, fun x hx => ?_, T.new, T.nd, T.inj⟩
  · rw [upd_ne (ne_of_none e (T.new k hk))]
    exact T.same c o e
  · rw [upd_ne (ne_of T.di hw.li (by intro z; cases z))]
    exact T.di
  · by_cases e : x = k
    · subst e
      rw [if_pos rfl]
      refine ⟨ws ++ [(a, w)], ⟨by rw [upd_same, List.map_append] <;> rfl, fun q hq => ?_⟩, by rw [List.map_append, ew] <;> rfl⟩
      rcases List.mem_append.mp hq with hq | hq
      · have y := hw.tu q hq
        rw [upd_ne (ne_of y hw.li (by intro z; cases z))]
        exact y
      · rw [List.mem_singleton.mp hq]
        rw [upd_ne (ne_of ha hw.li (by intro z; cases z))]
        exact ha
    · rw [if_neg e]
      obtain ⟨zs, T2, e2⟩ := T.el x hx
      refine ⟨zs, ⟨?_, fun q hq => ?_⟩, e2⟩
      · rw [upd_ne (fun z => e (T.inj x hx k hk z))]
        exact T2.li
      · have y := T2.tu q hq
        rw [upd_ne (ne_of y hw.li (by intro z; cases z))]
        exact y
/-- one more key, its list new and empty -/
theorem Tab.key (T : Tab H0 d ks ad cs H') (nk : k ∉ ks) (na : H' a = none) (s : Same H' H2) (ha : H2 a = some (.lst [])) (c0 : cs k = []) :
    Tab H0 d (ks ++ [k]) (fun x => if x = k then a else ad x) cs (upd H2 d (.dT (putK (entsOf ks ad) (kI k) (.ref a)))) := by
  have adn : d ≠ a := ne_of_none T.di na
  have old : ∀ c o, H' c = some o → c ≠ d → (upd H2 d (.dT (putK (entsOf ks ad) (kI k) (.ref a)))) c = some o := fun c o e n => by
    rw [upd_ne n]
    exact s c o e
  have ine : ∀ x ∈ ks, (if x = k then a else ad x) = ad x := fun x hx => if_neg fun e => nk (by rw [← e]; exact hx)
  refine ⟨fun c o e => old c o (T.same c o e) (ne_of_none e T.nd), ?_, fun x hx => ?_, fun x hx => ?_, T.nd, fun x hx y hy e => ?_⟩
  · rw [upd_same, putK_new _ (ents_none nk), entsOf, entsOf, List.map_append]
    have e1 : (ks.map fun x => (kI x, V.ref (if x = k then a else ad x))) = ks.map fun x => (kI x, V.ref (ad x)) := List.map_congr_left fun x hx => by rw [ine x hx]
    rw [e1]
    show _ = some (HO.dT (_ ++ [(kI k, V.ref (if k = k then a else ad k))]))
    rw [if_pos rfl]
  · rcases List.mem_append.mp hx with hx | hx
    · obtain ⟨zs, T2, e2⟩ := T.el x hx
      have dn : ad x ≠ d := ne_of T2.li T.di (by intro z; cases z)
      refine ⟨zs, ⟨?_, fun q hq => old _ _ (T2.tu q hq) (ne_of (T2.tu q hq) T.di (by intro z; cases z))⟩, e2⟩
      show _ = _
      rw [ine x hx]
      exact old _ _ T2.li dn
    · obtain rfl := List.mem_singleton.mp hx
      refine ⟨[], ⟨?_, fun q hq => nomatch hq⟩, c0.symm⟩
      show (upd _ d _) (if x = x then a else ad x) = _
      rw [if_pos rfl, upd_ne (Ne.symm adn), ha]
      rfl
  · rcases List.mem_append.mp hx with hx | hx
    · show H0 (if x = k then a else ad x) = none
      rw [ine x hx]
      exact T.new x hx
    · obtain rfl := List.mem_singleton.mp hx
      show H0 (if x = x then a else ad x) = none
      rw [if_pos rfl]
      exact T.same.free na
  · have e : (if x = k then a else ad x) = if y = k then a else ad y := e
    have some_ : ∀ z ∈ ks, ad z ≠ a := fun z hz => by
      obtain ⟨zs, T2, _⟩ := T.el z hz
      exact ne_of_none T2.li na
    rcases List.mem_append.mp hx with hx | hx <;> rcases List.mem_append.mp hy with hy | hy
    · rw [ine x hx, ine y hy] at e
      exact T.inj x hx y hy e
    · rw [ine x hx, if_pos (List.mem_singleton.mp hy)] at e
      exact absurd e (some_ x hx)
    · rw [ine y hy, if_pos (List.mem_singleton.mp hx)] at e
      exact absurd e.symm (some_ y hy)
    · rw [List.mem_singleton.mp hx, List.mem_singleton.mp hy]
end
/-! ### what is heard -/
/-- whether the watcher w hears the spot k, by the tuples ls -/
def hrB (ls : List (List Int)) (rg : Bool) (n : Int) (w k : List Int) : Bool := match w with
  | [a, b] => ls.any fun l => match l with
    | [i, j, e] => decide (i = b ∧ 0 ≤ further rg n a e ∧ further rg n a e < n ∧ k = [further rg n a e, j])
    | _ => false
  | _ => false
theorem hrB_iff {ls : List (List Int)} {rg : Bool} {n a b : Int} {k : List Int} : hrB ls rg n [a, b] k = true ↔ Hear ls rg n a b k := by
  unfold hrB
  rw [List.any_eq_true]
  constructor
  · rintro ⟨l, hl, e⟩
    split at e
    · rename_i i j e'
      obtain ⟨rfl, h1, h2, h3⟩ := of_decide_eq_true e
      exact ⟨_, _, hl, h1, h2, h3⟩
    · cases e
  · rintro ⟨j, e, hl, h1, h2, h3⟩
    exact ⟨_, hl, decide_eq_true ⟨rfl, h1, h2, h3⟩⟩
theorem hrB_perm {ls ls' : List (List Int)} (p : ls.Perm ls') (rg : Bool) (n : Int) (w k : List Int) : hrB ls rg n w k = hrB ls' rg n w k := by
  unfold hrB
  split
  · rw [Bool.eq_iff_iff, List.any_eq_true, List.any_eq_true]
    exact ⟨fun ⟨x, h, e⟩ => ⟨x, p.mem_iff.mp h, e⟩, fun ⟨x, h, e⟩ => ⟨x, p.mem_iff.mpr h, e⟩⟩
  · rfl
/-- the watchers of W that hear k -/
def hearL (ls : List (List Int)) (rg : Bool) (n : Int) (W : List (List Int)) (k : List Int) : List (List Int) := W.filter fun w => hrB ls rg n w k
theorem hearL_snoc (ls : List (List Int)) (rg : Bool) (n : Int) (W : List (List Int)) (w k : List Int) : hearL ls rg n (W ++ [w]) k = hearL ls rg n W k ++ if hrB ls rg n w k = true then [w] else [] := by
  unfold hearL
  rw [List.filter_append, List.filter_cons]
  rfl
theorem Tab.down {H H1 H' : Hp} {d : Addr} {ks : List (List Int)} {ad : List Int → Addr} {cs : List Int → List (List Int)} (s : Same H H1) (T : Tab H1 d ks ad cs H') : Tab H d ks ad cs H' := ⟨s.trans T.same, T.di, T.el, fun k hk => s.free (T.new k hk), s.free T.nd, T.inj⟩
theorem Tab.eq {H H' : Hp} {d : Addr} {ks : List (List Int)} {ad : List Int → Addr} {cs cs' : List Int → List (List Int)} (T : Tab H d ks ad cs H') (e : ∀ k, cs k = cs' k) : Tab H d ks ad cs' H' := by
  have e : cs = cs' := funext e
  rw [← e]
  exact T
theorem mem_wtsN : ∀ {t : Nat} {ps : List (List Int)} {x : List Int}, x ∈ wtsN t ps → ∃ (i : Nat) (p : List Int) (z : Int), ps[i]? = some p ∧ z ∈ p ∧ x = [((t + i : Nat) : Int), z]
  | t, p :: r, x, h => by
    rcases List.mem_append.mp h with h | h
    · obtain ⟨z, hz, rfl⟩ := List.mem_map.mp h
      exact ⟨0, p, z, rfl, hz, rfl⟩
    · obtain ⟨i, p', z, h1, h2, rfl⟩ := mem_wtsN h
      refine ⟨i + 1, p', z, by simpa using h1, h2, ?_⟩
      have e : t + 1 + i = t + (i + 1) := by omega
      rw [e]
theorem wtsN_mem : ∀ {t : Nat} {ps : List (List Int)} {i : Nat} {p : List Int} {z : Int}, ps[i]? = some p → z ∈ p → [((t + i : Nat) : Int), z] ∈ wtsN t ps
  | t, q :: r, 0, p, z, h, hz => by
    obtain rfl : q = p := Option.some.inj h
    exact List.mem_append_left _ (List.mem_map.mpr ⟨z, hz, rfl⟩)
  | t, q :: r, i + 1, p, z, h, hz => by
    have e : t + (i + 1) = t + 1 + i := by omega
    rw [e]
    exact List.mem_append_right _ (wtsN_mem (by simpa using h) hz)
theorem wtsN_nodup : ∀ (t : Nat) (ps : List (List Int)), (∀ p ∈ ps, p.Nodup) → (wtsN t ps).Nodup
  | _, [], _ => List.nodup_nil
  | t, p :: r, h => by
    refine List.nodup_append.mpr ⟨?_, wtsN_nodup (t + 1) r fun q hq => h q (List.mem_cons_of_mem _ hq), fun x hx y hy e => ?_⟩
    · exact List.pairwise_map.mpr ((h p List.mem_cons_self).imp fun ne e => ne (by simpa using e))
    · obtain ⟨z, _, rfl⟩ := List.mem_map.mp hx
      obtain ⟨i, _, z', _, _, rfl⟩ := mem_wtsN hy
      injection e with e _
      omega
theorem rangeI_mem {pl : Nat} {z : Int} : z ∈ rangeI pl ↔ 0 ≤ z ∧ z < pl := by
  rw [rangeI, List.mem_map]
  constructor
  · rintro ⟨j, hj, rfl⟩
    have := List.mem_range.mp hj
    omega
  · rintro ⟨h0, h1⟩
    exact ⟨z.toNat, List.mem_range.mpr (by omega), by omega⟩
theorem grid_nodup (n pl : Nat) : (grid n pl).Nodup := wtsN_nodup 0 _ fun p hp => by
  rw [List.eq_of_mem_replicate hp, rangeI]
  exact List.pairwise_map.mpr ((List.nodup_range (n := pl)).imp fun ne e => ne (by omega))
theorem grid_mem {n pl : Nat} {x z : Int} (h0 : 0 ≤ x) (h1 : x < n) (h2 : 0 ≤ z) (h3 : z < pl) : [x, z] ∈ grid n pl := by
  have h := wtsN_mem (t := 0) (ps := List.replicate n (rangeI pl)) (i := x.toNat) (p := rangeI pl) (z := z) (by rw [List.getElem?_replicate, if_pos (by omega)]) (rangeI_mem.mpr ⟨h2, h3⟩)
  have e : ((0 + x.toNat : Nat) : Int) = x := by omega
  rw [e] at h
  exact h
theorem mem_grid {n pl : Nat} {k : List Int} (h : k ∈ grid n pl) : ∃ x z : Int, k = [x, z] ∧ 0 ≤ x ∧ x < n ∧ 0 ≤ z ∧ z < pl := by
  obtain ⟨i, p, z, h1, h2, rfl⟩ := mem_wtsN h
  rw [List.getElem?_replicate] at h1
  split at h1
  · obtain rfl := Option.some.inj h1
    obtain ⟨h3, h4⟩ := rangeI_mem.mp h2
    exact ⟨_, z, rfl, by omega, by omega, h3, h4⟩
  · cases h1
end Kx
/-! hearing. -/
namespace Kx
open PySem PySem.Spec PyProof.Rows L2 Xa Xb Xc Xd Xs Xp Xm Xl Xq Ya Yb Yc Yd Ye Yf Yr Zb
abbrev sHearing : Stmt := top 42
/-- a good web -/
structure WebQ (C : Addr) (H : Hp) (p l : Addr) (pl : Nat) (rc : Int) (qs : List (Addr × List Int)) : Prop where
  wb : WebAt C H p pl rc l qs
  lk : ∀ q ∈ qs, Lnk pl q.2
  pp : pl = 1 ∨ pl = 2
  few : qs.length ≤ 20
theorem WebQ.same {C : Addr} {H H' : Hp} {p l : Addr} {pl : Nat} {rc : Int} {qs : List (Addr × List Int)} (s : Same H H') (W : WebQ C H p l pl rc qs) : WebQ C H' p l pl rc qs := ⟨W.wb.same s, W.lk, W.pp, W.few⟩
section
variable {P : Program} {w : World} {K : PySem.W.Frag} {mg : Str → Option Value} {base : Heap} {f C CN CS : Addr} {fd : FuncData}
/-- a good call of audible -/
theorem aud_r {H : Hp} {p l sp : Addr} {pl : Nat} {rc n x b : Int} {rg : Bool} {qs : List (Addr × List Int)} {Q : VK} (W : WebQ C H p l pl rc qs) (n1 : 1 ≤ n) (x0 : 0 ≤ x) (x1 : x < n) (b0 : 0 ≤ b) (b1 : b < pl)
    (hsp : H sp = some (.tup [.int x, .int b])) (q : ∀ (ks : List (Addr × List Int)) (u : Addr) (H' : Hp), Told (qs.map (·.2)) rg n x b (ks.map (·.2)) → Same H H' → H u = none → TL H' u ks → Q (.ref u) H') : spAud K C CN CS [.ref p, .int n, .ref sp, .bl rg] H Q E0 := by
  refine ⟨p, l, pl, rc, qs, .int n, .ref sp, .bl rg, some n, rfl, W.wb, W.lk, W.pp.imp (fun e => by rw [e]; rfl) (fun e => by rw [e]; rfl), W.few, .is n, fun z => ?_, fun m e m1 => ?_⟩
  · exact absurd (show decide (1 ≤ n) = false from z) (by rw [decide_eq_true n1] <;> exact Bool.noConfusion)
  · obtain rfl := Option.some.inj e
    have g : (inR (some x) 0 (n - 1) && inR (some b) 0 ((pl : Int) - 1)) = true := by
      rw [inR_t x0 (by omega), inR_t b0 (by omega)]
      rfl
    exact ⟨_, .two hsp (.is x) (.is b), fun z => (by rw [g] at z; cases z), fun _ => ⟨true, isk_bl rg _ (by decide +kernel), fun z => (by cases z), fun _ => ⟨rg, sp, x, b, rfl, rfl, hsp, fun ks u H' T s nu hu tk => q ks u H' T s nu ⟨hu, tk⟩⟩⟩⟩
theorem pc_len {pl : Nat} {l : List Int} (p2 : pl ≤ 2) (h : Pc pl l) : l.length ≤ 2 := by
  obtain ⟨h1, h2⟩ := h
  match l, h1, h2 with
  | [], _, _ => exact Nat.zero_le _
  | [_], _, _ => exact Nat.le_succ _
  | [_, _], _, _ => exact Nat.le_refl _
  | a :: b :: c :: r, h1, h2 =>
    have x1 := List.rel_of_pairwise_cons h1 (List.mem_cons_self (a := b) (l := c :: r))
    have x2 := List.rel_of_pairwise_cons (List.Pairwise.of_cons h1) (List.mem_cons_self (a := c) (l := r))
    have y1 := h2 a List.mem_cons_self
    have y2 := h2 c (by simp)
    omega
theorem TL.off {H : Hp} {r a : Addr} {ws : List (Addr × List Int)} {xs ys : List V} (T : TL H r ws) (ne : a ≠ r) (ha : H a = some (.lst xs)) : TL (upd H a (.lst ys)) r ws := ⟨by rw [upd_ne (Ne.symm ne)]; exact T.li, fun q hq => by
  rw [upd_ne (ne_of (T.tu q hq) ha (by intro z; cases z))]
  exact T.tu q hq⟩
theorem ref_get {ks : List (Addr × List Int)} {k : Nat} {y : V} (h : (ks.map fun r => V.ref r.1)[k]? = some y) : ∃ r, ks[k]? = some r ∧ y = .ref r.1 := by
  rw [List.getElem?_map] at h
  cases e : ks[k]? with
  | none =>
    rw [e] at h
    cases h
  | some r =>
    rw [e] at h
    exact ⟨r, rfl, (Option.some.inj h).symm⟩
/-- audible as a method, its keyword named -/
structure AudK (P : Program) (w : World) (K : PySem.W.Frag) (mg : Str → Option Value) (base : Heap) (C CN CS : Addr) : Prop where
  at_ : ∃ (fA : Addr) (fdA : FuncData), Meth K C "audible" fA ∧ FnOk P w K mg base (L2.CX P w) 5 fA fdA ["self", "n", "spot", "ring"] (spAud K C CN CS) ∧ KBn K fdA ["self", "n", "spot", "ring"] 3 ["ring"] (fun us ws => us ++ ws) (fun vs zs => vs ++ zs)
def spHearing (C : Addr) : Sp := fun xs H Q _ => ∃ (p l u : Addr) (pl : Nat) (rc : Int) (qs ks : List (Addr × List Int)) (rg : Bool), xs = [.ref p, .ref u, .bl rg] ∧ WebQ C H p l pl rc qs ∧ LL H u ks ∧ 1 ≤ ks.length ∧ ks.length ≤ 300 ∧ (∀ q ∈ ks, Pc pl q.2) ∧
  ∀ (d : Addr) (ad : List Int → Addr) (H' : Hp), Tab H d (grid ks.length pl) ad (hearL (qs.map (·.2)) rg ks.length (wts (ks.map (·.2)))) H' → Q (.ref d) H'
abbrev nHearing : List Str := ["web", "plan", "ring", "n", "table", "spot", "watcher"]
theorem scHearing : FnScope nHearing ["web", "plan", "ring"] (defScope sHearing) := ⟨rfl, rfl, rfl, by decide +kernel, rfl, by decide +kernel, by decide +kernel⟩
theorem can_hearing (D : Dfn K mg "hearing" sHearing) (B : Bi3 mg) (T : WTxt K mg C) (A5 : AudK P w K mg base C CN CS) (cS : Can P w K mg base CX0 1 "spots" ["n", "places"] spSpots) (cW : Can P w K mg base CX0 1 "watchers" ["plan"] spWatchers) :
    Can P w K mg base CX0 6 "hearing" ["web", "plan", "ring"] (spHearing C) := by
  obtain ⟨f, fd, F, g⟩ := D.at_
  obtain ⟨fA, fdA, mA, oA, kA⟩ := A5.at_
  refine FnOk.can (F.ok scHearing (fun xs H Q E h => ?_) (fun cdv A outer s H vs Q E hr h => ?_)) F g fun _ _ _ _ _ _ us hl => match us, hl with | [_, _, _], _ => rfl
  · obtain ⟨p, l, u, pl, rc, qs, ks, rg, rfl, _⟩ := h
    rfl
  · obtain ⟨p, l, u, pl, rc, qs, ks, rg, rfl, W, L, n1, n3, pc, q⟩ := h
    have h1 := hr.mono (show 1 ≤ 5 by decide)
    have hu1 := Nat.lt_of_le_of_lt (Nat.add_le_add_left (show 1 ≤ 64 by decide) _) hr.units
    refine ⟨_, PSs.nox <| pss_cons (ps_set (i := 3) scHearing.nd rfl (.inl rfl) <| pe_bi call_len_seq B.len <| pa1 <| pv 1) <|
      pss_cons (ps_setDt (i := 4) (own := [("spot", 5)]) (g := gName 5) (tt := tYes) (tk := tVar 5) (tv := tLst tNil) rfl hu1 scHearing.nd rfl rfl (sw_dict rfl rfl rfl (by decide +kernel)) (pi_list <| pe_can cS h1 pass0 <| pa_cons (pv 3) <| pa1 <| pe_fld (pv 0) rfl) (blkOk_by (own := [("spot", 5)]) (N := nHearing) (sc := defScope sHearing) (by decide +kernel))
          (fun _ _ _ _ _ => pg_name (i := 5) scHearing.nd rfl (Or.inl rfl)) (fun _ _ _ _ _ => pts_nil) (fun _ _ _ _ _ => pv 5) (fun _ _ _ _ _ => pe_lst pa_nil)) <|
      pss_cons (ps_for PassesOwn.never rfl (pi_list <| pe_can cW h1 pass0 <| pa1 <| pv 1) (pg_name (i := 6) scHearing.nd rfl (.inl rfl)) <|
        pss_one <| ps_for PassesOwn.never rfl (pi_list <| pe_methN (C := C) (fd := fdA) (E := fun _ => E0) (pv 0) T.cl mA oA hr kA passAt0 (pa_cons (pv 3) <| pa1 <| pv 6) (pk_cons (pv 2) pk_nil)) (pg_name (i := 5) scHearing.nd rfl (.inl rfl)) <|
          pss_one <| ps_expr <| pe_bm PySem.F.plainAttrs_list PySem.F.slot_list_append PySem.F.type_list_append mt_append (pe_dget hu1 (pv 4) (pv 5) (fun _ _ => rfl)) <| pa1 <| pv 6) <|
      pss_one <| ps_ret <| pv 4, ?_⟩
    have kl : ((ks.map fun q => V.ref q.1).length : Int) = (ks.length : Int) := by rw [List.length_map]
    obtain ⟨dx, ob⟩ := W.wb.ob
    refine ⟨_, rfl, u, _, rfl, .inl (SqL.of L.1), ?_⟩
    rw [kl]
    have p10 : pl ≤ 10 := by have := W.pp; omega
    refine ⟨_, rfl, _, rfl, p, C, dx, _, _, rfl, ob, T.cl, T.nP, wf_pl _ _ _, ks.length, pl, rfl, n3, p10, fun r0 gs H1 s1 nr0 TG eg => ⟨r0, rfl, ⟨_, SqL.of TG.li⟩, fun d nd => ?_⟩⟩
    have gl : gs.length = (grid ks.length pl).length := by
      have h := congrArg List.length eg
      rw [List.length_map] at h
      exact h
    have gfew : (grid ks.length pl).length ≤ 3000 := by
      have h := wts_len (m := 10) (ps := List.replicate ks.length (rangeI pl)) fun p hp => by
        rw [List.eq_of_mem_replicate hp, rangeI, List.length_map, List.length_range]
        exact p10
      rw [List.length_replicate] at h
      exact Nat.le_trans h (Nat.mul_le_mul_left 10 n3)
    refine dt_it (walk_list (K := K) (a := r0) (xs := gs.map fun q => V.ref q.1)) (fun i H' => ∃ ad, Tab H1 d ((grid ks.length pl).take i) ad (fun _ => []) H') ⟨fun _ => 0, upd_same_as nd, upd_same, (fun k hk => nomatch hk), (fun k hk => nomatch hk), nd, fun k hk => nomatch hk⟩ (fun i H' _ ⟨_, TT⟩ => SqL.of (TT.same _ _ TG.li)) ?_ ?_
    · rintro i x H' H'' lt ⟨ad, TT⟩ ⟨rfl, hx⟩
      obtain ⟨e, he, rfl⟩ : ∃ e, gs[i]? = some e ∧ x = .ref e.1 := by
        rw [List.getElem?_map] at hx
        cases z : gs[i]? with
        | none =>
          rw [z] at hx
          cases hx
        | some e =>
          rw [z] at hx
          exact ⟨e, rfl, (Option.some.inj hx).symm⟩
      have hk : (grid ks.length pl)[i]? = some e.2 := by
        rw [← eg, List.getElem?_map, he]
        rfl
      have tk : (grid ks.length pl).take (i + 1) = (grid ks.length pl).take i ++ [e.2] := by
        rw [List.take_add_one, hk]
        rfl
      have nk : e.2 ∉ (grid ks.length pl).take i := fun z => by
        have n2 := (grid_nodup ks.length pl).sublist (List.take_sublist (i + 1) _)
        rw [tk] at n2
        exact (List.nodup_append.mp n2).2.2 _ z _ List.mem_cons_self rfl
      refine ⟨rfl, lc_yes2 ⟨_, rfl, (by show 0 ≤ sizeLine; decide), fun a na => ⟨entsOf ((grid ks.length pl).take i) ad, kI e.2, e.1, ⟨rfl, ?_⟩, ⟨?_, ?_⟩, ?_⟩⟩⟩
      · rw [kI_v]
        exact upd_same_as na _ _ (TT.same _ _ (TG.tu e (List.mem_of_getElem? he)))
      · exact upd_same_as na _ _ TT.di
      · rw [entsOf, List.length_map, List.length_take]
        exact small_ (by omega)
      · exact ⟨_, by rw [tk]; exact TT.key nk na (upd_same_as na) upd_same rfl⟩
    · rintro H2 ⟨ad, TT⟩
      rw [List.length_map, gl, List.take_length] at TT
      have s02 := s1.trans TT.same
      have L2 := L.same s02
      have W2 := W.same s02
      have pz : ∀ z, 0 ≤ z ∧ z < (pl : Int) → z = 0 ∨ z = 1 := fun z h => by have := W.pp; omega
      have short : ∀ q ∈ ks, q.2.length ≤ 10 := fun q hq => by
        have h := pc_len (by have := W.pp; omega) (pc q hq)
        omega
      refine ⟨_, rfl, u, ks, rfl, L2, n3, short, fun r2 ws H3 s3 nr2 T3 ew => ?_⟩
      have TT3 := TT.up s3
      have adr : ∀ k ∈ grid ks.length pl, ad k ≠ r2 := fun k hk => by
        obtain ⟨zs, y, _⟩ := TT.el k hk
        exact ne_of_none y.li nr2
      have wn : ws.length = (wts (ks.map (·.2))).length := by
        have h := congrArg List.length ew
        rw [List.length_map] at h
        exact h
      refine ⟨r2, rfl, ⟨_, SqL.of T3.li⟩, for_list (K := K) (a := r2) (xs := ws.map fun q => V.ref q.1) (fun i σ H' => ∃ v5 v6 : Option V, σ = [some (.ref p), some (.ref u), some (.bl rg), some (.int ks.length), some (.ref d), v5, v6] ∧ TL H' r2 ws ∧
        Tab H1 d (grid ks.length pl) ad (hearL (qs.map (·.2)) rg ks.length ((ws.take i).map (·.2))) H') ⟨_, _, rfl, T3, TT3⟩ (fun i σ H' _ ⟨_, _, _, y, _⟩ => SqL.of y.li) ?_ ?_⟩
      · rintro i x σ H4 hx ⟨v5, v6, rfl, TW, T4⟩
        obtain ⟨e, he, rfl⟩ := ref_get hx
        have ein := List.mem_of_getElem? he
        obtain ⟨i0, p0, b, hp0, hb, el⟩ := mem_wtsN (t := 0) (by rw [show wtsN 0 (ks.map (·.2)) = wts (ks.map (·.2)) from rfl, ← ew]; exact List.mem_map.mpr ⟨e, ein, rfl⟩)
        obtain ⟨q0, hq0, rfl⟩ : ∃ q0, ks[i0]? = some q0 ∧ p0 = q0.2 := by
          rw [List.getElem?_map] at hp0
          cases z : ks[i0]? with
          | none =>
            rw [z] at hp0
            cases hp0
          | some y =>
            rw [z] at hp0
            exact ⟨y, rfl, (Option.some.inj hp0).symm⟩
        have il := (List.getElem?_eq_some_iff.mp hq0).1
        obtain ⟨b0, b1⟩ := (pc q0 (List.mem_of_getElem? hq0)).2 b hb
        rw [Nat.zero_add] at el
        have W4 := W.same (s1.trans T4.same)
        obtain ⟨dx4, ob4⟩ := W4.wb.ob
        have hsp : H4 e.1 = some (.tup [.int (i0 : Int), .int b]) := by
          rw [TW.tu e ein, el]
          rfl
        refine ⟨_, rfl, p, dx4, _, rfl, ob4, wf_no _ _ _ (by decide +kernel) (by decide +kernel) (by decide +kernel), _, rfl, _, rfl, _, rfl, rfl, rfl, ?_⟩
        refine aud_r W4 (by omega) (by omega) (by omega) b0 b1 hsp fun kt u2 H5 TO s5 nu2 TK => ?_
        have TW5 := TW.same s5
        have T5 := T4.up s5
        have adu : ∀ k ∈ grid ks.length pl, ad k ≠ u2 := fun k hk => by
          obtain ⟨zs, y, _⟩ := T4.el k hk
          exact ne_of_none y.li nu2
        refine ⟨u2, rfl, ⟨_, SqL.of TK.li⟩, for_list (K := K) (a := u2) (xs := kt.map fun q => V.ref q.1) (fun j σ H' => ∃ v5 : Option V, σ = [some (.ref p), some (.ref u), some (.bl rg), some (.int ks.length), some (.ref d), v5, some (.ref e.1)] ∧ TL H' r2 ws ∧ TL H' u2 kt ∧
          Tab H1 d (grid ks.length pl) ad (fun k => hearL (qs.map (·.2)) rg ks.length ((ws.take i).map (·.2)) k ++ if k ∈ (kt.take j).map (·.2) then [e.2] else []) H') ⟨_, rfl, TW5, TK, T5.eq fun k => by simp⟩ (fun j σ H' _ ⟨_, _, _, y, _⟩ => SqL.of y.li) ?_ ?_⟩
        · rintro j y σ H6 hy ⟨v5, rfl, TW6, TK6, T6⟩
          obtain ⟨r, hr2, rfl⟩ := ref_get hy
          have rin := List.mem_of_getElem? hr2
          have hk : r.2 ∈ grid ks.length pl := by
            obtain ⟨j1, e1, hm, f0, f1, ek⟩ := (TO.mem r.2).mp (List.mem_map.mpr ⟨r, rin, rfl⟩)
            obtain ⟨y, hy2, ey⟩ := List.mem_map.mp hm
            obtain ⟨i2, j2, d2, el2, c1, c2, c3, c4, c5, c6⟩ := W.lk y hy2
            have ey : y.2 = [b, j1, e1] := ey
            rw [el2] at ey
            injection ey with e3 ey
            injection ey with e4 ey
            subst e4
            rw [ek]
            exact grid_mem f0 f1 (by omega) (by omega)
          obtain ⟨zs, TZ, ez⟩ := T6.el r.2 hk
          have nk : r.2 ∉ (kt.take j).map (·.2) := fun z => by
            have n2 := TO.nd.sublist ((List.take_sublist (j + 1) kt).map (·.2))
            rw [List.take_add_one, hr2, List.map_append] at n2
            exact (List.nodup_append.mp n2).2.2 _ z _ List.mem_cons_self rfl
          have zl : zs.length ≤ 4000 := by
            have h := congrArg List.length ez
            rw [List.length_map, if_neg nk, List.append_nil] at h
            have h2 := List.length_filter_le (fun w => hrB (qs.map (·.2)) rg ks.length w r.2) ((ws.take i).map (·.2))
            rw [List.length_map, List.length_take] at h2
            have h3 := wts_len (m := 10) (ps := ks.map (·.2)) fun p hp => by
              obtain ⟨y, hy, rfl⟩ := List.mem_map.mp hp
              exact short y hy
            rw [List.length_map] at h3
            have h4 : (hearL (qs.map (·.2)) rg ks.length ((ws.take i).map (·.2)) r.2).length ≤ min i ws.length := h2
            omega
          have dg : DGet H6 d (.ref r.1) (some (.ref (ad r.2))) := by
            have h := DGet.t (k := kI r.2) T6.di (by rw [kI_v]; exact TK6.tu r rin)
            rw [ents_val hk] at h
            exact h
          refine ⟨_, rfl, _, rfl, d, .ref (ad r.2), rfl, dg, .inl ⟨rfl, _, SqL.of TZ.li⟩, _, rfl, ad r.2, _, _, rfl, rfl, TZ.li, by rw [List.length_map]; exact small_ (by omega), _, rfl, TW6.off (adr _ hk) TZ.li, TK6.off (adu _ hk) TZ.li, (T6.put hk (TW6.tu e ein) TZ ez).eq fun x => ?_⟩
          by_cases xe : x = r.2
          · subst xe
            rw [if_pos rfl, if_neg nk, if_pos (by rw [List.take_add_one, hr2, List.map_append]; exact List.mem_append_right _ List.mem_cons_self), List.append_nil]
          · rw [if_neg xe]
            have e2 : x ∈ (kt.take (j + 1)).map (·.2) ↔ x ∈ (kt.take j).map (·.2) := by
              rw [List.take_add_one, hr2, List.map_append, List.mem_append]
              exact ⟨fun z => z.resolve_right fun z => xe (List.mem_singleton.mp z), .inl⟩
            by_cases c : x ∈ (kt.take j).map (·.2)
            · rw [if_pos c, if_pos (e2.mpr c)]
            · rw [if_neg c, if_neg fun z => c (e2.mp z)]
        · rintro σ H6 ⟨v5, rfl, TW6, TK6, T6⟩
          rw [List.length_map, List.take_length] at T6
          refine ⟨_, _, rfl, TW6, T6.eq fun k => ?_⟩
          rw [List.take_add_one, he, List.map_append]
          show _ = hearL (qs.map (·.2)) rg ks.length ((ws.take i).map (·.2) ++ [e.2]) k
          rw [hearL_snoc, el]
          have e2 : k ∈ kt.map (·.2) ↔ hrB (qs.map (·.2)) rg ks.length [(i0 : Int), b] k = true := (TO.mem k).trans hrB_iff.symm
          by_cases c : k ∈ kt.map (·.2)
          · rw [if_pos c, if_pos (e2.mp c)]
          · rw [if_neg c, if_neg fun z => c (e2.mpr z)]
      · rintro σ H6 ⟨v5, v6, rfl, TW6, T6⟩
        rw [List.length_map, List.take_length, ew] at T6
        exact ⟨_, rfl, q d ad H6 (T6.down s1)⟩
end
end Kx
/-! hearers. -/
namespace Kx
open PySem PySem.Spec PyProof.Rows L2 Xa Xb Xc Xd Xs Xp Xm Xr Xl Xq Ya Yb Yc Yd Ye Yf Yr Zb
abbrev sHearers : Stmt := top 27
section
variable {P : Program} {w : World} {K : PySem.W.Frag} {mg : Str → Option Value} {base : Heap} {f C CN CS CW CP : Addr} {fd : FuncData}
theorem Spot.same {H H' : Hp} (e : Same H H') {n pl : Int} {v : V} {b : Bool} : Spot K H n pl v b → Spot K H' n pl v b
  | .kind h => .kind (isk_same e h)
  | .size h hn => .size (e _ _ h) hn
  | .two h hx hy => .two (e _ _ h) (num_same e hx) (num_same e hy)
def spHearers (K : PySem.W.Frag) (C CN CS CW CP : Addr) : Sp := fun xs H Q E => ∃ wv v sv rv, xs = [wv, v, sv, rv] ∧ ((NoWeb K C H wv ∧ Ref E H CW wv) ∨ ∃ (p l : Addr) (pl : Nat) (rc : Int) (qs : List (Addr × List Int)) (b : Bool), wv = .ref p ∧ WebQ C H p l pl rc qs ∧ IsPl K H pl v b ∧
  (b = false → ∀ H', Same H H' → Ref E H' CP v) ∧ (b = true → ∃ (u : Addr) (ks : List (Addr × List Int)) (bs : Bool), v = .ref u ∧ LL H u ks ∧ 1 ≤ ks.length ∧ ks.length ≤ 300 ∧ (∀ q ∈ ks, Pc pl q.2) ∧ Spot K H ks.length pl sv bs ∧ (bs = false → ∀ H', Same H H' → Ref E H' CS sv) ∧
  (bs = true → ∃ br, IsK K H rv "bool" br ∧ (br = false → ∀ H', Same H H' → Ref E H' CN rv) ∧ (br = true → ∃ (rg : Bool) (t : Addr) (x y : Int), rv = .bl rg ∧ sv = .ref t ∧ H t = some (.tup [.int x, .int y]) ∧ [x, y] ∈ grid ks.length pl ∧
    ∀ (r : Addr) (ws : List (Addr × List Int)) (H' : Hp), Same H H' → H r = none → TL H' r ws → ws.map (·.2) = hearL (qs.map (·.2)) rg ks.length (wts (ks.map (·.2))) [x, y] → Q (.ref r) H'))))
theorem scHearers : FnScope ["web", "plan", "spot", "ring"] ["web", "plan", "spot", "ring"] (defScope sHearers) := ⟨rfl, rfl, rfl, by decide +kernel, rfl, by decide +kernel, by decide +kernel⟩
theorem ok_hearers {dvs : List V} {kws : List (Str × V)} (F : FunD K "hearers" "hearers" (defArgs sHearers) (defBody sHearers) (defScope sHearers) dvs kws f fd) (B : Bi3 mg) (T : WTxt K mg C) (cP : Can P w K mg base (L2.CX P w) 6 "check_plan" ["web", "plan"] (spCkPlan K C CW CP))
    (c2 : Can P w K mg base (L2.CX P w) 4 "check_spot" ["spot", "n", "places"] (spCkSpot K CS)) (c3 : Can P w K mg base (L2.CX P w) 4 "check_ring" ["ring"] (spCkRing K CN)) (cH : Can P w K mg base CX0 6 "hearing" ["web", "plan", "ring"] (spHearing C)) :
    FnOk P w K mg base (L2.CX P w) 7 f fd ["web", "plan", "spot", "ring"] (spHearers K C CN CS CW CP) := by
  refine F.ok scHearers (fun xs H Q E h => ?_) (fun cdv A outer s H vs Q E hr h => ?_)
  · obtain ⟨wv, v, sv, rv, rfl, _⟩ := h
    rfl
  · obtain ⟨wv, v, sv, rv, rfl, h⟩ := h
    have h4 := hr.mono (show 4 ≤ 6 by decide)
    have hu1 := Nat.lt_of_le_of_lt (Nat.add_le_add_left (show 1 ≤ 64 by decide) _) hr.units
    have pass : Passes (L2.CX P w) (cxOf (L2.CX P w) P w K mg base ["web", "plan", "spot", "ring"] "hearers" (defScope sHearers) f cdv A outer s H E) E := passes_call (takes_of rfl rfl rfl rfl) fun _ _ _ _ z => z
    refine ⟨_, pss_cons (ps_expr <| pe_can cP hr pass <| pa_cons (pv 0) <| pa1 <| pv 1) <| pss_cons (ps_expr <| pe_can c2 h4 pass <| pa_cons (pv 2) <| pa_cons (pe_bi call_len_seq B.len <| pa1 <| pv 1) <| pa1 <| pe_fld (pv 0) rfl) <|
      pss_cons (ps_expr <| pe_can c3 h4 pass <| pa1 <| pv 3) <| pss_one <| ps_ret <| pe_dget hu1 (pe_can cH hr pass0 <| pa_cons (pv 0) <| pa_cons (pv 1) <| pa1 <| pv 3) (pv 2) (fun _ _ => rfl), ?_⟩
    rcases h with ⟨nw, no⟩ | ⟨p, l, pl, rc, qs, b, rfl, W, ip, no1, yes1⟩
    · exact ⟨_, rfl, _, rfl, wv, v, rfl, .inl ⟨nw, no⟩⟩
    · refine ⟨_, rfl, _, rfl, _, v, rfl, .inr ⟨p, l, pl, rc, qs, b, rfl, W.wb, ip, no1, fun bt H1 s1 => ?_⟩⟩
      obtain ⟨u, ks, bs, rfl, L, n1, n3, pc, S, no2, yes2⟩ := yes1 bt
      have W1 := W.same s1
      have L1 := LL.same s1 L
      obtain ⟨dx, ob⟩ := W1.wb.ob
      have kl : ((ks.map fun q => V.ref q.1).length : Int) = (ks.length : Int) := by rw [List.length_map]
      refine ⟨_, rfl, _, rfl, u, _, rfl, .inl (SqL.of L1.1), ?_⟩
      rw [kl]
      refine ⟨_, rfl, p, C, dx, _, _, rfl, ob, T.cl, T.nP, wf_pl _ _ _, sv, ks.length, pl, bs, rfl, S.same s1, fun b2 => ?_, fun b2 => no2 b2 H1 s1⟩
      obtain ⟨br, I, no3, yes3⟩ := yes2 b2
      refine ⟨_, rfl, rv, br, rfl, isk_same s1 I, fun b3 => ?_, fun b3 => no3 b3 H1 s1⟩
      obtain ⟨rg, t, x, y, rfl, rfl, ht, hg, q⟩ := yes3 b3
      refine ⟨_, rfl, _, rfl, _, rfl, p, l, u, pl, rc, qs, ks, rg, rfl, W1, L1, n1, n3, pc, fun d ad H' TT => ?_⟩
      obtain ⟨zs, TZ, ez⟩ := TT.el _ hg
      have dg : DGet H' d (.ref t) (some (.ref (ad [x, y]))) := by
        have h := DGet.t (k := kI [x, y]) TT.di (by rw [kI_v]; exact TT.same _ _ (s1 _ _ ht))
        rw [ents_val hg] at h
        exact h
      exact ⟨_, rfl, d, .ref (ad [x, y]), rfl, dg, q _ zs H' (s1.trans TT.same) (s1.free (TT.new _ hg)) TZ ez⟩
end
end Kx
/-! Own ground, part ZE: tables of sets out of which elements were taken: their slots, searches, laying anew. -/
namespace Ze
open PySem PySem.Spec PyProof.Rows L2
/-! ### the masks -/
def MaskW (m : Nat) : Prop := m = 7 ∨ m = 15 ∨ m = 31 ∨ m = 63 ∨ m = 127
def orb (m : Nat) : Nat → Nat → List Nat
  | 0, _ => []
  | n + 1, i => i :: orb m n ((i * 5 + 1) % (m + 1))
theorem lcgI_first (m i : Nat) : ∀ k, lcgI m i (k + 1) = lcgI m ((i * 5 + 1) % (m + 1)) k
  | 0 => rfl
  | k + 1 => congrArg (fun z => (z * 5 + 1) % (m + 1)) (lcgI_first m i k)
theorem orb_mem {m : Nat} : ∀ {n i j : Nat}, j ∈ orb m n i → ∃ k, k < n ∧ lcgI m i k = j
  | n + 1, i, j, h => by
    rcases List.mem_cons.mp h with e | h
    · exact ⟨0, Nat.succ_pos _, e.symm⟩
    · obtain ⟨k, hk, e⟩ := orb_mem h
      exact ⟨k + 1, Nat.succ_lt_succ hk, (lcgI_first m i k).trans e⟩
theorem orb15 : ((List.range 16).all fun i => (List.range 16).all fun j => (orb 15 16 i).contains j) = true := by decide +kernel
theorem orb63 : ((List.range 64).all fun i => (List.range 64).all fun j => (orb 63 64 i).contains j) = true := by decide +kernel
theorem orb_all {n : Nat} (h : ((List.range (n + 1)).all fun i => (List.range (n + 1)).all fun j => (orb n (n + 1) i).contains j) = true) {i j : Nat} (hi : i ≤ n) (hj : j ≤ n) : ∃ k, k ≤ n ∧ lcgI n i k = j := by
  have h1 := List.all_eq_true.mp (List.all_eq_true.mp h i (List.mem_range.mpr (Nat.lt_succ_of_le hi))) j (List.mem_range.mpr (Nat.lt_succ_of_le hj))
  obtain ⟨k, hk, e⟩ := orb_mem (List.contains_iff_mem.mp h1)
  exact ⟨k, Nat.le_of_lt_succ hk, e⟩
theorem round_all {m : Nat} (hm : MaskW m) {i j : Nat} (hi : i ≤ m) (hj : j ≤ m) : ∃ k, k ≤ m ∧ lcgI m i k = j := by
  rcases hm with e | e | e | e | e
  · exact lcgI_all (.inl e) hi hj
  · subst e
    exact orb_all orb15 hi hj
  · exact lcgI_all (.inr (.inl e)) hi hj
  · subst e
    exact orb_all orb63 hi hj
  · exact lcgI_all (.inr (.inr e)) hi hj
theorem starts_all {m : Nat} (hm : MaskW m) (h : Int) {j : Nat} (hj : j ≤ m) : ∃ n, n ≤ m + 12 ∧ runI m (SetTable.bits h) n = j :=
  let ⟨k, hk, e⟩ := round_all hm (runI_le m (SetTable.bits h) 12) hj
  ⟨12 + k, by omega, (runI_tail (bits_lt h) k).trans e⟩
theorem meets_all {m : Nat} (hm : MaskW m) (h : Int) {j : Nat} (hj : j ≤ m) : ∃ k, k < 10 * SetTable.turns m ∧ way m h k = j := by
  obtain ⟨n, hn, e⟩ := starts_all hm h hj
  obtain ⟨k, hk, e2⟩ := run_nth m (SetTable.bits h) n
  exact ⟨k, by unfold SetTable.turns; omega, (congrArg SetTable.Probe.j e2).trans e⟩
theorem way_in (m : Nat) (h : Int) (k : Nat) : way m h k ≤ m := by
  have hi : SetTable.bits h % (m + 1) ≤ m := Nat.le_of_lt_succ (Nat.mod_lt _ (Nat.succ_pos _))
  have r := runEnd_bd hi
  have q := nth_in k (runAt m (SetTable.bits h % (m + 1)) (SetTable.bits h)) (show _ + (SetTable.runEnd m (SetTable.bits h % (m + 1)) - _) ≤ m by
    show SetTable.bits h % (m + 1) + _ ≤ m
    omega)
  exact Nat.le_trans (Nat.le_add_right _ _) q
/-! ### slots -/
/-- live, or once live -/
def Tk (t : SetTable) (x : Nat) : Prop := x ∈ t.place.toList ∨ x ∈ t.dummies.toList
theorem below_at {xs : Array Nat} (r : Ris xs.toList) {i j : Nat} (h : xs.toList[i]? = some j) : SetTable.below xs j = i := by
  obtain ⟨_, c2, c3⟩ := below_cut r j
  generalize SetTable.below xs j = p at c2 c3 ⊢
  have hl := (List.getElem?_eq_some_iff.mp h).1
  rcases Nat.lt_trichotomy i p with k | k | k
  · exact absurd (c2 i j h k) (Nat.lt_irrefl _)
  · exact k.symm
  · have e := List.getElem?_eq_getElem (Nat.lt_trans k hl)
    exact absurd (Nat.lt_of_lt_of_le (ris_lt r e h k) (c3 p _ e (Nat.le_refl _))) (Nat.lt_irrefl _)
theorem has_mem {xs : Array Nat} (r : Ris xs.toList) {j : Nat} (h : j ∈ xs.toList) : SetTable.has xs j = true := by
  obtain ⟨i, hi⟩ := List.mem_iff_getElem?.mp h
  unfold SetTable.has
  rw [below_at r hi, ← Array.getElem?_toList, hi]
  exact beq_self_eq_true _
theorem has_not {xs : Array Nat} {j : Nat} (h : j ∉ xs.toList) : SetTable.has xs j = false := by
  unfold SetTable.has
  refine beq_eq_false_iff_ne.mpr fun e => h ?_
  exact List.mem_of_getElem? (i := SetTable.below xs j) (by rw [Array.getElem?_toList]; exact e)
theorem slot_not {t : SetTable} {j : Nat} (h : j ∉ t.place.toList) : t.slot j = if SetTable.has t.dummies j = true then .dummy else .empty := by
  have e := has_not h
  unfold SetTable.has at e
  unfold SetTable.slot
  show (if (t.place[SetTable.below t.place j]? == some j) = true then SetTable.Slot.live (SetTable.below t.place j) else _) = _
  rw [e] <;> rfl
theorem slot_dm {t : SetTable} (rd : Ris t.dummies.toList) {j : Nat} (h : j ∉ t.place.toList) (hd : j ∈ t.dummies.toList) : t.slot j = .dummy := by
  rw [slot_not h, has_mem rd hd] <;> rfl
theorem slot_no {t : SetTable} {j : Nat} (h : ¬ Tk t j) : t.slot j = .empty := by
  rw [slot_not fun z => h (.inl z), has_not fun z => h (.inr z)] <;> rfl
/-! ### probes -/
theorem adv_dm (m : Nat) (p : SetTable.Probe) (d : Option Nat) : adv m { p with dummy := d } = { adv m p with dummy := d } := by
  unfold adv
  show (if p.more > 0 then _ else _) = _
  by_cases c : p.more > 0
  · rw [if_pos c, if_pos c]
  · rw [if_neg c, if_neg c]
theorem nth_dm (m : Nat) : ∀ (k : Nat) (p : SetTable.Probe) (d : Option Nat), nth m { p with dummy := d } k = { nth m p k with dummy := d }
  | 0, _, _ => rfl
  | k + 1, p, d => by
    show nth m (adv m { p with dummy := d }) k = _
    rw [adv_dm]
    exact nth_dm m k (adv m p) d
/-- d is what was given, or a slot of the dummies on the way -/
def DmOk (t : SetTable) (p : SetTable.Probe) (K : Nat) (d0 d : Option Nat) : Prop := d = d0 ∨ ∃ k, k < K ∧ d = some (nth t.mask p k).j ∧ (nth t.mask p k).j ∈ t.dummies.toList
/-- what a probe answers, with dummies -/
theorem go_all (t : SetTable) (r : Ris t.place.toList) (rd : Ris t.dummies.toList) (ha : Nat → Int) (h : Int) : ∀ (f K : Nat) (p : SetTable.Probe) (d0 : Option Nat), K < f → (∀ k, k < K → Tk t (nth t.mask p k).j) → ¬ Tk t (nth t.mask p K).j →
    (∃ k i d, k < K ∧ t.place.toList[i]? = some (nth t.mask p k).j ∧ ha i = h ∧ (∀ k' i', k' < k → t.place.toList[i']? = some (nth t.mask p k').j → ha i' ≠ h) ∧ DmOk t p k d0 d ∧
      SetTable.probe.go t ha h f { p with dummy := d0 } = some (.candidate (nth t.mask p k).j i { nth t.mask p (k + 1) with dummy := d })) ∨
    ((∀ k' i', k' < K → t.place.toList[i']? = some (nth t.mask p k').j → ha i' ≠ h) ∧ ∃ d, DmOk t p K d0 d ∧ SetTable.probe.go t ha h f { p with dummy := d0 } = some (.empty (nth t.mask p K).j d))
  | 0, K, _, _, hK, _, _ => absurd hK (Nat.not_lt_zero _)
  | f + 1, 0, p, d0, _, _, he => by
    refine .inr ⟨fun k' i' hk => absurd hk (Nat.not_lt_zero _), d0, .inl rfl, ?_⟩
    have hs : t.slot p.j = .empty := slot_no he
    unfold SetTable.probe.go
    show (match t.slot p.j with
      | .empty => _
      | .dummy => _
      | .live i => _) = _
    rw [hs]
    rfl
  | f + 1, K + 1, p, d0, hK, hin, he => by
    have up : ∀ d, adv t.mask { p with dummy := d } = { adv t.mask p with dummy := d } := adv_dm t.mask p
    have sh : ∀ k d1 d2, DmOk t (adv t.mask p) k d1 d2 → (d1 = d0 ∨ d1 = some p.j ∧ p.j ∈ t.dummies.toList) → DmOk t p (k + 1) d0 d2 := fun k d1 d2 x y => by
      rcases x with rfl | ⟨q, hq, e, m⟩
      · rcases y with rfl | ⟨rfl, m⟩
        · exact .inl rfl
        · exact .inr ⟨0, Nat.succ_pos _, rfl, m⟩
      · exact .inr ⟨q + 1, Nat.succ_lt_succ hq, e, m⟩
    -- one step that finds nothing
    have step : ∀ d1, (d1 = d0 ∨ d1 = some p.j ∧ p.j ∈ t.dummies.toList) → (∀ i', t.place.toList[i']? = some p.j → ha i' ≠ h) → SetTable.probe.go t ha h (f + 1) { p with dummy := d0 } = SetTable.probe.go t ha h f { adv t.mask p with dummy := d1 } →
        (∃ k i d, k < K + 1 ∧ t.place.toList[i]? = some (nth t.mask p k).j ∧ ha i = h ∧ (∀ k' i', k' < k → t.place.toList[i']? = some (nth t.mask p k').j → ha i' ≠ h) ∧ DmOk t p k d0 d ∧
          SetTable.probe.go t ha h (f + 1) { p with dummy := d0 } = some (.candidate (nth t.mask p k).j i { nth t.mask p (k + 1) with dummy := d })) ∨
        ((∀ k' i', k' < K + 1 → t.place.toList[i']? = some (nth t.mask p k').j → ha i' ≠ h) ∧ ∃ d, DmOk t p (K + 1) d0 d ∧ SetTable.probe.go t ha h (f + 1) { p with dummy := d0 } = some (.empty (nth t.mask p (K + 1)).j d)) := fun d1 hd one e => by
      rcases go_all t r rd ha h f K (adv t.mask p) d1 (by omega) (fun k hk => hin (k + 1) (Nat.succ_lt_succ hk)) he with ⟨k, i, d, a1, a2, a3, a4, a5, a6⟩ | ⟨a1, d, a2, a3⟩
      · refine .inl ⟨k + 1, i, d, Nat.succ_lt_succ a1, a2, a3, fun k' i' hk hi' => ?_, sh k d1 d a5 hd, by rw [e]; exact a6⟩
        cases k' with
        | zero => exact one i' hi'
        | succ k' => exact a4 k' i' (Nat.lt_of_succ_lt_succ hk) hi'
      · refine .inr ⟨fun k' i' hk hi' => ?_, d, sh K d1 d a2 hd, by rw [e]; exact a3⟩
        cases k' with
        | zero => exact one i' hi'
        | succ k' => exact a1 k' i' (Nat.lt_of_succ_lt_succ hk) hi'
    by_cases c : p.j ∈ t.place.toList
    · obtain ⟨i, hi⟩ := List.mem_iff_getElem?.mp c
      have hs : t.slot p.j = .live i := slot_live r hi
      have go1 : SetTable.probe.go t ha h (f + 1) { p with dummy := d0 } = if (ha i == h) = true then some (.candidate p.j i (adv t.mask { p with dummy := d0 })) else SetTable.probe.go t ha h f (adv t.mask { p with dummy := d0 }) := by
        conv => lhs; unfold SetTable.probe.go
        show (match t.slot p.j with
          | .empty => _
          | .dummy => _
          | .live i => _) = _
        rw [hs]
        rfl
      by_cases hh : ha i = h
      · refine .inl ⟨0, i, d0, Nat.succ_pos _, hi, hh, fun k' i' hk => absurd hk (Nat.not_lt_zero _), .inl rfl, ?_⟩
        rw [go1, if_pos (beq_iff_eq.mpr hh), up]
        rfl
      · refine step d0 (.inl rfl) (fun i' hi' => ?_) (by rw [go1, if_neg (fun z => hh (beq_iff_eq.mp z)), up])
        have e1 := slot_live r hi'
        rw [hs] at e1
        injection e1 with e1
        rw [← e1]
        exact hh
    · have cd : p.j ∈ t.dummies.toList := (hin 0 (Nat.succ_pos _)).resolve_left c
      have hs : t.slot p.j = .dummy := slot_dm rd c cd
      refine step (some p.j) (.inr ⟨rfl, cd⟩) (fun i' hi' => absurd (List.mem_of_getElem? hi') c) ?_
      conv => lhs; unfold SetTable.probe.go
      show (match t.slot p.j with
        | .empty => _
        | .dummy => _
        | .live i => _) = _
      rw [hs]
      show SetTable.probe.go t ha h f (adv t.mask { p with dummy := some p.j }) = _
      rw [up]
/-! ### the table's word -/
structure TabD (t : SetTable) (hs : List Int) : Prop where
  ris : Ris t.place.toList
  rid : Ris t.dummies.toList
  dis : ∀ x ∈ t.dummies.toList, x ∉ t.place.toList
  sz : t.place.size = hs.length
  mok : MaskW t.mask
  bd : ∀ x, Tk t x → x ≤ t.mask
  reach : ∀ (i : Nat) (h : Int) (j : Nat), hs[i]? = some h → t.place.toList[i]? = some j → ∃ k, way t.mask h k = j ∧ ∀ k', k' < k → Tk t (way t.mask h k')
theorem TabD.of {t : SetTable} {hs : List Int} (T : TabOk t hs) : TabD t hs where
  ris := T.ris
  rid := by rw [T.dm]; exact List.Pairwise.nil
  dis := fun x hx => by rw [T.dm] at hx; cases hx
  sz := T.sz
  mok := by
    rcases T.mok with e | e | e
    · exact .inl e
    · exact .inr (.inr (.inl e))
    · exact .inr (.inr (.inr (.inr e)))
  bd := fun x hx => hx.elim (T.bd x) fun z => by rw [T.dm] at z; cases z
  reach := fun i h j a b => let ⟨k, e, z⟩ := T.reach i h j a b; ⟨k, e, fun k' hk' => .inl (z k' hk')⟩
theorem TabD.odd {t : SetTable} {hs : List Int} (T : TabD t hs) : t.mask % 2 = 1 := by
  rcases T.mok with e | e | e | e | e <;> rw [e]
/-- the first slot on the way that nobody took -/
theorem TabD.first {t : SetTable} {hs : List Int} (T : TabD t hs) (room : t.fill ≤ t.mask) (h : Int) : ∃ K, K < 10 * SetTable.turns t.mask ∧ ¬ Tk t (way t.mask h K) ∧ ∀ k, k < K → Tk t (way t.mask h k) := by
  obtain ⟨j, hj, hn⟩ := st_missing (t.place.toList ++ t.dummies.toList) (t.mask + 1) (by
    rw [List.length_append, Array.length_toList, Array.length_toList]
    exact Nat.lt_succ_of_le room)
  obtain ⟨k, hk, e⟩ := meets_all T.mok h (Nat.le_of_lt_succ hj)
  obtain ⟨K, h1, h2, h3⟩ := st_least (p := fun k => ¬ Tk t (way t.mask h k)) k (fun z => hn (by
    rw [e] at z
    exact List.mem_append.mpr z))
  exact ⟨K, Nat.lt_of_le_of_lt h1 hk, h2, fun k' hk' => Classical.byContradiction fun c => h3 k' hk' c⟩
theorem TabD.ahead {t : SetTable} {hs : List Int} (T : TabD t hs) {h : Int} {K i j : Nat} (hK : ¬ Tk t (way t.mask h K)) (hi : hs[i]? = some h) (hj : t.place.toList[i]? = some j) : ∃ k, k < K ∧ way t.mask h k = j := by
  obtain ⟨k, e, hb⟩ := T.reach i h j hi hj
  refine ⟨k, ?_, e⟩
  rcases Nat.lt_trichotomy k K with c | c | c
  · exact c
  · rw [← c, e] at hK
    exact absurd (.inl (List.mem_of_getElem? hj)) hK
  · exact absurd (hb K c) hK
/-! ### one put in, one taken out -/
theorem erase_list {α : Type} (xs : Array α) (i : Nat) : (SetTable.eraseAt xs i).toList = xs.toList.take i ++ xs.toList.drop (i + 1) := by
  unfold SetTable.eraseAt
  simp only [Array.toList_append, Array.toList_extract, List.extract_eq_take_drop, Nat.sub_zero, List.drop_zero]
  rw [List.take_of_length_le (show (xs.toList.drop (i + 1)).length ≤ xs.size - (i + 1) by rw [List.length_drop, Array.length_toList] <;> exact Nat.le_refl _)]
theorem cut_get {α : Type} (l : List α) (p i : Nat) (hp : p < l.length) : (l.take p ++ l.drop (p + 1))[i]? = if i < p then l[i]? else l[i + 1]? := by
  have ht : (l.take p).length = p := by
    rw [List.length_take]
    omega
  by_cases c : i < p
  · rw [if_pos c, List.getElem?_append_left (by omega), List.getElem?_take, if_pos c]
  · rw [if_neg c, List.getElem?_append_right (by omega), ht, List.getElem?_drop]
    congr 1
    omega
theorem cut_mem {α : Type} {l : List α} {p : Nat} {y : α} (h : l[p]? = some y) (nd : l.Nodup) {x : α} : x ∈ l.take p ++ l.drop (p + 1) ↔ x ∈ l ∧ x ≠ y := by
  obtain ⟨hp, e⟩ := List.getElem?_eq_some_iff.mp h
  have sp : l = l.take p ++ y :: l.drop (p + 1) := by
    rw [← e, List.getElem_cons_drop, List.take_append_drop]
  have nd2 := nd
  rw [sp] at nd2
  obtain ⟨n1, n2, n3⟩ := List.nodup_append.mp nd2
  have n4 := List.nodup_cons.mp n2
  conv => rhs; rw [sp]
  simp only [List.mem_append, List.mem_cons]
  constructor
  · rintro (z | z)
    · exact ⟨.inl z, fun e => n3 x z y List.mem_cons_self e⟩
    · exact ⟨.inr (.inr z), fun e => n4.1 (e ▸ z)⟩
  · rintro ⟨z | z | z, ne⟩
    · exact .inl z
    · exact absurd z ne
    · exact .inr z
theorem ris_nodup {l : List Nat} (r : Ris l) : l.Nodup := List.Pairwise.imp (fun h => Nat.ne_of_lt h) r
theorem ris_cut {l : List Nat} (r : Ris l) (p : Nat) : Ris (l.take p ++ l.drop (p + 1)) := by
  refine List.pairwise_append.mpr ⟨List.Pairwise.sublist (List.take_sublist _ _) r, List.Pairwise.sublist (List.drop_sublist _ _) r, fun x hx y hy => ?_⟩
  obtain ⟨i, hi⟩ := List.mem_iff_getElem?.mp hx
  obtain ⟨k, hk⟩ := List.mem_iff_getElem?.mp hy
  rw [List.getElem?_take] at hi
  rw [List.getElem?_drop] at hk
  by_cases c : i < p
  · rw [if_pos c] at hi
    exact ris_lt r hi hk (by omega)
  · rw [if_neg c] at hi
    cases hi
theorem put_dms {t : SetTable} (rd : Ris t.dummies.toList) (j : Nat) : Ris (t.put j).1.dummies.toList ∧ ∀ x, x ∈ (t.put j).1.dummies.toList ↔ x ∈ t.dummies.toList ∧ x ≠ j := by
  show Ris (if SetTable.has t.dummies j = true then SetTable.eraseAt t.dummies (SetTable.below t.dummies j) else t.dummies).toList ∧ ∀ x, x ∈ (if SetTable.has t.dummies j = true then SetTable.eraseAt t.dummies (SetTable.below t.dummies j) else t.dummies).toList ↔ _
  by_cases c : j ∈ t.dummies.toList
  · obtain ⟨i, hi⟩ := List.mem_iff_getElem?.mp c
    rw [if_pos (has_mem rd c), below_at rd hi, erase_list]
    exact ⟨ris_cut rd i, fun x => cut_mem hi (ris_nodup rd)⟩
  · rw [if_neg (by rw [has_not c]; exact Bool.false_ne_true)]
    exact ⟨rd, fun x => ⟨fun z => ⟨z, fun e => c (e ▸ z)⟩, fun z => z.1⟩⟩
/-- j is a place for the hash h -/
def Spot (t : SetTable) (h : Int) (j : Nat) : Prop := j ∉ t.place.toList ∧ j ≤ t.mask ∧ ∃ K, way t.mask h K = j ∧ ∀ k, k < K → Tk t (way t.mask h k)
theorem TabD.put {t : SetTable} {hs : List Int} (T : TabD t hs) {h : Int} {j : Nat} (S : Spot t h j) :
    (t.put j).2 = SetTable.below t.place j ∧ SetTable.below t.place j ≤ hs.length ∧ TabD (t.put j).1 (hs.take (SetTable.below t.place j) ++ h :: hs.drop (SetTable.below t.place j)) ∧ (t.put j).1.mask = t.mask ∧ (t.put j).1.led = t.led ∧ (t.put j).1.plain = t.plain ∧
    (t.put j).1.place.size = hs.length + 1 ∧ (j ∈ t.dummies.toList → (t.put j).1.fill = t.fill) ∧ (j ∉ t.dummies.toList → (t.put j).1.fill = t.fill + 1) := by
  obtain ⟨jn, jm, K, jK, jb⟩ := S
  obtain ⟨c1, _, _⟩ := below_cut T.ris j
  have hpl : SetTable.below t.place j ≤ t.place.toList.length := by
    rw [Array.length_toList]
    exact c1
  have hph : SetTable.below t.place j ≤ hs.length := by
    rw [← T.sz]
    exact c1
  have nat : t.place[SetTable.below t.place j]? ≠ some j := fun e => jn (List.mem_of_getElem? (i := SetTable.below t.place j) (by rw [Array.getElem?_toList]; exact e))
  have hpp := put_place t j
  obtain ⟨dr, dmm⟩ := put_dms T.rid j
  have inn : ∀ x, x ∈ (t.put j).1.place.toList ↔ x = j ∨ x ∈ t.place.toList := fun x => by
    rw [hpp]
    exact mem_ins
  have tk : ∀ x, Tk t x → Tk (t.put j).1 x := fun x hx => by
    by_cases e : x = j
    · exact .inl ((inn x).mpr (.inl e))
    · exact hx.imp (fun z => (inn x).mpr (.inr z)) fun z => (dmm x).mpr ⟨z, e⟩
  have psz : (t.put j).1.place.size = hs.length + 1 := by
    rw [← Array.length_toList, hpp, len_ins _ hpl, Array.length_toList, T.sz]
  refine ⟨rfl, hph, ⟨ris_insert T.ris nat, dr, fun x hx => ?_, by rw [len_ins _ hph]; exact psz, T.mok, fun x hx => ?_, fun i h' j' h1 h2 => ?_⟩, rfl, rfl, rfl, psz, fun z => ?_, fun z => ?_⟩
  · obtain ⟨y1, y2⟩ := (dmm x).mp hx
    exact fun z => ((inn x).mp z).elim y2 (T.dis x y1)
  · rcases hx with z | z
    · rcases (inn x).mp z with e | z
      · rw [e]
        exact jm
      · exact T.bd x (.inl z)
    · exact T.bd x (.inr ((dmm x).mp z).1)
  · rw [tins_get hs hph] at h1
    rw [hpp, tins_get _ hpl] at h2
    show ∃ k, way t.mask h' k = j' ∧ ∀ k', k' < k → Tk (t.put j).1 (way t.mask h' k')
    have old : ∀ i, hs[i]? = some h' → t.place.toList[i]? = some j' → ∃ k, way t.mask h' k = j' ∧ ∀ k', k' < k → Tk (t.put j).1 (way t.mask h' k') := fun i a b =>
      let ⟨k, e, z⟩ := T.reach i h' j' a b
      ⟨k, e, fun k' hk' => tk _ (z k' hk')⟩
    by_cases c : i < SetTable.below t.place j
    · rw [if_pos c] at h1 h2
      exact old i h1 h2
    · rw [if_neg c] at h1 h2
      by_cases d : i = SetTable.below t.place j
      · rw [if_pos d] at h1 h2
        cases h1
        cases h2
        exact ⟨K, jK, fun k' hk' => tk _ (jb k' hk')⟩
      · rw [if_neg d] at h1 h2
        exact old _ h1 h2
  · have e : (t.put j).1.dummies.size + 1 = t.dummies.size := by
      show (if SetTable.has t.dummies j = true then SetTable.eraseAt t.dummies (SetTable.below t.dummies j) else t.dummies).size + 1 = _
      obtain ⟨i, hi⟩ := List.mem_iff_getElem?.mp z
      have il := (List.getElem?_eq_some_iff.mp hi).1
      rw [if_pos (has_mem T.rid z), below_at T.rid hi, ← Array.length_toList, erase_list, List.length_append, List.length_take, List.length_drop]
      rw [Array.length_toList] at il ⊢
      omega
    show (t.put j).1.place.size + (t.put j).1.dummies.size = t.place.size + t.dummies.size
    rw [psz, T.sz]
    omega
  · have e : (t.put j).1.dummies = t.dummies := by
      show (if SetTable.has t.dummies j = true then SetTable.eraseAt t.dummies (SetTable.below t.dummies j) else t.dummies) = _
      rw [has_not z] <;> rfl
    show (t.put j).1.place.size + (t.put j).1.dummies.size = t.place.size + t.dummies.size + 1
    rw [psz, T.sz, e]
    omega
theorem TabD.drop {t : SetTable} {hs : List Int} (T : TabD t hs) {i : Nat} (hi : i < hs.length) : TabD (t.drop i) (hs.take i ++ hs.drop (i + 1)) ∧ (t.drop i).mask = t.mask ∧ (t.drop i).led = t.led ∧ (t.drop i).plain = t.plain ∧ (t.drop i).fill = t.fill := by
  have il : i < t.place.toList.length := by
    rw [Array.length_toList, T.sz]
    exact hi
  have hj := List.getElem?_eq_getElem il
  generalize t.place.toList[i] = j at hj
  have pj : t.place[i]? = some j := by rw [← Array.getElem?_toList]; exact hj
  have jin := List.mem_of_getElem? hj
  have ed : t.drop i = { t with place := SetTable.eraseAt t.place i, dummies := SetTable.insertAt t.dummies (SetTable.below t.dummies j) j } := by
    unfold SetTable.drop
    rw [pj]
  have nd : j ∉ t.dummies.toList := fun z => T.dis j z jin
  have nat : t.dummies[SetTable.below t.dummies j]? ≠ some j := fun e => nd (List.mem_of_getElem? (i := SetTable.below t.dummies j) (by rw [Array.getElem?_toList]; exact e))
  have ep : (t.drop i).place.toList = t.place.toList.take i ++ t.place.toList.drop (i + 1) := by
    rw [ed]
    exact erase_list _ _
  have edm : (t.drop i).dummies.toList = t.dummies.toList.take (SetTable.below t.dummies j) ++ j :: t.dummies.toList.drop (SetTable.below t.dummies j) := by
    rw [ed]
    exact SetTable.toList_insertAt _ _ _
  have inn : ∀ x, x ∈ (t.drop i).place.toList ↔ x ∈ t.place.toList ∧ x ≠ j := fun x => by
    rw [ep]
    exact cut_mem hj (ris_nodup T.ris)
  have dmm : ∀ x, x ∈ (t.drop i).dummies.toList ↔ x = j ∨ x ∈ t.dummies.toList := fun x => by
    rw [edm]
    exact mem_ins
  have tk : ∀ x, Tk (t.drop i) x ↔ Tk t x := fun x => by
    constructor
    · rintro (z | z)
      · exact .inl ((inn x).mp z).1
      · rcases (dmm x).mp z with rfl | z
        · exact .inl jin
        · exact .inr z
    · rintro (z | z)
      · by_cases e : x = j
        · exact .inr ((dmm x).mpr (.inl e))
        · exact .inl ((inn x).mpr ⟨z, e⟩)
      · exact .inr ((dmm x).mpr (.inr z))
  have ml : (t.drop i).mask = t.mask := by rw [ed]
  have sp : (t.drop i).place.size + 1 = t.place.size := by
    rw [← Array.length_toList, ep, List.length_append, List.length_take, List.length_drop]
    rw [Array.length_toList] at il ⊢
    omega
  obtain ⟨cb, _, _⟩ := below_cut T.rid j
  have sd : (t.drop i).dummies.size = t.dummies.size + 1 := by
    rw [← Array.length_toList, edm, len_ins _ (by rw [Array.length_toList]; exact cb), Array.length_toList]
  refine ⟨⟨by rw [ep]; exact ris_cut T.ris i, by rw [ed]; exact ris_insert T.rid nat, fun x hx z => ?_, ?_, by rw [ml]; exact T.mok, fun x hx => by rw [ml]; exact T.bd x ((tk x).mp hx), fun q h' j' h1 h2 => ?_⟩, ml, by rw [ed], by rw [ed], ?_⟩
  · obtain ⟨z1, z2⟩ := (inn x).mp z
    rcases (dmm x).mp hx with e | y
    · exact z2 e
    · exact T.dis x y z1
  · rw [List.length_append, List.length_take, List.length_drop]
    have := T.sz
    omega
  · rw [cut_get hs i q hi] at h1
    rw [ep, cut_get _ i q il] at h2
    rw [ml]
    have old : ∀ q, hs[q]? = some h' → t.place.toList[q]? = some j' → ∃ k, way t.mask h' k = j' ∧ ∀ k', k' < k → Tk (t.drop i) (way t.mask h' k') := fun q a b =>
      let ⟨k, e, z⟩ := T.reach q h' j' a b
      ⟨k, e, fun k' hk' => (tk _).mpr (z k' hk')⟩
    by_cases c : q < i
    · rw [if_pos c] at h1 h2
      exact old q h1 h2
    · rw [if_neg c] at h1 h2
      exact old _ h1 h2
  · show (t.drop i).place.size + (t.drop i).dummies.size = t.place.size + t.dummies.size
    omega
/-! ### laying all anew -/
theorem free_any {m : Nat} (hm : MaskW m) (ow : Array (Option Nat)) (h : Int) {j : Nat} (hj : j ≤ m) (hf : oAt ow j = none) :
    ∃ K, SetTable.layClean.free m ow (SetTable.turns m) (SetTable.bits h % (m + 1)) (SetTable.bits h) = some (way m h K) ∧ oAt ow (way m h K) = none ∧ ∀ k, k < K → oAt ow (way m h k) ≠ none := by
  obtain ⟨n, hn, e⟩ := starts_all hm h hj
  have hw : way m h (off m (SetTable.bits h % (m + 1)) (SetTable.bits h) n) = j := (congrArg SetTable.Probe.j ((nth_off m n _ _).trans (by rw [itL_run]))).trans e
  obtain ⟨K, k1, k2, k3⟩ := st_least (p := fun k => oAt ow (way m h k) = none) _ (show oAt ow (way m h _) = none by rw [hw]; exact hf)
  exact ⟨K, free_spec m ow (SetTable.turns m) n _ _ K (by unfold SetTable.turns; omega) k1 (fun k hk => Option.isNone_eq_false_iff.mpr (Option.isSome_iff_ne_none.mpr (k3 k hk))) (Option.isNone_iff_eq_none.mpr k2), k2, k3⟩
theorem own_step {m : Nat} (hm : MaskW m) {dn : List Int} {ow : Array (Option Nat)} (W : Own m dn ow) (hl : dn.length ≤ m) (h : Int) :
    ∃ j, SetTable.layClean.free m ow (SetTable.turns m) (SetTable.bits h % (m + 1)) (SetTable.bits h) = some j ∧ Own m (dn ++ [h]) (ow.setIfInBounds j (some dn.length)) := by
  obtain ⟨ps, hps, hin⟩ := W.ps
  obtain ⟨j0, h0, hn0⟩ := st_missing ps (m + 1) (by omega)
  have hj0 : oAt ow j0 = none := Classical.byContradiction fun c => hn0 (hin j0 (Nat.le_of_lt_succ h0) c)
  obtain ⟨K, e1, e2, e3⟩ := free_any hm ow h (Nat.le_of_lt_succ h0) hj0
  have jm := way_in m h K
  have hself := oAt_set_self (some dn.length) (show way m h K < ow.size by rw [W.sz]; exact Nat.lt_succ_of_le jm)
  refine ⟨way m h K, e1, ?_⟩
  obtain ⟨x, hx⟩ : ∃ x, x = way m h K := ⟨_, rfl⟩
  rw [← hx] at e2 jm hself ⊢
  have mono : ∀ {i : Nat}, oAt ow i ≠ none → oAt (ow.setIfInBounds x (some dn.length)) i ≠ none := fun {i} hi => by
    by_cases c : i = x
    · rw [c, hself]
      exact Option.some_ne_none _
    · rw [oAt_set_ne _ c]
      exact hi
  refine ⟨(Array.size_setIfInBounds ..).trans W.sz, fun j k hj e => ?_, fun k hk => ?_, x :: ps, ?_, fun j hj e => ?_⟩
  · by_cases c : j = x
    · rw [c, hself] at e
      cases e
      exact ⟨h, K, List.getElem?_concat_length, hx.symm.trans c.symm, fun k' hk' => mono (e3 k' hk')⟩
    · rw [oAt_set_ne _ c] at e
      obtain ⟨h', K', a1, a2, a3⟩ := W.at_ j k hj e
      exact ⟨h', K', (List.getElem?_append_left (List.getElem?_eq_some_iff.mp a1).1).trans a1, a2, fun k' hk' => mono (a3 k' hk')⟩
  · rw [List.length_append] at hk
    rcases Nat.lt_or_ge k dn.length with c | c
    · obtain ⟨j, hj, e⟩ := W.all k c
      refine ⟨j, hj, (oAt_set_ne _ fun z => ?_).trans e⟩
      rw [z, e2] at e
      cases e
    · have ek : k = dn.length := Nat.le_antisymm (Nat.le_of_lt_succ hk) c
      exact ⟨x, jm, by rw [ek]; exact hself⟩
  · rw [List.length_cons, List.length_append, hps] <;> rfl
  · by_cases c : j = x
    · rw [c]
      exact List.mem_cons_self
    · rw [oAt_set_ne _ c] at e
      exact List.mem_cons_of_mem _ (hin j hj e)
theorem lay_fold {m : Nat} (hm : MaskW m) : ∀ (rs dn : List Int) (ow : Array (Option Nat)), Own m dn ow → dn.length + rs.length ≤ m → ∃ o2, rs.foldl (stepF m) (some (ow, dn.length)) = some (o2, (dn ++ rs).length) ∧ Own m (dn ++ rs) o2
  | [], dn, ow, W, _ => ⟨ow, by rw [List.append_nil] <;> rfl, by rw [List.append_nil]; exact W⟩
  | h :: rs, dn, ow, W, hl => by
    have hl : dn.length + (rs.length + 1) ≤ m := hl
    obtain ⟨j, e, W2⟩ := own_step hm W (by omega) h
    have l1 : (dn ++ [h]).length = dn.length + 1 := List.length_append
    obtain ⟨o2, q1, q2⟩ := lay_fold hm rs (dn ++ [h]) _ W2 (by omega)
    rw [List.append_assoc, l1] at q1
    rw [List.append_assoc] at q2
    exact ⟨o2, (congrArg (fun z => rs.foldl (stepF m) z) (stepF_some e)).trans q1, q2⟩
theorem lay_any {m : Nat} (hm : MaskW m) {hs : Array Int} (hn : hs.size ≤ m) : ∃ ow, SetTable.layClean m hs = some ow ∧ Own m hs.toList ow := by
  obtain ⟨ow, q1, q2⟩ := lay_fold hm hs.toList [] _ (Own.init m) (by rw [Array.length_toList]; exact Nat.le_trans (Nat.le_of_eq (Nat.zero_add _)) hn)
  exact ⟨ow, by rw [layClean_eq]; exact congrArg (Option.map (·.1)) q1, q2⟩
/-- a table laid anew -/
theorem laid_all {m : Nat} (hm : MaskW m) {hs : Array Int} (hn : hs.size ≤ m) (fi mv : Nat) (ld pl : Bool) :
    ∃ t' od, SetTable.laid m fi mv ld pl hs = some (t', od) ∧ od.toList.Perm (List.range hs.size) ∧ TabD t' (od.toList.map fun i => hs.getD i 0) ∧ t'.mask = m ∧ t'.led = ld ∧ t'.plain = pl ∧ t'.dummies = #[] := by
  obtain ⟨ow, e, W⟩ := lay_any hm hn
  obtain ⟨lv, hlv⟩ : ∃ lv, lv = liveOf m ow := ⟨_, rfl⟩
  have inl : ∀ j k, (j, k) ∈ lv ↔ j ≤ m ∧ oAt ow j = some k := fun j k => by rw [hlv]; exact mem_live W.sz
  have rs : Ris (lv.map (·.1)) := by
    rw [hlv]
    exact (ris_live (fun j => ow.getD j none) (List.range (m + 1)) (by unfold Ris; exact List.pairwise_lt_range)).1
  have lle : lv.length = hs.size := by
    obtain ⟨ps, p1, p2⟩ := W.ps
    have u := nat_nodup_len (lv.map (·.1)) ps (ris_nodup rs) fun x hx => by
      obtain ⟨⟨y, k⟩, hq, rfl⟩ := List.mem_map.mp hx
      obtain ⟨b1, b2⟩ := (inl y k).mp hq
      exact p2 y b1 (by rw [b2]; exact Option.some_ne_none _)
    have v := nat_nodup_len (List.range hs.size) (lv.map (·.2)) List.nodup_range fun k hk => by
      obtain ⟨j, b1, b2⟩ := W.all k (by rw [Array.length_toList]; exact List.mem_range.mp hk)
      exact List.mem_map.mpr ⟨(j, k), (inl j k).mpr ⟨b1, b2⟩, rfl⟩
    rw [List.length_map, p1, Array.length_toList] at u
    rw [List.length_map, List.length_range] at v
    exact Nat.le_antisymm u v
  refine ⟨{ mask := m, place := (lv.map (·.1)).toArray, dummies := #[], finger := fi, led := ld, moves := mv, plain := pl }, (lv.map (·.2)).toArray, ?_, ?_, ⟨rs, List.Pairwise.nil, fun x hx => (by cases hx), ?_, hm, fun x hx => ?_, fun i h j h1 h2 => ?_⟩, rfl, rfl, rfl, rfl⟩
  · unfold SetTable.laid
    rw [e, hlv] <;> rfl
  · refine perm_range hs.size (lv.map (·.2)) (by rw [List.length_map, lle]) fun k hk => ?_
    obtain ⟨j, b1, b2⟩ := W.all k (by rw [Array.length_toList]; exact hk)
    exact List.mem_map.mpr ⟨(j, k), (inl j k).mpr ⟨b1, b2⟩, rfl⟩
  · show (lv.map (·.1)).toArray.size = ((lv.map (·.2)).map fun i => hs.getD i 0).length
    simp
  · rcases hx with z | z
    · obtain ⟨⟨y, k⟩, hq, rfl⟩ := List.mem_map.mp (show x ∈ lv.map (·.1) from z)
      exact ((inl y k).mp hq).1
    · cases z
  · have h1 : ((lv.map (·.2)).map fun i => hs.getD i 0)[i]? = some h := h1
    have h2 : (lv.map (·.1))[i]? = some j := h2
    rw [List.getElem?_map, List.getElem?_map] at h1
    rw [List.getElem?_map] at h2
    cases hq : lv[i]? with
    | none =>
      rw [hq] at h2
      cases h2
    | some q =>
      obtain ⟨y, k⟩ := q
      rw [hq] at h1 h2
      cases h2
      have eh : hs.getD k 0 = h := Option.some.inj h1
      obtain ⟨b1, b2⟩ := (inl y k).mp (List.mem_of_getElem? hq)
      obtain ⟨h0, K, a1, a2, a3⟩ := W.at_ y k b1 b2
      have e0 : hs.getD k 0 = h0 := by
        rw [Array.getD_eq_getD_getElem?, ← Array.getElem?_toList, a1] <;> rfl
      have ehh : h0 = h := e0.symm.trans eh
      subst ehh
      refine ⟨K, a2, fun k' hk' => .inl ?_⟩
      cases z : oAt ow (way m h0 k') with
      | none => exact absurd z (a3 k' hk')
      | some k2 => exact List.mem_map.mpr ⟨(way m h0 k', k2), (inl _ _).mpr ⟨way_in m h0 k', z⟩, rfl⟩
end Ze
/-! Own ground, part ZF: sets of tuples of ints out of which elements were taken: find, add, discard. -/
namespace Zf
open PySem PySem.Spec PyProof.Rows L2 Xa Xb Xc Xs Ze
structure SetDR (P : Program) (w : World) (h : Heap) (a : Addr) (L : List (Addr × List Int)) (es : Array (Int × Value)) (ep : Nat) (t : SetTable) : Prop where
  ob : ∃ o, h.get? a = some o ∧ o.ExactSet ∧ o.data = .set es ep t
  rows : es.toList = rowsOf P w L
  tab : TabD t (L.map fun p => thash P w p.2)
  nd : (L.map (·.2)).Nodup
  tup : ∀ p ∈ L, IsT P w h p.2 p.1
  plain : t.plain = true
  led : w.params.followText "set-order" = true ∨ t.led = true
  room : t.fill * 5 < t.mask * 3
  few : L.length < 32
section
variable {P : Program} {w : World} {A : Around} {E : Value → Shared → Prop} {s : Shared} {h : Heap} {a : Addr} {L : List (Addr × List Int)} {es : Array (Int × Value)} {ep : Nat} {t : SetTable}
theorem SetDR.of (R : SetTR P w h a L es ep t) (f : L.length < 32) : SetDR P w h a L es ep t where
  ob := R.ob
  rows := R.rows
  tab := TabD.of R.tab
  nd := R.nd
  tup := R.tup
  plain := R.plain
  led := R.led
  room := by
    have h1 := R.tab.sz
    rw [List.length_map] at h1
    have h2 := R.room
    unfold SetTable.fill
    rw [R.tab.dm, h1]
    exact h2
  few := f
theorem SetDR.esz (R : SetDR P w h a L es ep t) : es.size = L.length := by
  have e := congrArg List.length R.rows
  rw [Array.length_toList] at e
  exact e.trans (by unfold rowsOf; rw [List.length_map])
theorem SetDR.psz (R : SetDR P w h a L es ep t) : t.place.size = L.length := R.tab.sz.trans (by rw [List.length_map])
theorem SetDR.low (R : SetDR P w h a L es ep t) : t.fill ≤ t.mask := by
  have := R.room
  omega
theorem SetDR.fit (R : SetDR P w h a L es ep t) : t.fits es.size = true := by
  unfold SetTable.fits
  rw [R.esz, R.psz, decide_eq_true R.low, beq_self_eq_true] <;> rfl
theorem SetDR.row (R : SetDR P w h a L es ep t) {i : Nat} {p : Addr × List Int} (q : L[i]? = some p) : es[i]? = some (thash P w p.2, Value.ref p.1) := by
  rw [← Array.getElem?_toList, R.rows]
  unfold rowsOf
  rw [List.getElem?_map, q] <;> rfl
theorem SetDR.sound (R : SetDR P w h a L es ep t) : ¬ t.gaveWay = true := by
  unfold SetTable.gaveWay
  rw [R.tab.odd]
  decide
theorem SetDR.keep {h' : Heap} (R : SetDR P w h a L es ep t) (ha : ∀ o, h.get? a = some o → h'.get? a = some o) (ht : ∀ p ∈ L, IsT P w h' p.2 p.1) : SetDR P w h' a L es ep t :=
  let ⟨o, ho, r⟩ := R.ob
  ⟨⟨o, ha o ho, r⟩, R.rows, R.tab, R.nd, ht, R.plain, R.led, R.room, R.few⟩
/-- one key stands at one place -/
theorem key_one (nd : (L.map (·.2)).Nodup) {i j : Nat} {p q : Addr × List Int} (hi : L[i]? = some p) (hj : L[j]? = some q) (e : p.2 = q.2) : i = j := by
  have a1 : (L.map (·.2))[i]? = some p.2 := by rw [List.getElem?_map, hi] <;> rfl
  have a2 : (L.map (·.2))[j]? = some p.2 := by rw [List.getElem?_map, hj, e] <;> rfl
  obtain ⟨l1, e1⟩ := List.getElem?_eq_some_iff.mp a1
  obtain ⟨l2, e2⟩ := List.getElem?_eq_some_iff.mp a2
  exact (List.getElem_inj nd).mp (e1.trans e2.symm)
/-- the search, from the c-th step on -/
theorem searchD (R : SetDR P w s.heap a L es ep t) {x : Addr} {k : List Int} (hx : IsT P w s.heap k x) (hu : A.units < cLine) (ad : Bool) {z : Nat} (z1 : z < 10 * SetTable.turns t.mask) (z2 : ¬ Tk t (way t.mask (thash P w k) z))
    (z3 : ∀ c, c < z → Tk t (way t.mask (thash P w k) c)) {Q : SetFound → Shared → Prop} (yes : ∀ r, k ∈ L.map (·.2) → (ad = false → ∃ i p, r = some i ∧ L[i]? = some p ∧ p.2 = k) → Q (.there r) s)
    (no : ∀ j wd, k ∉ L.map (·.2) → Spot t (thash P w k) j → (wd = true ↔ j ∈ t.dummies.toList) → Q (.free j wd) s) :
    ∀ (f c : Nat) (at_ : Option SetTable.Probe) (d : Option Nat), at_.getD (t.probeStart (thash P w k)) = { prb t (thash P w k) c with dummy := d } → (d = none ∨ ∃ q, q < c ∧ d = some (way t.mask (thash P w k) q) ∧ way t.mask (thash P w k) q ∈ t.dummies.toList) → c ≤ z → z - c < f →
      (∀ (i : Nat) p, L[i]? = some p → p.2 = k → ∃ c', c ≤ c' ∧ c' < z ∧ t.place.toList[i]? = some (way t.mask (thash P w k) c')) →
      wpAny (model P w) A (setSearchFrom a (.ref x) (thash P w k) ad f at_) Q E s := by
  obtain ⟨o, ho, _, hd⟩ := R.ob
  intro f
  induction f with
  | zero => exact fun c _ _ _ _ _ hf => absurd hf (Nat.not_lt_zero _)
  | succ f ih =>
    intro c at_ d hat hdm hc hf ahead
    rw [setSearchFrom_succ]
    refine wpAny_bind (wpAny_setState_of ho hd R.fit ?_)
    dsimp only
    refine wp_if_neg R.sound ?_
    try refine wpAny_bind (wpAny_pure ?_)
    have go := go_all t R.tab.ris R.tab.rid (fun i => (es[i]?.map (·.1)).getD 0) (thash P w k) (10 * SetTable.turns t.mask) (z - c) (prb t (thash P w k) c) d (by omega)
      (fun q hq => by rw [prb_on]; exact z3 (c + q) (by omega)) (by rw [prb_on, show c + (z - c) = z by omega]; exact z2)
    have dm2 : ∀ q d', DmOk t (prb t (thash P w k) c) q d d' → d' = none ∨ ∃ q', q' < c + q ∧ d' = some (way t.mask (thash P w k) q') ∧ way t.mask (thash P w k) q' ∈ t.dummies.toList := fun q d' y => by
      rcases y with rfl | ⟨q', hq', e, m⟩
      · exact hdm.imp id fun ⟨q', y1, y2, y3⟩ => ⟨q', by omega, y2, y3⟩
      · rw [prb_on] at e m
        exact .inr ⟨c + q', by omega, e, m⟩
    have hash_of : ∀ (i : Nat) p, L[i]? = some p → (es[i]?.map (·.1)).getD 0 = thash P w p.2 := fun i p hp => by rw [R.row hp] <;> rfl
    rcases go with ⟨q, i, d', hq, hi, hh, before, dd, met⟩ | ⟨before, d', dd, met⟩
    · rw [hat, show t.probe _ (thash P w k) { prb t (thash P w k) c with dummy := d } = _ from met]
      dsimp only
      rw [prb_on] at hi
      have hil : i < L.length := by
        have y1 := (List.getElem?_eq_some_iff.mp hi).1
        rw [Array.length_toList, R.psz] at y1
        exact y1
      obtain ⟨p, hp⟩ : ∃ p, L[i]? = some p := ⟨_, List.getElem?_eq_getElem hil⟩
      have pin := List.mem_of_getElem? hp
      have live : t.slot (way t.mask (thash P w k) (c + q)) = .live i := slot_live R.tab.ris hi
      have behind : wpAny (model P w) A (searchRest a (.ref x) (thash P w k) ad f es t (way t.mask (thash P w k) (c + q)) i { prb t (thash P w k) (c + (q + 1)) with dummy := d' }) Q E s := by
        unfold searchRest
        rw [R.row hp]
        dsimp only
        refine wpAny_bind (wpAny_holding (wpAny_eqBool_tuple hu (R.tup p pin) hx ?_))
        refine wpAny_bind (wpAny_setState_of ho hd R.fit ?_)
        dsimp only
        by_cases e : p.2 = k
        · have km : k ∈ L.map (·.2) := List.mem_map.mpr ⟨p, pin, e⟩
          cases ad with
          | true => exact wp_if_pos (by simp [e]) (wpAny_pure (yes none km fun y => nomatch y))
          | false =>
            refine wp_if_neg (by simp) ?_
            try refine wpAny_bind (wpAny_pure ?_)
            rw [sameMem]
            dsimp only
            simp only [if_true, live, R.row hp]
            refine wpAny_bind (wpAny_isSame_ref_self (wpAny_bind (wpAny_pure ?_)))
            simp only [if_true]
            exact wp_if_pos (by simp [e]) (wpAny_pure (yes (some i) km fun _ => ⟨i, p, rfl, hp, e⟩))
        · refine wp_if_neg (by simp [e]) ?_
          try refine wpAny_bind (wpAny_pure ?_)
          rw [sameMem]
          dsimp only
          simp only [if_true, live, R.row hp]
          refine wpAny_bind (wpAny_isSame_ref_self (wpAny_bind (wpAny_pure ?_)))
          simp only [if_true]
          refine wp_if_neg (by simp [e]) (ih (c + (q + 1)) _ d' rfl ((dm2 q d' dd).imp id fun ⟨q', y1, y2, y3⟩ => ⟨q', by omega, y2, y3⟩) (by omega) (by omega) fun j r hj hr => ?_)
          obtain ⟨c', y1, y2, y3⟩ := ahead j r hj hr
          refine ⟨c', ?_, y2, y3⟩
          rcases Nat.lt_trichotomy c' (c + q) with y | y | y
          · exact absurd ((hash_of j r hj).trans (congrArg (thash P w) hr)) (before (c' - c) j (by omega) (by rw [prb_on, show c + (c' - c) = c' by omega]; exact y3))
          · rw [y] at y3
            have l2 := slot_live R.tab.ris y3
            rw [live] at l2
            injection l2 with l2
            rw [← l2, hp] at hj
            exact absurd ((congrArg Prod.snd (Option.some.inj hj)).trans hr) e
          · omega
      have nxt : nth t.mask (prb t (thash P w k) c) (q + 1) = prb t (thash P w k) (c + (q + 1)) := prb_on ..
      have plc : (nth t.mask (prb t (thash P w k) c) q).j = way t.mask (thash P w k) (c + q) := congrArg SetTable.Probe.j (prb_on t (thash P w k) c q)
      rw [nxt, plc]
      by_cases led : t.led = true
      · refine wp_if_neg (by simp [led]) ?_
        try refine wpAny_bind (wpAny_pure ?_)
        exact behind
      · refine wp_if_pos (by simp [led]) (wpAny_bind (seen_tup hx (fun y hy => ?_) (wp_if_neg (by decide) ?_)))
        · obtain ⟨e, he, rfl⟩ := List.mem_map.mp hy
          have e1 : e ∈ es.toList := by
            have e2 : e ∈ es ∧ e.1 = thash P w k := by simpa using he
            simpa using e2.1
          rw [R.rows] at e1
          obtain ⟨p2, hp2, rfl⟩ := List.mem_map.mp e1
          exact ⟨p2.2, p2.1, rfl, R.tup p2 hp2⟩
        · try refine wpAny_bind (wpAny_pure ?_)
          exact behind
    · have plc : (nth t.mask (prb t (thash P w k) c) (z - c)).j = way t.mask (thash P w k) z := by
        rw [prb_on, show c + (z - c) = z by omega]
      rw [hat, show t.probe _ (thash P w k) { prb t (thash P w k) c with dummy := d } = _ from met]
      dsimp only
      rw [plc]
      have out : k ∉ L.map (·.2) := fun hm => by
        obtain ⟨p, hp, hk⟩ := List.mem_map.mp hm
        obtain ⟨i, hi, rfl⟩ := List.getElem_of_mem hp
        have hi2 := List.getElem?_eq_getElem hi
        obtain ⟨c', y1, y2, y3⟩ := ahead i _ hi2 hk
        exact before (c' - c) i (by omega) (by rw [prb_on, show c + (c' - c) = c' by omega]; exact y3) ((hash_of i _ hi2).trans (congrArg (thash P w) hk))
      rcases dm2 (z - c) d' dd with rfl | ⟨q', y1, rfl, y3⟩
      · dsimp only
        exact wpAny_pure (no _ false out ⟨fun y => z2 (.inl y), way_in _ _ _, z, rfl, z3⟩ ⟨fun y => (nomatch y), fun y => absurd (.inr y) z2⟩)
      · dsimp only
        have q2 : q' < z := by omega
        refine wp_if_neg (by rw [slot_dm R.tab.rid (R.tab.dis _ y3) y3]; simp) ?_
        try refine wpAny_bind (wpAny_pure ?_)
        exact wpAny_pure (no _ true out ⟨R.tab.dis _ y3, way_in _ _ _, q', rfl, fun c' hc' => z3 c' (by omega)⟩ ⟨fun _ => y3, fun _ => rfl⟩)
theorem searchD0 (R : SetDR P w s.heap a L es ep t) {x : Addr} {k : List Int} (hx : IsT P w s.heap k x) (hu : A.units < cLine) (ad : Bool) {Q : SetFound → Shared → Prop}
    (yes : ∀ r, k ∈ L.map (·.2) → (ad = false → ∃ i p, r = some i ∧ L[i]? = some p ∧ p.2 = k) → Q (.there r) s)
    (no : ∀ j wd, k ∉ L.map (·.2) → Spot t (thash P w k) j → (wd = true ↔ j ∈ t.dummies.toList) → Q (.free j wd) s) : wpAny (model P w) A (setSearch a (.ref x) (thash P w k) ad) Q E s := by
  obtain ⟨z, z1, z2, z3⟩ := R.tab.first R.low (thash P w k)
  have zb : z < 100000 := by
    have : 10 * SetTable.turns t.mask ≤ 1420 := by
      unfold SetTable.turns
      rcases R.tab.mok with e | e | e | e | e <;> omega
    omega
  unfold setSearch
  refine searchD R hx hu ad z1 z2 z3 yes no 100000 0 none none rfl (.inl rfl) (Nat.zero_le _) (by omega) fun i p hp hk => ?_
  have y1 : (L.map fun p => thash P w p.2)[i]? = some (thash P w k) := by rw [List.getElem?_map, hp, ← hk] <;> rfl
  have y2 : i < t.place.toList.length := by
    rw [Array.length_toList, R.psz]
    exact (List.getElem?_eq_some_iff.mp hp).1
  have y3 := List.getElem?_eq_getElem y2
  obtain ⟨c, hc, e⟩ := R.tab.ahead z2 y1 y3
  exact ⟨c, Nat.zero_le _, hc, by rw [y3, e]⟩
theorem findD (R : SetDR P w s.heap a L es ep t) {x : Addr} {k : List Int} (hx : IsT P w s.heap k x) (hu : A.units < cLine) {Q : Option Nat → Shared → Prop} (yes : ∀ i p, L[i]? = some p → p.2 = k → Q (some i) s) (no : k ∉ L.map (·.2) → Q none s) :
    wpAny (model P w) A (setFind a (.ref x) (thash P w k)) Q E s := by
  obtain ⟨o, ho, _, hd⟩ := R.ob
  unfold setFind
  rw [show (100000 : Nat) = 99999 + 1 from rfl]
  unfold setFindIn
  refine wpAny_bind (wpAny_setState_of ho hd R.fit ?_)
  dsimp only
  refine wp_if_neg (by simp [byScan, Value.scannable]) ?_
  try refine wpAny_bind (wpAny_pure ?_)
  refine wpAny_bind (searchD0 R hx hu false (fun r _ y => ?_) fun j wd out _ _ => ?_)
  · obtain ⟨i, p, rfl, hp, hk⟩ := y rfl
    dsimp only
    exact wpAny_pure (yes i p hp hk)
  · dsimp only
    exact wpAny_pure (no out)
/-- one taken out, where it stands -/
theorem discardD (R : SetDR P w s.heap a L es ep t) {x : Addr} {k : List Int} (hx : IsT P w s.heap k x) (hu : A.units < cLine) {Q : Bool → Shared → Prop}
    (yes : ∀ h' L' es' ep' t', k ∈ L.map (·.2) → Heap.SameBut a s.heap h' → SetDR P w h' a L' es' ep' t' → (∀ q, q ∈ L' ↔ q ∈ L ∧ q.2 ≠ k) → Q true { s with heap := h' }) (no : k ∉ L.map (·.2) → Q false s) :
    wpAny (model P w) A (setDiscardHashed a (.ref x) (thash P w k)) Q E s := by
  obtain ⟨o, ho, hex, hd⟩ := R.ob
  unfold setDiscardHashed
  refine wpAny_bind (findD R hx hu (fun i p hp hk => ?_) fun out => ?_)
  · dsimp only
    refine wpAny_bind (wpAny_setState_of ho hd R.fit ?_)
    dsimp only
    have il := (List.getElem?_eq_some_iff.mp hp).1
    have er : (SetTable.eraseAt es i).toList = rowsOf P w (L.take i ++ L.drop (i + 1)) := by
      rw [erase_list, R.rows]
      unfold rowsOf
      rw [List.map_append, List.map_take, List.map_drop]
    have e2 : (L.take i ++ L.drop (i + 1)).map (fun p => thash P w p.2) = (L.map fun p => thash P w p.2).take i ++ (L.map fun p => thash P w p.2).drop (i + 1) := by
      rw [List.map_append, List.map_take, List.map_drop]
    have ln : (L.take i ++ L.drop (i + 1)).length + 1 = L.length := by
      rw [List.length_append, List.length_take, List.length_drop]
      omega
    have sz : (SetTable.eraseAt es i).size + 1 = L.length := by
      rw [← Array.length_toList, er]
      unfold rowsOf
      rw [List.length_map]
      exact ln
    have few := R.few
    obtain ⟨T, tm, tl, tp, tf⟩ := R.tab.drop (i := i) (by rw [List.length_map]; exact il)
    refine wpAny_bind (wpAny_storeSet_of ho hd ?_ (by rw [sizeLine_eq]; omega))
    refine wpAny_bind (wpAny_point (wpAny_pure ?_))
    have sb : Heap.SameBut a s.heap (s.heap.update a (Obj.putSet (SetTable.eraseAt es i) (t.drop i))) := Heap.SameBut.update ..
    have sub : (L.take i ++ L.drop (i + 1)).Sublist L := by
      conv => rhs; rw [← List.take_append_drop i L]
      exact List.Sublist.append_left (List.drop_sublist_drop_left _ (Nat.le_succ i)) _
    refine yes _ (L.take i ++ L.drop (i + 1)) (SetTable.eraseAt es i) (ep + 1) (t.drop i) (List.mem_map.mpr ⟨p, List.mem_of_getElem? hp, hk⟩) sb ⟨⟨_, store_at ho hd, ⟨hex.1, hex.2.1, hex.2.2⟩, rfl⟩, er, by rw [e2]; exact T, (sub.map _).nodup R.nd, fun q hq => isT_same (R.tup q (sub.subset hq)) ho hd sb, by rw [tp]; exact R.plain, R.led.imp id fun y => by rw [tl]; exact y, by rw [tf, tm]; exact R.room, by omega⟩ fun q => ?_
    rw [cut_mem hp (nodup_of_map R.nd)]
    refine and_congr_right fun hq => ⟨fun ne e => ne ?_, fun ne e => ne (by rw [e]; exact hk)⟩
    obtain ⟨j, hj⟩ := List.mem_iff_getElem?.mp hq
    have ij := key_one R.nd hj hp (e.trans hk.symm)
    rw [ij, hp] at hj
    exact (Option.some.inj hj).symm
  · dsimp only
    exact wpAny_pure (no out)
end
end Zf
/-! Own ground, part ZG: such sets: laid anew, added to, walked, copied. -/
namespace Zg
open PySem PySem.Spec PyProof.Rows L2 Xa Xb Xc Xs Ze Zf
theorem grown_ok : ∀ n, n < 32 → 1 ≤ n → ((SetTable.sizeAbove (SetTable.grown n) - 1 = 7 ∨ SetTable.sizeAbove (SetTable.grown n) - 1 = 15 ∨ SetTable.sizeAbove (SetTable.grown n) - 1 = 31 ∨ SetTable.sizeAbove (SetTable.grown n) - 1 = 63 ∨ SetTable.sizeAbove (SetTable.grown n) - 1 = 127) ∧
    SetTable.sizeAbove (SetTable.grown n) ≤ 128 ∧ n * 5 < (SetTable.sizeAbove (SetTable.grown n) - 1) * 3) := by decide +kernel
theorem room_ok : ∀ n, n < 32 → 5 ≤ n → ((SetTable.sizeAbove (n * 2) - 1 = 7 ∨ SetTable.sizeAbove (n * 2) - 1 = 15 ∨ SetTable.sizeAbove (n * 2) - 1 = 31 ∨ SetTable.sizeAbove (n * 2) - 1 = 63 ∨ SetTable.sizeAbove (n * 2) - 1 = 127) ∧
    SetTable.sizeAbove (n * 2) ≤ 128 ∧ n * 5 < (SetTable.sizeAbove (n * 2) - 1) * 3) := by decide +kernel
theorem tidy0 : SetTable.sizeAbove (SetTable.grown 0) - 1 = 7 ∧ SetTable.sizeAbove (SetTable.grown 0) ≤ 128 := by decide +kernel
section
variable {P : Program} {w : World} {A : Around} {E : Value → Shared → Prop} {s : Shared} {a : Addr} {L : List (Addr × List Int)} {es : Array (Int × Value)} {ep : Nat} {t : SetTable}
/-- a set with its table, whatever the slots may be -/
structure Rowed (P : Program) (w : World) (h : Heap) (a : Addr) (o : Obj) (L : List (Addr × List Int)) (es : Array (Int × Value)) (ep : Nat) (t : SetTable) : Prop where
  ob : h.get? a = some o
  ex : o.ExactSet
  dat : o.data = .set es ep t
  rows : es.toList = rowsOf P w L
  fit : t.fits es.size = true
  nd : (L.map (·.2)).Nodup
  tup : ∀ p ∈ L, IsT P w h p.2 p.1
  plain : t.plain = true
  led : w.params.followText "set-order" = true ∨ t.led = true
  few : L.length < 32
theorem Rowed.esz {h : Heap} {o : Obj} (R : Rowed P w h a o L es ep t) : es.size = L.length := by
  have e := congrArg List.length R.rows
  rw [Array.length_toList] at e
  exact e.trans (by unfold rowsOf; rw [List.length_map])
/-- rows in the order of a table laid anew -/
theorem laid_rows {h : Heap} {o : Obj} (R : Rowed P w h a o L es ep t) {M : Nat} (hM : MaskW M) (hn : L.length * 5 < M * 3) (fi mv : Nat) (ld : Bool) :
    ∃ t' od L2, SetTable.laid M fi mv ld true (es.map (·.1)) = some (t', od) ∧ (od.filterMap (es[·]?)).toList = rowsOf P w L2 ∧ (od.filterMap (es[·]?)).size = es.size ∧ L2.Perm L ∧ TabD t' (L2.map fun p => thash P w p.2) ∧ t'.mask = M ∧ t'.led = ld ∧ t'.plain = true ∧ t'.fill = L.length ∧ t'.dummies = #[] := by
  have esz := R.esz
  obtain ⟨t', od, e, pm, T, em, el, epl, ed⟩ := laid_all hM (hs := es.map (·.1)) (by rw [Array.size_map, esz]; omega) fi mv ld true
  rw [Array.size_map, esz] at pm
  obtain ⟨L2, r1, r2, r3⟩ := order_rows L es od R.rows pm
  rw [← r3] at T
  have s2 : (od.filterMap (es[·]?)).size = L.length := by
    have q := congrArg List.length r1
    rw [Array.length_toList] at q
    rw [q]
    unfold rowsOf
    rw [List.length_map, r2.length_eq]
  refine ⟨t', od, L2, e, r1, s2.trans esz.symm, r2, T, em, el, epl, ?_, ed⟩
  show t'.place.size + t'.dummies.size = _
  rw [T.sz, ed, List.length_map, r2.length_eq] <;> rfl
theorem relayD {o : Obj} (R : Rowed P w s.heap a o L es ep t) {wanted M : Nat} (hw : SetTable.sizeAbove wanted - 1 = M) (hM : MaskW M) (hz : SetTable.sizeAbove wanted ≤ 128) (hn : L.length * 5 < M * 3) {Q : Unit → Shared → Prop}
    (hQ : ∀ h' L' es' ep' t', Heap.SameBut a s.heap h' → SetDR P w h' a L' es' ep' t' → L'.Perm L → t'.mask = M → t'.dummies = #[] → Q () { s with heap := h' }) : wpAny (model P w) A (setRelay a wanted) Q E s := by
  have esz := R.esz
  have few := R.few
  obtain ⟨t', od, L2, e, r1, r2, r3, T, em, el, epl, tf, edm⟩ := laid_rows R hM hn t.finger (t.movedTo M) t.led
  rw [setRelay_eq]
  refine wpAny_bind (wpAny_setState_of R.ob R.dat R.fit ?_)
  dsimp only
  refine wp_if_neg (by rw [sizeLine_eq]; omega) ?_
  try refine wpAny_bind (wpAny_pure ?_)
  have e1 : t.relaid (es.map (·.1)) wanted = some (t', od) := by
    unfold SetTable.relaid
    rw [hw, R.plain]
    exact e
  rw [e1]
  dsimp only
  refine wpAny_bind ?_
  refine wp_if_neg (by rw [r2]; simp) ?_
  try refine wpAny_bind (wpAny_pure ?_)
  refine wpAny_pure ?_
  dsimp only
  refine wpAny_storeSet_of R.ob R.dat ?_ (by rw [r2, esz, sizeLine_eq]; omega)
  have sb : Heap.SameBut a s.heap (s.heap.update a (Obj.putSet (od.filterMap (es[·]?)) t')) := Heap.SameBut.update ..
  exact hQ _ L2 _ (ep + 1) t' sb ⟨⟨_, store_at R.ob R.dat, ⟨R.ex.1, R.ex.2.1, R.ex.2.2⟩, rfl⟩, r1, T, (r3.map (·.2)).nodup_iff.mpr R.nd, fun p hp => isT_same (R.tup p (r3.mem_iff.mp hp)) R.ob R.dat sb, epl, R.led.imp id fun y => by rw [el]; exact y,
    by rw [tf, em]; exact hn, by rw [r3.length_eq]; exact few⟩ r3 em edm
/-- one put in -/
theorem addD (R : SetDR P w s.heap a L es ep t) {x : Addr} {k : List Int} (hx : IsT P w s.heap k x) (hu : A.units < cLine) (few : k ∉ L.map (·.2) → L.length + 1 < 32) {Q : Bool → Shared → Prop}
    (hQ : ∀ b h' L' es' ep' t', Heap.SameBut a s.heap h' → SetDR P w h' a L' es' ep' t' → (k ∈ L.map (·.2) → L' = L) → (k ∉ L.map (·.2) → L'.Perm ((x, k) :: L)) → Q b { s with heap := h' }) : wpAny (model P w) A (setAddHashed a (.ref x) (thash P w k)) Q E s := by
  obtain ⟨o, ho, hex, hd⟩ := R.ob
  have esz := R.esz
  unfold setAddHashed
  refine wpAny_holding ?_
  rw [show (100000 : Nat) = 99999 + 1 from rfl, setAddHashedIn_succ]
  refine wpAny_bind (wpAny_setState_of ho hd R.fit ?_)
  dsimp only
  refine wp_if_neg (by simp [byScan, Value.scannable]) ?_
  try refine wpAny_bind (wpAny_pure ?_)
  refine wpAny_bind (searchD0 R hx hu true (fun r hm _ => ?_) fun j wd hm sp hwd => ?_)
  · dsimp only
    exact wpAny_pure (hQ false s.heap L es ep t (Heap.SameBut.refl a s.heap) R (fun _ => rfl) fun y => absurd hm y)
  dsimp only
  refine wpAny_bind (wpAny_setState_of ho hd R.fit ?_)
  dsimp only
  have fw := few hm
  obtain ⟨q1, q2, T1, q4, q5, q6, q7, f1, f2⟩ := R.tab.put sp
  have p1 : (t.put j).1.plain = true := q6.trans R.plain
  have low : (t.put j).1.fill ≤ (t.put j).1.mask := by
    have := R.room
    rw [q4]
    by_cases c : j ∈ t.dummies.toList
    · rw [f1 c]
      omega
    · rw [f2 c]
      omega
  generalize t.put j = pt at q1 T1 q4 q5 q6 q7 f1 f2 p1 low ⊢
  obtain ⟨t1, p⟩ := pt
  dsimp only at q1 T1 q4 q5 q6 q7 f1 f2 p1 low ⊢
  subst q1
  first
    | (refine wpAny_bind ?_; refine wp_if_pos p1 ?_; refine hashBy_tup hx ?_)
    | refine wp_if_pos p1 (wpAny_bind (hashBy_tup hx ?_))
  simp only [if_true]
  generalize SetTable.below t.place j = p at q2 T1 ⊢
  have hin : (SetTable.insertAt es p (thash P w k, Value.ref x)).toList = rowsOf P w (L.take p ++ (x, k) :: L.drop p) := by
    rw [SetTable.toList_insertAt, R.rows]
    exact (rows_put L p x k).symm
  have pm := put_perm L p (x, k)
  have ln : (L.take p ++ (x, k) :: L.drop p).length = L.length + 1 := pm.length_eq
  have T2 : TabD t1 ((L.take p ++ (x, k) :: L.drop p).map fun p => thash P w p.2) := by
    rw [List.map_append, List.map_cons, List.map_take, List.map_drop]
    exact T1
  have nd1 : ((L.take p ++ (x, k) :: L.drop p).map (·.2)).Nodup := (pm.map (·.2)).nodup_iff.mpr (List.nodup_cons.mpr ⟨hm, R.nd⟩)
  have z1 : (SetTable.insertAt es p (thash P w k, Value.ref x)).size = L.length + 1 := by
    rw [← Array.length_toList, hin]
    unfold rowsOf
    rw [List.length_map, ln]
  generalize SetTable.insertAt es p (thash P w k, Value.ref x) = es1 at hin z1 ⊢
  generalize L.take p ++ (x, k) :: L.drop p = L1 at pm ln T2 nd1 hin
  refine wpAny_bind (wpAny_storeSet_of ho hd ?_ (by rw [z1, sizeLine_eq]; omega))
  have sb : Heap.SameBut a s.heap (s.heap.update a (Obj.putSet es1 t1)) := Heap.SameBut.update ..
  have ho1 := store_at (es' := es1) (t' := t1) ho hd
  generalize s.heap.update a (Obj.putSet es1 t1) = h1 at sb ho1 ⊢
  have tup1 : ∀ p ∈ L1, IsT P w h1 p.2 p.1 := fun p hp => (List.mem_cons.mp (pm.mem_iff.mp hp)).elim (fun e => by rw [e]; exact isT_same hx ho hd sb) fun y => isT_same (R.tup p y) ho hd sb
  have ld1 : w.params.followText "set-order" = true ∨ t1.led = true := R.led.imp id fun y => by rw [q5]; exact y
  have fit1 : t1.fits es1.size = true := by
    unfold SetTable.fits
    rw [z1, q7, List.length_map, decide_eq_true low, beq_self_eq_true] <;> rfl
  by_cases hf : (!wd && t1.tooFull) = true
  · first
      | (refine wpAny_bind ?_; refine wp_if_pos hf ?_)
      | (refine wp_if_pos hf ?_; refine wpAny_bind ?_)
    rw [esz]
    obtain ⟨g1, g2, g3⟩ := grown_ok (L.length + 1) fw (Nat.succ_pos _)
    refine relayD (s := { s with heap := h1 }) (L := L1) ⟨ho1, ⟨hex.1, hex.2.1, hex.2.2⟩, rfl, hin, fit1, nd1, tup1, p1, ld1, by rw [ln]; exact fw⟩ rfl g1 g2 (by rw [ln]; exact g3) fun h2 L2 es2 ep2 t2 sb2 R2 pm2 _ _ => ?_
    exact wpAny_pure (hQ true h2 L2 es2 ep2 t2 (sb.trans sb2) R2 (fun y => absurd y hm) fun _ => pm2.trans pm)
  · first
      | refine wp_if_neg hf ?_
      | (refine wpAny_bind ?_; refine wp_if_neg hf ?_; refine wpAny_pure ?_)
    try refine wpAny_bind (wpAny_pure ?_)
    refine wpAny_pure (hQ true h1 L1 es1 (ep + 1) t1 sb ⟨⟨_, ho1, ⟨hex.1, hex.2.1, hex.2.2⟩, rfl⟩, hin, T2, nd1, tup1, p1, ld1, ?_, by rw [ln]; exact fw⟩ (fun y => absurd y hm) fun _ => pm)
    cases wd with
    | true =>
      have c := hwd.mp rfl
      rw [f1 c, q4]
      exact R.room
    | false =>
      have hf : ¬ t1.tooFull = true := by simpa using hf
      unfold SetTable.tooFull at hf
      have hf : ¬ t1.fill * 5 ≥ t1.mask * 3 := by simpa using hf
      omega
/-- the elements in some order -/
theorem walkD (R : SetDR P w s.heap a L es ep t) {Q : Array (Int × Value) → Shared → Prop} (h : ∀ ys, ys.toList.Perm es.toList → Q ys s) : wpAny (model P w) A (setWalk a) Q E s := by
  obtain ⟨o, ho, _, hd⟩ := R.ob
  unfold setWalk
  refine wpAny_bind (wpAny_setState_of ho hd R.fit ?_)
  dsimp only
  refine wpAny_bind (wpAny_byText ?_)
  by_cases c : w.params.followText "set-order" = true
  · refine wp_if_pos c ?_
    exact wpAny_bind (wpAny_askSetting (wpAny_pure (h _ (pick_perm _ _))))
  · refine wp_if_neg c ?_
    try refine wpAny_bind (wpAny_pure ?_)
    refine wp_if_neg (by show ¬ ((!t.plain && decide (es.size > 1)) = true); rw [R.plain]; exact Bool.false_ne_true) ?_
    try refine wpAny_bind (wpAny_pure ?_)
    refine wpAny_bind (wpAny_of_eq (a := ()) ?_ (wpAny_pure (h es (List.Perm.refl _))))
    show (if (!t.led && decide (es.size > 1)) = true then unsupported "set:maker-not-led" else pure ()) = pure ()
    rw [R.led.resolve_left c] <;> rfl
theorem walkUD (R : SetDR P w s.heap a L es ep t) (others : List Addr) (fl : Option Addr) {Q : Array (Int × Value) → Shared → Prop} (h : ∀ ys, ys.toList.Perm es.toList → Q ys s) : wpAny (model P w) A (setWalkUnseen a others fl) Q E s := by
  obtain ⟨o, ho, _, hd⟩ := R.ob
  unfold setWalkUnseen
  refine wpAny_bind (wpAny_setState_of ho hd R.fit ?_)
  dsimp only
  refine wpAny_bind (wpAny_byText ?_)
  refine wp_if_pos ?_ (walkD R h)
  rw [R.plain]
  rcases R.led with e | e
  · rw [e] <;> rfl
  · rw [e]
    cases w.params.followText "set-order" <;> rfl
end
end Zg
/-! Own ground, part ZH: sets of tuples of ints copied. -/
namespace Zh
open PySem PySem.Spec PyProof.Rows L2 Xa Xb Xc Xs Ze Zf Zg
abbrev freshO (w : World) : Obj := { cls := .type "set", dict := none, data := .set #[] 0 (.fresh 0 0 (!w.params.followText "set-order")) }
theorem merge_rows (a b : Addr) (each : Sem Unit) : setMerge a b each = (do
    if a == b then return
    let (eo, epoch, to) ← setState b
    if eo.isEmpty then return
    setRoomFor a eo.size
    let (_, _, ts) ← setState a
    match ts.road to with
    | .slotForSlot => storeSet a eo { to with finger := ts.finger, led := ts.led && to.led, moves := ts.moves, plain := ts.plain && to.plain }
    | .clean =>
      let (es, t) ← (do
        let some (t, order) := SetTable.laid ts.mask ts.finger ts.moves (led := ts.led && to.led) (plain := ts.plain && to.plain) (eo.map (·.1)) | unsupported "internal:set-table-without-room"
        let es' := order.filterMap (eo[·]?)
        if es'.size != eo.size then unsupported "internal:set-table-lost-an-element"
        pure (es', t) : Sem (Array (Int × Value) × SetTable))
      storeSet a es t
    | .oneByOne =>
      for (h, x) in ← setWalkUnseen b [a] (some a) do
        let _ ← holding [x] (setAddHashed a x h)
        each
        if (← setState b).2.1 != epoch then unsupported "set.changed-during-merge") := by rfl
section
variable {P : Program} {w : World} {A : Around} {E : Value → Shared → Prop} {s : Shared} {a b : Addr} {L : List (Addr × List Int)} {es e0 : Array (Int × Value)} {ep p0 : Nat} {t t0 : SetTable}
theorem _root_.Zf.SetDR.fresh {h : Heap} (ho : h.get? a = some (freshO w)) : SetDR P w h a [] #[] 0 (.fresh 0 0 (!w.params.followText "set-order")) := SetDR.of (setTR_fresh ho) (by show 0 < 32; decide)
theorem newSetD {Q : Value → Shared → Prop} (h : Q (.ref s.heap.objs.size) { s with heap := s.heap.push (freshO w) }) : wpAny (model P w) A (newSet (.type "set")) Q E s := by
  unfold newSet setsByText
  refine wpAny_bind (wpAny_bind (wpAny_askSetting (wpAny_pure ?_)))
  dsimp only
  simp only [newObj]
  exact wpAny_bind (wpAny_alloc (wpAny_pure h))
theorem baseD (hT : s.TypeIs (.ref a) "set") {Q : Value → Shared → Prop} (h : Q (.type "set") s) : wpAny (model P w) A (Builtin.Frozenset.baseOf a) Q E s := by
  unfold Builtin.Frozenset.baseOf
  exact wpAny_bind (wpAny_isInstance hT sub_set_self (wpAny_pure h))
theorem anyD {v : Value} (hT : s.TypeIs v "set") {Q : Bool → Shared → Prop} (h : Q true s) : wpAny (model P w) A (Builtin.Frozenset.isAnySet v) Q E s := by
  unfold Builtin.Frozenset.isAnySet
  exact wpAny_bind (wpAny_isInstance hT sub_set_self (wpAny_pure h))
theorem _root_.Zf.SetDR.ty (R : SetDR P w s.heap a L es ep t) : s.TypeIs (.ref a) "set" := let ⟨o, ho, hex, _⟩ := R.ob; ⟨o, ho, hex.1⟩
theorem sizeD (R : SetDR P w s.heap a L es ep t) {Q : Nat → Shared → Prop} (h : Q L.length s) : wpAny (model P w) A (Builtin.Frozenset.sizeOf a) Q E s := by
  obtain ⟨o, ho, _, hd⟩ := R.ob
  unfold Builtin.Frozenset.sizeOf
  exact wpAny_bind (wpAny_setEntries_of ho hd R.fit (wpAny_pure (by rw [R.esz]; exact h)))
theorem epochD (R : SetDR P w s.heap a L es ep t) {Q : Nat → Shared → Prop} (h : Q ep s) : wpAny (model P w) A (setEpoch a) Q E s := by
  obtain ⟨o, ho, _, hd⟩ := R.ob
  exact wpAny_setEpoch_of ho hd R.fit h
theorem unchD (R : SetDR P w s.heap a L es ep t) {id : String} {Q : Unit → Shared → Prop} (h : Q () s) : wpAny (model P w) A (Builtin.Frozenset.unchanged id a ep) Q E s := by
  unfold Builtin.Frozenset.unchanged
  refine wpAny_bind (epochD R ?_)
  exact wp_if_neg (by simp) (wpAny_pure h)
theorem roomD (S : SetDR P w s.heap a [] e0 p0 t0) (m0 : t0.mask = 7) (d0 : t0.dummies = #[]) {n : Nat} (few : n < 32) {Q : Unit → Shared → Prop}
    (hQ : ∀ h1 e1 p1 t1, Heap.SameBut a s.heap h1 → SetDR P w h1 a [] e1 p1 t1 → t1.dummies = #[] → n * 5 < t1.mask * 3 → Q () { s with heap := h1 }) : wpAny (model P w) A (setRoomFor a n) Q E s := by
  unfold setRoomFor
  obtain ⟨oS, hoS, hexS, hdS⟩ := S.ob
  refine wpAny_bind (wpAny_setState_of hoS hdS S.fit ?_)
  dsimp only
  have f0 : t0.fill = 0 := by
    have := S.psz
    unfold SetTable.fill
    rw [this, d0] <;> rfl
  have ps0 : t0.place.size = 0 := S.psz
  unfold SetTable.roomFor
  rw [f0, m0, ps0, Nat.zero_add]
  by_cases c : n * 5 ≥ 7 * 3
  · rw [if_pos c]
    dsimp only
    obtain ⟨g1, g2, g3⟩ := room_ok n few (by omega)
    refine relayD (o := oS) (L := []) (es := e0) ⟨hoS, hexS, hdS, S.rows, S.fit, List.nodup_nil, (fun p hp => nomatch hp), S.plain, S.led, (by show 0 < 32; decide)⟩ rfl g1 g2 (by show 0 * 5 < _; omega) fun h1 L1 e1 p1 t1 sb S1 pm tm td => ?_
    obtain rfl : L1 = [] := List.perm_nil.mp pm
    exact hQ h1 e1 p1 t1 sb S1 td (by rw [tm]; exact g3)
  · rw [if_neg c]
    dsimp only
    exact wpAny_pure (hQ s.heap e0 p0 t0 (Heap.SameBut.refl a s.heap) S d0 (by rw [m0]; omega))
/-- a set of another's elements, laid at once -/
theorem mergeD (S : SetDR P w s.heap a [] e0 p0 t0) (m0 : t0.mask = 7) (d0 : t0.dummies = #[]) (R : SetDR P w s.heap b L es ep t) (hd : t.dummies = #[]) (ne : a ≠ b) (each : Sem Unit) {Q : Unit → Shared → Prop}
    (hQ : ∀ h' L' es' ep' t', Heap.SameBut a s.heap h' → SetDR P w h' a L' es' ep' t' → t'.dummies = #[] → (L' = [] → t'.mask = 7) → L'.Perm L → Q () { s with heap := h' }) : wpAny (model P w) A (setMerge a b each) Q E s := by
  obtain ⟨o, ho, hex, hdat⟩ := R.ob
  rw [merge_rows]
  refine wp_if_neg (by simpa using ne) ?_
  try refine wpAny_bind (wpAny_pure ?_)
  refine wpAny_bind (wpAny_setState_of ho hdat R.fit ?_)
  dsimp only
  have esz := R.esz
  have few := R.few
  by_cases em : es.isEmpty = true
  · refine wp_if_pos em (wpAny_pure ?_)
    have l0 : L = [] := List.length_eq_zero_iff.mp (by rw [← esz]; simpa using em)
    exact hQ s.heap [] e0 p0 t0 (Heap.SameBut.refl a s.heap) S d0 (fun _ => m0) (by rw [l0])
  have nl : L ≠ [] := fun z => em (by
    have h := esz
    rw [z] at h
    simpa using h)
  refine wp_if_neg em ?_
  try refine wpAny_bind (wpAny_pure ?_)
  refine wpAny_bind (roomD S m0 d0 (n := es.size) (by rw [esz]; exact few) fun h1 e1 p1 t1 sb S1 d1 rm => ?_)
  rw [esz] at rm
  obtain ⟨o1, ho1, hex1, hdat1⟩ := S1.ob
  refine wpAny_bind (wpAny_setState_of (s := { s with heap := h1 }) ho1 hdat1 S1.fit ?_)
  dsimp only
  have f0 : t1.fill = 0 := by
    have := S1.psz
    unfold SetTable.fill
    rw [this, d1] <;> rfl
  have pl : (t1.plain && t.plain) = true := by rw [S1.plain, R.plain] <;> rfl
  have ld : w.params.followText "set-order" = true ∨ (t1.led && t.led) = true := by
    rcases S1.led with e | e
    · exact .inl e
    · rcases R.led with e2 | e2
      · exact .inl e2
      · exact .inr (by rw [e, e2] <;> rfl)
  have tupb : ∀ p ∈ L, IsT P w h1 p.2 p.1 := fun p hp => by
    obtain ⟨oS, hoS, _, hdS⟩ := S.ob
    exact isT_same (R.tup p hp) hoS hdS sb
  have hob : h1.get? b = some o := (sb.2 b (Ne.symm ne)).trans ho
  unfold SetTable.road
  rw [f0]
  simp only [bne_self_eq_false, Bool.false_eq_true, if_false]
  by_cases c : (t1.mask == t.mask && t.dummies.isEmpty) = true
  · rw [if_pos c]
    dsimp only
    refine wpAny_storeSet_of ho1 hdat1 ?_ (by rw [esz, sizeLine_eq]; omega)
    have sb2 : Heap.SameBut a h1 (h1.update a (Obj.putSet es { t with finger := t1.finger, led := t1.led && t.led, moves := t1.moves, plain := t1.plain && t.plain })) := Heap.SameBut.update ..
    refine hQ _ L es (p1 + 1) _ (sb.trans sb2) ⟨⟨_, store_at ho1 hdat1, ⟨hex1.1, hex1.2.1, hex1.2.2⟩, rfl⟩, R.rows, ⟨R.tab.ris, R.tab.rid, R.tab.dis, R.tab.sz, R.tab.mok, R.tab.bd, R.tab.reach⟩, R.nd, fun p hp => isT_same (tupb p hp) ho1 hdat1 sb2, pl, ld, R.room, few⟩ hd (fun z => absurd z nl) (List.Perm.refl _)
  · rw [if_neg c]
    dsimp only
    have Rw : Rowed P w h1 b o L es ep t := ⟨hob, hex, hdat, R.rows, R.fit, R.nd, tupb, R.plain, R.led, few⟩
    obtain ⟨t', od, L2, e, r1, r2, r3, T, em', el, epl, tf, edm⟩ := laid_rows Rw S1.tab.mok rm t1.finger t1.moves (t1.led && t.led)
    rw [pl, e]
    dsimp only
    refine wpAny_bind ?_
    refine wp_if_neg (by rw [r2]; simp) ?_
    try refine wpAny_bind (wpAny_pure ?_)
    refine wpAny_pure ?_
    dsimp only
    refine wpAny_storeSet_of ho1 hdat1 ?_ (by rw [r2, esz, sizeLine_eq]; omega)
    have sb2 : Heap.SameBut a h1 (h1.update a (Obj.putSet (od.filterMap (es[·]?)) t')) := Heap.SameBut.update ..
    exact hQ _ L2 _ (p1 + 1) t' (sb.trans sb2) ⟨⟨_, store_at ho1 hdat1, ⟨hex1.1, hex1.2.1, hex1.2.2⟩, rfl⟩, r1, T, (r3.map (·.2)).nodup_iff.mpr R.nd, fun p hp => isT_same (tupb p (r3.mem_iff.mp hp)) ho1 hdat1 sb2, epl, by rw [el]; exact ld,
      by rw [tf, em']; exact rm, by rw [r3.length_eq]; exact few⟩ edm (fun z => absurd (List.nil_perm.mp (z ▸ r3)) nl) r3
end
end Zh
/-! Own ground, part ZI: ^ and - of sets of tuples of ints. -/
namespace Zi
open PySem PySem.Spec PyProof.Rows L2 Xa Xb Xc Xs Ze Zf Zg Zh
theorem nd_len {α : Type} [DecidableEq α] : ∀ (l U : List α), l.Nodup → (∀ x ∈ l, x ∈ U) → l.length ≤ U.length
  | [], U, _, _ => Nat.zero_le _
  | x :: l, U, nd, h => by
    obtain ⟨n1, n2⟩ := List.nodup_cons.mp nd
    have hx := h x List.mem_cons_self
    have ih := nd_len l (U.erase x) n2 fun y hy => (List.mem_erase_of_ne fun e => n1 (by rw [← e]; exact hy)).mpr (h y (List.mem_cons_of_mem _ hy))
    rw [List.length_erase_of_mem hx] at ih
    have := List.length_pos_of_mem hx
    show l.length + 1 ≤ _
    omega
abbrev Ks (L : List (Addr × List Int)) : List (List Int) := L.map (·.2)
section
variable {P : Program} {w : World} {A : Around} {E : Value → Shared → Prop} {s : Shared} {a b r : Addr} {L L2 : List (Addr × List Int)} {es e2 e0 : Array (Int × Value)} {ep p2 p0 : Nat} {t t2 t0 : SetTable}
theorem rows_split {L : List (Addr × List Int)} {ys : List (Int × Value)} (pm : ys.Perm (rowsOf P w L)) (nd : (Ks L).Nodup) (inj : ∀ p ∈ L, ∀ q ∈ L, p.1 = q.1 → p = q) : ∃ M, ys = rowsOf P w M ∧ M.Perm L := by
  have key : ∀ ys : List (Int × Value), (∀ y ∈ ys, y ∈ rowsOf P w L) → ∃ M, ys = rowsOf P w M ∧ ∀ q ∈ M, q ∈ L := by
    intro ys
    induction ys with
    | nil => exact fun _ => ⟨[], rfl, fun q hq => nomatch hq⟩
    | cons y ys ih =>
      intro h
      obtain ⟨M, e1, e2⟩ := ih fun z hz => h z (List.mem_cons_of_mem _ hz)
      obtain ⟨q, hq, rfl⟩ := List.mem_map.mp (h y List.mem_cons_self)
      exact ⟨q :: M, by rw [e1] <;> rfl, fun z hz => (List.mem_cons.mp hz).elim (fun e => e ▸ hq) (e2 z)⟩
  obtain ⟨M, e1, e2⟩ := key ys fun y hy => pm.mem_iff.mp hy
  refine ⟨M, e1, ?_⟩
  rw [e1] at pm
  have nr : (rowsOf P w L).Nodup := by
    refine List.pairwise_map.mpr (List.Pairwise.imp_of_mem (fun {q r} hq hr hne e => hne (inj q hq r hr ?_)) (nodup_of_map nd))
    have e := congrArg Prod.snd e
    injection e
  refine (List.perm_ext_iff_of_nodup (nodup_of_map (f := fun p : Addr × List Int => (thash P w p.2, Value.ref p.1)) (show (rowsOf P w M).Nodup from pm.nodup_iff.mpr nr)) (nodup_of_map nd)).mpr fun q => ⟨e2 q, fun hq => ?_⟩
  obtain ⟨z, hz, e⟩ := List.mem_map.mp (pm.mem_iff.mpr (List.mem_map.mpr ⟨q, hq, rfl⟩))
  have e := congrArg Prod.snd e
  injection e with e
  rw [← inj z (e2 z hz) q hq e]
  exact hz
theorem _root_.Zf.SetDR.inj (R : SetDR P w s.heap a L es ep t) : ∀ p ∈ L, ∀ q ∈ L, p.1 = q.1 → p = q := fun p hp q hq e => by
  have a1 := R.tup p hp
  have a2 := R.tup q hq
  rw [e] at a1
  exact Prod.ext e (a1.inj a2)
/-- the elements gone through, one after the other -/
theorem loopD (R : SetDR P w s.heap b L2 e2 p2 t2) {ys : Array (Int × Value)} (pm : ys.toList.Perm e2.toList) (I : List (Addr × List Int) → Shared → Prop) {f : Int × Value → PUnit → Sem (ForInStep PUnit)} {Q : PUnit → Shared → Prop} (h0 : ∀ M, M.Perm L2 → I M s)
    (turn : ∀ p M s', I (p :: M) s' → wpAny (model P w) A (f (thash P w p.2, .ref p.1) ⟨⟩) (fun r s2 => r = .yield ⟨⟩ ∧ I M s2) E s') (fin : ∀ s', I [] s' → Q ⟨⟩ s') :
    wpAny (model P w) A (forIn ys (⟨⟩ : PUnit) f) Q E s := by
  rw [R.rows] at pm
  obtain ⟨M, e1, pM⟩ := rows_split pm R.nd R.inj
  rw [← Array.forIn_toList]
  refine wpAny_forIn_list _ (fun rest _ s' => ∃ M, rest = rowsOf P w M ∧ I M s') _ ?_ ?_ _ _ ⟨M, e1, h0 M pM⟩
  · rintro x rest u s' ⟨M, e, hi⟩
    cases M with
    | nil => cases e
    | cons p M =>
      cases e
      refine wpAny_mono (turn p M s' hi) (fun r s2 hr => ?_) fun _ _ h => h
      obtain ⟨rfl, h⟩ := hr
      exact ⟨M, rfl, h⟩
  · rintro u s' ⟨M, e, hi⟩
    cases M with
    | nil => exact fin s' hi
    | cons p M => cases e
theorem isT_but {h h' : Heap} {k : List Int} {x : Addr} (R : SetDR P w h r L es ep t) (hx : IsT P w h k x) (sb : Heap.SameBut r h h') : IsT P w h' k x := by
  obtain ⟨o, ho, _, hd⟩ := R.ob
  exact isT_same hx ho hd sb
/-- one of them turned: out where it stands, in where it doesn't -/
theorem xorD (S : SetDR P w s.heap r [] e0 p0 t0) (m0 : t0.mask = 7) (d0 : t0.dummies = #[]) (R1 : SetDR P w s.heap a L es ep t) (R2 : SetDR P w s.heap b L2 e2 p2 t2) (hd2 : t2.dummies = #[]) (na : a ≠ r) (nb : b ≠ r) (hu : A.units < cLine)
    (U : List (List Int)) (hU : U.length < 32) (hs : ∀ k, k ∈ Ks L ∨ k ∈ Ks L2 → k ∈ U) {id : String} {Q : Unit → Shared → Prop}
    (hQ : ∀ h' L' es' ep' t', Heap.SameBut r s.heap h' → SetDR P w h' r L' es' ep' t' → (∀ k, k ∈ Ks L' ↔ (k ∈ Ks L ∧ k ∉ Ks L2) ∨ (k ∉ Ks L ∧ k ∈ Ks L2)) → Q () { s with heap := h' }) :
    wpAny (model P w) A (Builtin.Frozenset.updateFrom id r (.ref b)) (fun _ s' => wpAny (model P w) A (Builtin.Frozenset.symmetricDifferenceUpdate id r (.ref a)) Q E s') E s := by
  unfold Builtin.Frozenset.updateFrom
  refine wpAny_bind (anyD R2.ty ?_)
  refine wp_if_pos rfl ?_
  unfold Builtin.Frozenset.addrOf
  refine wpAny_bind (wpAny_pure ?_)
  unfold Builtin.Frozenset.merge
  refine wpAny_bind (epochD R2 ?_)
  refine mergeD S m0 d0 R2 hd2 (Ne.symm nb) _ fun h1 L1 e1 p1 t1 sb1 S1 d1 _ pm1 => ?_
  unfold Builtin.Frozenset.symmetricDifferenceUpdate
  have R1' : SetDR P w h1 a L es ep t := R1.keep (fun o e => (sb1.2 a na).trans e) fun p hp => isT_but S (R1.tup p hp) sb1
  refine wp_if_neg (by simpa using na) ?_
  dsimp only
  refine wpAny_bind (wpAny_typeOf (s := { s with heap := h1 }) R1'.ty ?_)
  refine wp_if_neg (by decide) ?_
  refine wpAny_bind (anyD (s := { s with heap := h1 }) R1'.ty ?_)
  refine wp_if_pos rfl ?_
  refine wpAny_bind (wpAny_pure ?_)
  unfold Builtin.Frozenset.addrOf
  refine wpAny_bind (wpAny_pure ?_)
  refine wpAny_bind (epochD (s := { s with heap := h1 }) R1' ?_)
  refine wpAny_holding ?_
  refine wpAny_bind (walkUD (s := { s with heap := h1 }) R1' _ _ fun ys pmy => ?_)
  refine wpAny_bind (loopD (s := { s with heap := h1 }) R1' pmy (fun M s' => (Ks M).Nodup ∧ (∀ p ∈ M, p ∈ L) ∧ ∃ h' Lr er pr tr, s' = { s with heap := h' } ∧ Heap.SameBut r h1 h' ∧ SetDR P w h' r Lr er pr tr ∧ ∀ k, k ∈ Ks Lr ↔ (k ∈ Ks M ∧ k ∈ Ks L2) ∨ (k ∉ Ks M ∧ ((k ∈ Ks L ∧ k ∉ Ks L2) ∨ (k ∉ Ks L ∧ k ∈ Ks L2))))
    (fun M pM => ⟨(pM.map (·.2)).nodup_iff.mpr R1.nd, fun p hp => pM.mem_iff.mp hp, h1, L1, e1, p1, t1, rfl, Heap.SameBut.refl r h1, S1, fun k => ?_⟩) ?_ ?_)
  · have x1 : k ∈ Ks L1 ↔ k ∈ Ks L2 := (pm1.map (·.2)).mem_iff
    have x2 : k ∈ Ks M ↔ k ∈ Ks L := (pM.map (·.2)).mem_iff
    rw [x1, x2]
    by_cases c : k ∈ Ks L <;> simp [c]
  · rintro p M s' ⟨nd, sub, h', Lr, er, pr, tr, rfl, sb, Sr, ck⟩
    obtain ⟨nd1, nd2⟩ := List.nodup_cons.mp nd
    have pL := sub p List.mem_cons_self
    have pk : p.2 ∈ Ks L := List.mem_map.mpr ⟨p, pL, rfl⟩
    have hx : IsT P w h' p.2 p.1 := isT_but S1 (R1'.tup p pL) sb
    have Ra : SetDR P w h' a L es ep t := R1'.keep (fun o e => (sb.2 a na).trans e) fun q hq => isT_but S1 (R1'.tup q hq) sb
    dsimp only
    have fin : ∀ (h2 : Heap) (L3 : List (Addr × List Int)) (e3 : Array (Int × Value)) (p3 : Nat) (t3 : SetTable), Heap.SameBut r h' h2 → SetDR P w h2 r L3 e3 p3 t3 → (∀ k, k ∈ Ks L3 ↔ (k ∈ Ks M ∧ k ∈ Ks L2) ∨ (k ∉ Ks M ∧ ((k ∈ Ks L ∧ k ∉ Ks L2) ∨ (k ∉ Ks L ∧ k ∈ Ks L2)))) →
        wpAny (model P w) A (do Builtin.Frozenset.unchanged id a ep; pure (ForInStep.yield PUnit.unit)) (fun r' s2 => r' = .yield ⟨⟩ ∧ (Ks M).Nodup ∧ (∀ p ∈ M, p ∈ L) ∧ ∃ h' Lr er pr tr, s2 = { s with heap := h' } ∧ Heap.SameBut r h1 h' ∧ SetDR P w h' r Lr er pr tr ∧ ∀ k, k ∈ Ks Lr ↔ (k ∈ Ks M ∧ k ∈ Ks L2) ∨ (k ∉ Ks M ∧ ((k ∈ Ks L ∧ k ∉ Ks L2) ∨ (k ∉ Ks L ∧ k ∈ Ks L2)))) E { s with heap := h2 } := fun h2 L3 e3 p3 t3 sb3 S3 c3 => by
      have Ra2 : SetDR P w h2 a L es ep t := Ra.keep (fun o e => (sb3.2 a na).trans e) fun q hq => isT_but Sr (Ra.tup q hq) sb3
      exact wpAny_bind (unchD (s := { s with heap := h2 }) Ra2 (wpAny_pure ⟨rfl, nd2, fun q hq => sub q (List.mem_cons_of_mem _ hq), h2, L3, e3, p3, t3, rfl, sb.trans sb3, S3, c3⟩))
    have cp := ck p.2
    have pm' : p.2 ∈ Ks (p :: M) := List.mem_cons_self
    have other : ∀ k, k ≠ p.2 → (k ∈ Ks (p :: M) ↔ k ∈ Ks M) := fun k ne => ⟨fun z => (List.mem_cons.mp z).resolve_left ne, List.mem_cons_of_mem _⟩
    refine wpAny_bind (wpAny_holding ?_)
    refine wpAny_bind (discardD (s := { s with heap := h' }) Sr hx hu (fun h2 L3 e3 p3 t3 kin sb3 S3 c3 => ?_) fun kout => ?_)
    · refine wp_if_neg (by decide) (wpAny_pure (fin h2 L3 e3 p3 t3 sb3 S3 fun k => ?_))
      have m3 : k ∈ Ks L3 ↔ k ∈ Ks Lr ∧ k ≠ p.2 := by
        constructor
        · intro z
          obtain ⟨q, hq, rfl⟩ := List.mem_map.mp z
          obtain ⟨y1, y2⟩ := (c3 q).mp hq
          exact ⟨List.mem_map.mpr ⟨q, y1, rfl⟩, y2⟩
        · rintro ⟨z, ne⟩
          obtain ⟨q, hq, rfl⟩ := List.mem_map.mp z
          exact List.mem_map.mpr ⟨q, (c3 q).mpr ⟨hq, ne⟩, rfl⟩
      have kb : p.2 ∈ Ks L2 := by
        rcases cp.mp kin with ⟨_, z⟩ | ⟨z, _⟩
        · exact z
        · exact absurd pm' z
      rw [m3]
      by_cases e : k = p.2
      · subst e
        simp [nd1, pk, kb]
      · rw [ck k, other k e]
        simp [e]
    · have kb : p.2 ∉ Ks L2 := fun z => kout (cp.mpr (.inl ⟨pm', z⟩))
      refine wp_if_pos (by decide) ?_
      have few : p.2 ∉ Ks Lr → Lr.length + 1 < 32 := fun no => by
        have h := nd_len (p.2 :: Ks Lr) U (List.nodup_cons.mpr ⟨no, Sr.nd⟩) fun k hk => by
          rcases List.mem_cons.mp hk with rfl | hk
          · exact hs _ (.inl pk)
          · rcases (ck k).mp hk with ⟨_, z⟩ | ⟨_, ⟨z, _⟩ | ⟨_, z⟩⟩
            · exact hs k (.inr z)
            · exact hs k (.inl z)
            · exact hs k (.inr z)
        rw [List.length_cons, List.length_map] at h
        omega
      refine wpAny_bind (addD (s := { s with heap := h' }) Sr hx hu few fun b' h2 L3 e3 p3 t3 sb3 S3 _ c3 => wpAny_pure (fin h2 L3 e3 p3 t3 sb3 S3 fun k => ?_))
      have m3 : k ∈ Ks L3 ↔ k = p.2 ∨ k ∈ Ks Lr := by
        have := ((c3 kout).map (·.2)).mem_iff (a := k)
        rw [List.map_cons, List.mem_cons] at this
        exact this
      rw [m3]
      by_cases e : k = p.2
      · subst e
        simp [nd1, pk, kb]
      · rw [ck k, other k e]
        simp [e]
  · rintro s' ⟨_, _, h', Lr, er, pr, tr, rfl, sb, Sr, ck⟩
    refine wpAny_pure (hQ h' Lr er pr tr (sb1.trans sb) Sr fun k => ?_)
    rw [ck k]
    simp
end
end Zi
/-! Own ground, part ZJ: - and | of sets of tuples of ints. -/
namespace Zj
open PySem PySem.Spec PyProof.Rows L2 Xa Xb Xc Xs Ze Zf Zg Zh Zi
section
variable {P : Program} {w : World} {A : Around} {E : Value → Shared → Prop} {s : Shared} {a b r : Addr} {L L2 : List (Addr × List Int)} {es e2 e0 : Array (Int × Value)} {ep p2 p0 : Nat} {t t2 t0 : SetTable}
theorem mem_less {L3 Lr : List (Addr × List Int)} {x : List Int} (c3 : ∀ q, q ∈ L3 ↔ q ∈ Lr ∧ q.2 ≠ x) (k : List Int) : k ∈ Ks L3 ↔ k ∈ Ks Lr ∧ k ≠ x := by
  constructor
  · intro z
    obtain ⟨q, hq, rfl⟩ := List.mem_map.mp z
    obtain ⟨y1, y2⟩ := (c3 q).mp hq
    exact ⟨List.mem_map.mpr ⟨q, y1, rfl⟩, y2⟩
  · rintro ⟨z, ne⟩
    obtain ⟨q, hq, rfl⟩ := List.mem_map.mp z
    exact List.mem_map.mpr ⟨q, (c3 q).mpr ⟨hq, ne⟩, rfl⟩
theorem mem_more {L3 Lr : List (Addr × List Int)} {x : List Int} {p : Addr} (c3 : L3.Perm ((p, x) :: Lr)) (k : List Int) : k ∈ Ks L3 ↔ k = x ∨ k ∈ Ks Lr := by
  have := (c3.map (·.2)).mem_iff (a := k)
  rw [List.map_cons, List.mem_cons] at this
  exact this
theorem tidyD (R : SetDR P w s.heap r L es ep t) {Q : Unit → Shared → Prop} (hQ : ∀ h' L' es' ep' t', Heap.SameBut r s.heap h' → SetDR P w h' r L' es' ep' t' → L'.Perm L → Q () { s with heap := h' }) : wpAny (model P w) A (setTidy r) Q E s := by
  obtain ⟨o, ho, hex, hd⟩ := R.ob
  have few := R.few
  unfold setTidy
  refine wpAny_bind (wpAny_setState_of ho hd R.fit ?_)
  dsimp only
  by_cases c : t.tooManyDummies = true
  · refine wp_if_pos c ?_
    rw [R.esz]
    have Rw : Rowed P w s.heap r o L es ep t := ⟨ho, hex, hd, R.rows, R.fit, R.nd, R.tup, R.plain, R.led, few⟩
    by_cases z : L.length = 0
    · rw [z]
      exact relayD Rw rfl (.inl tidy0.1) tidy0.2 (by rw [z, tidy0.1]; decide) fun h' L' es' ep' t' sb R' pm _ _ => hQ h' L' es' ep' t' sb R' pm
    · obtain ⟨g1, g2, g3⟩ := grown_ok L.length few (by omega)
      exact relayD Rw rfl g1 g2 g3 fun h' L' es' ep' t' sb R' pm _ _ => hQ h' L' es' ep' t' sb R' pm
  · exact wp_if_neg c (wpAny_pure (hQ s.heap L es ep t (Heap.SameBut.refl r s.heap) R (List.Perm.refl _)))
theorem push_but {h : Heap} {o : Obj} {h' : Heap} (sb : Heap.SameBut h.objs.size (h.push o) h') {c : Addr} {u : Obj} (e : h.get? c = some u) : h'.get? c = some u := by
  have ne : c ≠ h.objs.size := Nat.ne_of_lt (Heap.lt_size e)
  rw [sb.2 c ne]
  exact Heap.get?_push_of_some _ e
theorem isT_push {h : Heap} {o : Obj} {k : List Int} {x : Addr} (hx : IsT P w h k x) : IsT P w (h.push o) k x := isT_keep hx fun _ _ e => Heap.get?_push_of_some _ e
theorem SetDR_push {h : Heap} {o : Obj} (R : SetDR P w h a L es ep t) : SetDR P w (h.push o) a L es ep t := R.keep (fun _ e => Heap.get?_push_of_some _ e) fun p hp => isT_push (R.tup p hp)
theorem not_new (R : SetDR P w s.heap a L es ep t) : a ≠ s.heap.objs.size := let ⟨_, ho, _⟩ := R.ob; Nat.ne_of_lt (Heap.lt_size ho)
/-- the elements of one that are not in the other -/
theorem subD (R1 : SetDR P w s.heap a L es ep t) (hd1 : t.dummies = #[]) (R2 : SetDR P w s.heap b L2 e2 p2 t2) (hu : A.units < cLine) {id : String} {Q : Value → Shared → Prop}
    (hQ : ∀ h' L' es' ep' t', Heap.SameBut s.heap.objs.size (s.heap.push (freshO w)) h' → SetDR P w h' s.heap.objs.size L' es' ep' t' → (∀ k, k ∈ Ks L' ↔ k ∈ Ks L ∧ k ∉ Ks L2) → Q (.ref s.heap.objs.size) { s with heap := h' }) :
    wpAny (model P w) A (Builtin.Frozenset.difference id a (.ref b)) Q E s := by
  have na := not_new R1
  have nb := not_new R2
  have R1p := SetDR_push (o := freshO w) R1
  have R2p := SetDR_push (o := freshO w) R2
  have S0 : SetDR P w (s.heap.push (freshO w)) s.heap.objs.size [] #[] 0 (.fresh 0 0 (!w.params.followText "set-order")) := SetDR.fresh (Heap.get?_push_size _ rfl)
  unfold Builtin.Frozenset.difference
  refine wpAny_bind (anyD R2.ty ?_)
  dsimp only
  refine wp_if_neg (by decide) ?_
  try refine wpAny_bind (wpAny_pure ?_)
  unfold Builtin.Frozenset.addrOf
  refine wpAny_bind (sizeD R2 ?_)
  refine wpAny_bind (sizeD R1 ?_)
  by_cases big : L.length / 4 > L2.length
  · -- a copy, of which the other's are taken out
    refine wp_if_pos big ?_
    refine wpAny_bind (wpAny_rule ?_)
    refine wpAny_bind ?_
    unfold Builtin.Frozenset.copyOf
    refine wpAny_bind (baseD R1.ty ?_)
    refine wpAny_bind (newSetD ?_)
    unfold Builtin.Frozenset.addrOf
    refine wpAny_bind (wpAny_pure ?_)
    refine wpAny_bind (mergeD (s := { s with heap := s.heap.push (freshO w) }) S0 rfl rfl R1p hd1 (Ne.symm na) _ fun h1 L1 e1 p1 t1 sb1 S1 d1 _ pm1 => ?_)
    refine wpAny_pure ?_
    refine wpAny_bind (wpAny_pure ?_)
    have R2' : SetDR P w h1 b L2 e2 p2 t2 := R2p.keep (fun o e => (sb1.2 b nb).trans e) fun p hp => isT_but S0 (R2p.tup p hp) sb1
    refine wpAny_bind (wpAny_holding ?_)
    unfold Builtin.Frozenset.differenceUpdate
    refine wp_if_neg (by simpa using nb) ?_
    try refine wpAny_bind (wpAny_pure ?_)
    refine wpAny_bind (anyD (s := { s with heap := h1 }) R2'.ty ?_)
    refine wp_if_pos rfl ?_
    unfold Builtin.Frozenset.addrOf
    dsimp only
    refine wpAny_bind (wpAny_pure ?_)
    refine wpAny_bind (sizeD (s := { s with heap := h1 }) R2' ?_)
    refine wpAny_bind (sizeD (s := { s with heap := h1 }) S1 ?_)
    refine wp_if_neg (by have := pm1.length_eq; omega) ?_
    try refine wpAny_bind (wpAny_pure ?_)
    refine wpAny_bind (epochD (s := { s with heap := h1 }) R2' ?_)
    refine wpAny_bind (wpAny_holding ?_)
    refine wpAny_bind (walkUD (s := { s with heap := h1 }) R2' _ _ fun ys pmy => ?_)
    refine wpAny_bind (loopD (s := { s with heap := h1 }) R2' pmy (fun M s' => (Ks M).Nodup ∧ (∀ p ∈ M, p ∈ L2) ∧ ∃ h' Lr er pr tr, s' = { s with heap := h' } ∧ Heap.SameBut s.heap.objs.size h1 h' ∧ SetDR P w h' s.heap.objs.size Lr er pr tr ∧ ∀ k, k ∈ Ks Lr ↔ k ∈ Ks L ∧ (k ∈ Ks L2 → k ∈ Ks M))
      (fun M pM => ⟨(pM.map (·.2)).nodup_iff.mpr R2.nd, fun p hp => pM.mem_iff.mp hp, h1, L1, e1, p1, t1, rfl, Heap.SameBut.refl _ h1, S1, fun k => ?_⟩) ?_ ?_)
    · have x1 : k ∈ Ks L1 ↔ k ∈ Ks L := (pm1.map (·.2)).mem_iff
      have x2 : k ∈ Ks M ↔ k ∈ Ks L2 := (pM.map (·.2)).mem_iff
      rw [x1, x2]
      simp
    · rintro p M s' ⟨nd, sub, h', Lr, er, pr, tr, rfl, sb, Sr, ck⟩
      obtain ⟨nd1, nd2⟩ := List.nodup_cons.mp nd
      have pL := sub p List.mem_cons_self
      have pk : p.2 ∈ Ks L2 := List.mem_map.mpr ⟨p, pL, rfl⟩
      have hx : IsT P w h' p.2 p.1 := isT_but S1 (R2'.tup p pL) sb
      have Rb : SetDR P w h' b L2 e2 p2 t2 := R2'.keep (fun o e => (sb.2 b nb).trans e) fun q hq => isT_but S1 (R2'.tup q hq) sb
      dsimp only
      have fin : ∀ (h2 : Heap) (L3 : List (Addr × List Int)) (e3 : Array (Int × Value)) (p3 : Nat) (t3 : SetTable), Heap.SameBut s.heap.objs.size h' h2 → SetDR P w h2 s.heap.objs.size L3 e3 p3 t3 → (∀ k, k ∈ Ks L3 ↔ k ∈ Ks L ∧ (k ∈ Ks L2 → k ∈ Ks M)) →
          wpAny (model P w) A (do Builtin.Frozenset.unchanged id b p2; pure (ForInStep.yield PUnit.unit)) (fun r' s2 => r' = .yield ⟨⟩ ∧ (Ks M).Nodup ∧ (∀ p ∈ M, p ∈ L2) ∧ ∃ h' Lr er pr tr, s2 = { s with heap := h' } ∧ Heap.SameBut s.heap.objs.size h1 h' ∧ SetDR P w h' s.heap.objs.size Lr er pr tr ∧ ∀ k, k ∈ Ks Lr ↔ k ∈ Ks L ∧ (k ∈ Ks L2 → k ∈ Ks M)) E { s with heap := h2 } := fun h2 L3 e3 p3 t3 sb3 S3 c3 => by
        have Rb2 : SetDR P w h2 b L2 e2 p2 t2 := Rb.keep (fun o e => (sb3.2 b nb).trans e) fun q hq => isT_but Sr (Rb.tup q hq) sb3
        exact wpAny_bind (unchD (s := { s with heap := h2 }) Rb2 (wpAny_pure ⟨rfl, nd2, fun q hq => sub q (List.mem_cons_of_mem _ hq), h2, L3, e3, p3, t3, rfl, sb.trans sb3, S3, c3⟩))
      have other : ∀ k, k ≠ p.2 → (k ∈ Ks (p :: M) ↔ k ∈ Ks M) := fun k ne => ⟨fun z => (List.mem_cons.mp z).resolve_left ne, List.mem_cons_of_mem _⟩
      refine wpAny_bind (wpAny_holding ?_)
      refine discardD (s := { s with heap := h' }) Sr hx hu (fun h2 L3 e3 p3 t3 kin sb3 S3 c3 => ?_) fun kout => ?_
      · refine fin h2 L3 e3 p3 t3 sb3 S3 fun k => ?_
        rw [mem_less c3, ck k]
        by_cases e : k = p.2
        · subst e
          simp [nd1, pk]
        · rw [other k e]
          simp [e]
      · refine fin h' Lr er pr tr (Heap.SameBut.refl _ h') Sr fun k => ?_
        by_cases e : k = p.2
        · subst e
          simp only [nd1, pk, true_implies, and_false, iff_false]
          exact kout
        · rw [ck k, other k e]
    · rintro s' ⟨_, _, h', Lr, er, pr, tr, rfl, sb, Sr, ck⟩
      refine wpAny_pure ?_
      refine tidyD (s := { s with heap := h' }) Sr fun h3 L3 e3 p3 t3 sb3 S3 pm3 => ?_
      refine wpAny_pure (hQ h3 L3 e3 p3 t3 ((sb1.trans sb).trans sb3) S3 fun k => ?_)
      have x1 : k ∈ Ks L3 ↔ k ∈ Ks Lr := (pm3.map (·.2)).mem_iff
      rw [x1, ck k]
      simp
  · -- those that are not found there, put in
    refine wp_if_neg big ?_
    try refine wpAny_bind (wpAny_pure ?_)
    refine wpAny_bind (baseD R1.ty ?_)
    refine wpAny_bind (newSetD ?_)
    refine wpAny_bind (wpAny_pure ?_)
    refine wpAny_bind (epochD (s := { s with heap := s.heap.push (freshO w) }) R1p ?_)
    refine wpAny_bind (wpAny_holding ?_)
    refine wpAny_bind ?_
    refine wp_if_pos rfl ?_
    refine walkUD (s := { s with heap := s.heap.push (freshO w) }) R1p _ _ fun ys pmy => ?_
    refine wpAny_bind (loopD (s := { s with heap := s.heap.push (freshO w) }) R1p pmy (fun M s' => (Ks M).Nodup ∧ (∀ p ∈ M, p ∈ L) ∧ ∃ h' Lr er pr tr, s' = { s with heap := h' } ∧ Heap.SameBut s.heap.objs.size (s.heap.push (freshO w)) h' ∧ SetDR P w h' s.heap.objs.size Lr er pr tr ∧ ∀ k, k ∈ Ks Lr ↔ k ∈ Ks L ∧ k ∉ Ks M ∧ k ∉ Ks L2)
      (fun M pM => ⟨(pM.map (·.2)).nodup_iff.mpr R1.nd, fun p hp => pM.mem_iff.mp hp, _, [], _, _, _, rfl, Heap.SameBut.refl _ _, S0, fun k => ?_⟩) ?_ ?_)
    · have x2 : k ∈ Ks M ↔ k ∈ Ks L := (pM.map (·.2)).mem_iff
      rw [x2]
      constructor
      · intro z
        cases z
      · rintro ⟨y1, y2, _⟩
        exact absurd y1 y2
    · rintro p M s' ⟨nd, sub, h', Lr, er, pr, tr, rfl, sb, Sr, ck⟩
      obtain ⟨nd1, nd2⟩ := List.nodup_cons.mp nd
      have pL := sub p List.mem_cons_self
      have pk : p.2 ∈ Ks L := List.mem_map.mpr ⟨p, pL, rfl⟩
      have hx : IsT P w h' p.2 p.1 := isT_but S0 (R1p.tup p pL) sb
      have Ra : SetDR P w h' a L es ep t := R1p.keep (fun o e => (sb.2 a na).trans e) fun q hq => isT_but S0 (R1p.tup q hq) sb
      have Rb : SetDR P w h' b L2 e2 p2 t2 := R2p.keep (fun o e => (sb.2 b nb).trans e) fun q hq => isT_but S0 (R2p.tup q hq) sb
      dsimp only
      have fin : ∀ (h2 : Heap) (L3 : List (Addr × List Int)) (e3 : Array (Int × Value)) (p3 : Nat) (t3 : SetTable), Heap.SameBut s.heap.objs.size h' h2 → SetDR P w h2 s.heap.objs.size L3 e3 p3 t3 → (∀ k, k ∈ Ks L3 ↔ k ∈ Ks L ∧ k ∉ Ks M ∧ k ∉ Ks L2) →
          wpAny (model P w) A (do Builtin.Frozenset.unchanged id a ep; pure (ForInStep.yield PUnit.unit)) (fun r' s2 => r' = .yield ⟨⟩ ∧ (Ks M).Nodup ∧ (∀ p ∈ M, p ∈ L) ∧ ∃ h' Lr er pr tr, s2 = { s with heap := h' } ∧ Heap.SameBut s.heap.objs.size (s.heap.push (freshO w)) h' ∧ SetDR P w h' s.heap.objs.size Lr er pr tr ∧ ∀ k, k ∈ Ks Lr ↔ k ∈ Ks L ∧ k ∉ Ks M ∧ k ∉ Ks L2) E { s with heap := h2 } := fun h2 L3 e3 p3 t3 sb3 S3 c3 => by
        have Ra2 : SetDR P w h2 a L es ep t := Ra.keep (fun o e => (sb3.2 a na).trans e) fun q hq => isT_but Sr (Ra.tup q hq) sb3
        exact wpAny_bind (unchD (s := { s with heap := h2 }) Ra2 (wpAny_pure ⟨rfl, nd2, fun q hq => sub q (List.mem_cons_of_mem _ hq), h2, L3, e3, p3, t3, rfl, sb.trans sb3, S3, c3⟩))
      have other : ∀ k, k ≠ p.2 → (k ∈ Ks (p :: M) ↔ k ∈ Ks M) := fun k ne => ⟨fun z => (List.mem_cons.mp z).resolve_left ne, List.mem_cons_of_mem _⟩
      refine wpAny_bind (wpAny_holding ?_)
      refine wp_if_pos rfl ?_
      refine wpAny_bind (findD (s := { s with heap := h' }) Rb hx hu (fun i q hi hq => ?_) fun kout => ?_)
      · refine wpAny_bind (wpAny_pure ?_)
        refine wp_if_neg (by simp) (wpAny_pure (fin h' Lr er pr tr (Heap.SameBut.refl _ h') Sr fun k => ?_))
        have kin : p.2 ∈ Ks L2 := List.mem_map.mpr ⟨q, List.mem_of_getElem? hi, hq⟩
        rw [ck k]
        by_cases e : k = p.2
        · subst e
          simp [kin]
        · rw [other k e]
      · refine wpAny_bind (wpAny_pure ?_)
        refine wp_if_pos (by simp) ?_
        have few : p.2 ∉ Ks Lr → Lr.length + 1 < 32 := fun no => by
          have h := nd_len (p.2 :: Ks Lr) (Ks L) (List.nodup_cons.mpr ⟨no, Sr.nd⟩) fun k hk => by
            rcases List.mem_cons.mp hk with rfl | hk
            · exact pk
            · exact ((ck k).mp hk).1
          rw [List.length_cons, List.length_map, List.length_map] at h
          have := R1.few
          omega
        have lout : p.2 ∉ Ks Lr := fun z => ((ck _).mp z).2.1 List.mem_cons_self
        refine wpAny_bind (addD (s := { s with heap := h' }) Sr hx hu few fun b' h2 L3 e3 p3 t3 sb3 S3 _ c3 => wpAny_pure (fin h2 L3 e3 p3 t3 sb3 S3 fun k => ?_))
        rw [mem_more (c3 lout)]
        by_cases e : k = p.2
        · subst e
          simp [nd1, pk, kout]
        · rw [ck k, other k e]
          simp [e]
    · rintro s' ⟨_, _, h', Lr, er, pr, tr, rfl, sb, Sr, ck⟩
      refine wpAny_pure (wpAny_pure (hQ h' Lr er pr tr sb Sr fun k => ?_))
      rw [ck k]
      simp
end
end Zj
/-! Own ground, part ZK: | and == of sets of tuples of ints. -/
namespace Zk
open PySem PySem.Spec PyProof.Rows L2 Xa Xb Xc Xs Ze Zf Zg Zh Zi Zj
theorem room2_ok : ∀ n, n < 63 → 5 ≤ n → ((SetTable.sizeAbove (n * 2) - 1 = 7 ∨ SetTable.sizeAbove (n * 2) - 1 = 15 ∨ SetTable.sizeAbove (n * 2) - 1 = 31 ∨ SetTable.sizeAbove (n * 2) - 1 = 63 ∨ SetTable.sizeAbove (n * 2) - 1 = 127) ∧
    SetTable.sizeAbove (n * 2) ≤ 128 ∧ n * 5 < (SetTable.sizeAbove (n * 2) - 1) * 3) := by decide +kernel
section
variable {P : Program} {w : World} {A : Around} {E : Value → Shared → Prop} {s : Shared} {a b r : Addr} {L L1 L2 : List (Addr × List Int)} {es e1 e2 e0 : Array (Int × Value)} {ep p1 p2 p0 : Nat} {t t1 t2 t0 : SetTable}
theorem roomE (S : SetDR P w s.heap a L1 e1 p1 t1) (d1 : t1.dummies = #[]) {n : Nat} (few : n < 32) {Q : Unit → Shared → Prop}
    (hQ : ∀ h' L' e' p' t', Heap.SameBut a s.heap h' → SetDR P w h' a L' e' p' t' → L'.Perm L1 → t'.fill = L1.length → Q () { s with heap := h' }) : wpAny (model P w) A (setRoomFor a n) Q E s := by
  unfold setRoomFor
  obtain ⟨o, ho, hex, hd⟩ := S.ob
  refine wpAny_bind (wpAny_setState_of ho hd S.fit ?_)
  dsimp only
  have f1 : t1.fill = L1.length := by
    have := S.psz
    unfold SetTable.fill
    rw [this, d1] <;> rfl
  have lt := S.few
  unfold SetTable.roomFor
  rw [f1, S.psz]
  by_cases c : (L1.length + n) * 5 ≥ t1.mask * 3
  · rw [if_pos c]
    dsimp only
    have m7 : 7 ≤ t1.mask := by rcases S.tab.mok with e | e | e | e | e <;> omega
    obtain ⟨g1, g2, g3⟩ := room2_ok (L1.length + n) (by omega) (by omega)
    refine relayD (o := o) ⟨ho, hex, hd, S.rows, S.fit, S.nd, S.tup, S.plain, S.led, lt⟩ rfl g1 g2 (by omega) fun h' L' e' p' t' sb S' pm tm td => hQ h' L' e' p' t' sb S' pm ?_
    unfold SetTable.fill
    rw [S'.psz, td, pm.length_eq] <;> rfl
  · rw [if_neg c]
    dsimp only
    exact wpAny_pure (hQ s.heap L1 e1 p1 t1 (Heap.SameBut.refl a s.heap) S (List.Perm.refl _) f1)
/-- one by one, or at once where nothing stands there yet -/
theorem mergeE (S : SetDR P w s.heap r L1 e1 p1 t1) (d1 : t1.dummies = #[]) (m1 : L1 = [] → t1.mask = 7) (R : SetDR P w s.heap b L2 e2 p2 t2) (hd : t2.dummies = #[]) (nb : b ≠ r) (hu : A.units < cLine) (U : List (List Int)) (hU : U.length < 32) (hs : ∀ k, k ∈ Ks L1 ∨ k ∈ Ks L2 → k ∈ U) (nm : String)
    {Q : Unit → Shared → Prop} (hQ : ∀ h' L' es' ep' t', Heap.SameBut r s.heap h' → SetDR P w h' r L' es' ep' t' → (∀ k, k ∈ Ks L' ↔ k ∈ Ks L1 ∨ k ∈ Ks L2) → Q () { s with heap := h' }) : wpAny (model P w) A (Builtin.Frozenset.merge nm r b) Q E s := by
  unfold Builtin.Frozenset.merge
  refine wpAny_bind (epochD R ?_)
  by_cases z : L1 = []
  · subst z
    refine mergeD S (m1 rfl) d1 R hd (Ne.symm nb) _ fun h' L' es' ep' t' sb S' _ _ pm => hQ h' L' es' ep' t' sb S' fun k => ?_
    have x1 : k ∈ Ks L' ↔ k ∈ Ks L2 := (pm.map (·.2)).mem_iff
    rw [x1]
    simp
  obtain ⟨o, ho, hex, hdat⟩ := R.ob
  rw [merge_rows]
  refine wp_if_neg (by simpa using Ne.symm nb) ?_
  try refine wpAny_bind (wpAny_pure ?_)
  refine wpAny_bind (wpAny_setState_of ho hdat R.fit ?_)
  dsimp only
  have esz := R.esz
  by_cases em : e2.isEmpty = true
  · refine wp_if_pos em (wpAny_pure ?_)
    have l0 : L2 = [] := List.length_eq_zero_iff.mp (by rw [← esz]; simpa using em)
    exact hQ s.heap L1 e1 p1 t1 (Heap.SameBut.refl r s.heap) S fun k => by rw [l0]; simp
  refine wp_if_neg em ?_
  try refine wpAny_bind (wpAny_pure ?_)
  refine wpAny_bind (roomE S d1 (n := e2.size) (by rw [esz]; exact R.few) fun h1 L3 e3 p3 t3 sb1 S3 pm3 f3 => ?_)
  obtain ⟨o3, ho3, hex3, hd3⟩ := S3.ob
  refine wpAny_bind (wpAny_setState_of (s := { s with heap := h1 }) ho3 hd3 S3.fit ?_)
  dsimp only
  have R' : SetDR P w h1 b L2 e2 p2 t2 := R.keep (fun o e => (sb1.2 b nb).trans e) fun p hp => isT_but S (R.tup p hp) sb1
  have nz : (t3.fill != 0) = true := by
    rw [f3]
    have := List.length_pos_iff.mpr z
    simp
    omega
  unfold SetTable.road
  rw [if_pos nz]
  dsimp only
  refine wpAny_bind (walkUD (s := { s with heap := h1 }) R' _ _ fun ys pmy => ?_)
  refine wpAny_bind (loopD (s := { s with heap := h1 }) R' pmy (fun M s' => (Ks M).Nodup ∧ (∀ p ∈ M, p ∈ L2) ∧ ∃ h' Lr er pr tr, s' = { s with heap := h' } ∧ Heap.SameBut r h1 h' ∧ SetDR P w h' r Lr er pr tr ∧ ∀ k, k ∈ Ks Lr ↔ k ∈ Ks L1 ∨ (k ∈ Ks L2 ∧ k ∉ Ks M))
    (fun M pM => ⟨(pM.map (·.2)).nodup_iff.mpr R.nd, fun p hp => pM.mem_iff.mp hp, h1, L3, e3, p3, t3, rfl, Heap.SameBut.refl _ h1, S3, fun k => ?_⟩) ?_ ?_)
  · have x1 : k ∈ Ks L3 ↔ k ∈ Ks L1 := (pm3.map (·.2)).mem_iff
    have x2 : k ∈ Ks M ↔ k ∈ Ks L2 := (pM.map (·.2)).mem_iff
    rw [x1, x2]
    exact ⟨.inl, fun z => z.elim (fun y => y) fun y => absurd y.1 y.2⟩
  · rintro p M s' ⟨nd, sub, h', Lr, er, pr, tr, rfl, sb, Sr, ck⟩
    obtain ⟨nd1, nd2⟩ := List.nodup_cons.mp nd
    have pL := sub p List.mem_cons_self
    have pk : p.2 ∈ Ks L2 := List.mem_map.mpr ⟨p, pL, rfl⟩
    have hx : IsT P w h' p.2 p.1 := isT_but S3 (R'.tup p pL) sb
    have Rb : SetDR P w h' b L2 e2 p2 t2 := R'.keep (fun o e => (sb.2 b nb).trans e) fun q hq => isT_but S3 (R'.tup q hq) sb
    dsimp only
    have other : ∀ k, k ≠ p.2 → (k ∈ Ks (p :: M) ↔ k ∈ Ks M) := fun k ne => ⟨fun z => (List.mem_cons.mp z).resolve_left ne, List.mem_cons_of_mem _⟩
    have few : p.2 ∉ Ks Lr → Lr.length + 1 < 32 := fun no => by
      have h := nd_len (p.2 :: Ks Lr) U (List.nodup_cons.mpr ⟨no, Sr.nd⟩) fun k hk => by
        rcases List.mem_cons.mp hk with rfl | hk
        · exact hs _ (.inr pk)
        · exact hs k (((ck k).mp hk).imp id fun z => z.1)
      rw [List.length_cons, List.length_map] at h
      omega
    refine wpAny_bind (wpAny_holding ?_)
    refine addD (s := { s with heap := h' }) Sr hx hu few fun b' h2 L4 e4 p4 t4 sb4 S4 c3 c4 => ?_
    have Rb2 : SetDR P w h2 b L2 e2 p2 t2 := Rb.keep (fun o e => (sb4.2 b nb).trans e) fun q hq => isT_but Sr (Rb.tup q hq) sb4
    refine wpAny_bind (unchD (s := { s with heap := h2 }) Rb2 ?_)
    obtain ⟨o5, ho5, _, hd5⟩ := Rb2.ob
    refine wpAny_bind (wpAny_setState_of (s := { s with heap := h2 }) ho5 hd5 Rb2.fit ?_)
    refine wp_if_neg (by simp) ?_
    refine wpAny_pure ⟨rfl, nd2, fun q hq => sub q (List.mem_cons_of_mem _ hq), h2, L4, e4, p4, t4, rfl, sb.trans sb4, S4, fun k => ?_⟩
    have m3 : k ∈ Ks L4 ↔ k = p.2 ∨ k ∈ Ks Lr := by
      by_cases c : p.2 ∈ Ks Lr
      · rw [c3 c]
        exact ⟨.inr, fun z => z.elim (fun e => e ▸ c) id⟩
      · exact mem_more (c4 c) k
    rw [m3]
    by_cases e : k = p.2
    · subst e
      simp [nd1, pk]
    · rw [ck k, other k e]
      simp [e]
  · rintro s' ⟨_, _, h', Lr, er, pr, tr, rfl, sb, Sr, ck⟩
    refine wpAny_pure (hQ h' Lr er pr tr (sb1.trans sb) Sr fun k => ?_)
    rw [ck k]
    simp
/-- the elements of one in some order, asked of another -/
theorem askD (R1 : SetDR P w s.heap a L es ep t) (R2 : SetDR P w s.heap b L2 e2 p2 t2) {Q : List (Int × Value) → Shared → Prop} (h : ∀ ys, ys.Perm es.toList → Q ys s) : wpAny (model P w) A (Builtin.Frozenset.walkUnseen a b) Q E s := by
  unfold Builtin.Frozenset.walkUnseen
  have all : ∀ x ∈ es.toList ++ e2.toList, ∃ k c, x.2 = Value.ref c ∧ IsT P w s.heap k c := fun x hx => by
    rw [R1.rows, R2.rows] at hx
    rcases List.mem_append.mp hx with hx | hx
    · obtain ⟨p, hp, rfl⟩ := List.mem_map.mp hx
      exact ⟨p.2, p.1, rfl, R1.tup p hp⟩
    · obtain ⟨p, hp, rfl⟩ := List.mem_map.mp hx
      exact ⟨p.2, p.1, rfl, R2.tup p hp⟩
  obtain ⟨o1, ho1, _, hd1⟩ := R1.ob
  obtain ⟨o2, ho2, _, hd2⟩ := R2.ob
  refine wpAny_bind (wpAny_setEntries_of ho1 hd1 R1.fit ?_)
  refine wpAny_bind (wpAny_setEntries_of ho2 hd2 R2.fit ?_)
  cases hl : es.toList ++ e2.toList with
  | nil =>
    rw [List.forIn_nil]
    refine wpAny_bind (wpAny_pure ?_)
    exact wpAny_pure (h _ (List.Perm.refl _))
  | cons x l =>
    rw [List.forIn_cons]
    obtain ⟨k, y, ex, hk⟩ := all x (by rw [hl]; exact List.mem_cons_self)
    obtain ⟨h0, v⟩ := x
    cases ex
    refine wpAny_bind (wpAny_bind ?_)
    dsimp only
    refine wpAny_bind ?_
    unfold Builtin.Frozenset.quietEq
    refine wpAny_bind (wpAny_specialOf hk.typeIs F.slot_tuple_eq.lookup (wpAny_pure ?_))
    refine wp_if_pos (by decide +kernel) ?_
    refine wpAny_bind ?_
    unfold Builtin.Frozenset.walk
    refine wpAny_bind (walkD R1 fun ys pm => wpAny_pure ?_)
    refine wpAny_pure (wpAny_pure ?_)
    exact wpAny_pure (h _ pm)
/-- whether all of one stand in the other -/
theorem subsetD (R1 : SetDR P w s.heap a L es ep t) (R2 : SetDR P w s.heap b L2 e2 p2 t2) (hu : A.units < cLine) (nm : String) {Q : Bool → Shared → Prop} (hQ : ∀ c, (c = true ↔ L.length ≤ L2.length ∧ ∀ k ∈ Ks L, k ∈ Ks L2) → Q c s) :
    wpAny (model P w) A (Builtin.Frozenset.subsetOf nm a b) Q E s := by
  unfold Builtin.Frozenset.subsetOf
  refine wpAny_bind (sizeD R1 ?_)
  refine wpAny_bind (sizeD R2 ?_)
  by_cases c : L.length > L2.length
  · exact wp_if_pos c (wpAny_pure (hQ false ⟨fun z => (nomatch z), fun z => absurd z.1 (Nat.not_le.mpr c)⟩))
  refine wp_if_neg c ?_
  try refine wpAny_bind (wpAny_pure ?_)
  refine wpAny_bind (epochD R1 ?_)
  refine wpAny_bind (askD R1 R2 fun ys pm => ?_)
  rw [R1.rows] at pm
  obtain ⟨M, rfl, pM⟩ := rows_split pm R1.nd R1.inj
  have kM : ∀ k, k ∈ Ks M ↔ k ∈ Ks L := fun k => (pM.map (·.2)).mem_iff
  refine wpAny_bind (wpAny_forIn_list _ (fun rest z s' => ∃ M', rest = rowsOf P w M' ∧ (∀ p ∈ M', p ∈ L) ∧ z = (none, ()) ∧ s' = s ∧ ∀ k ∈ Ks L, k ∈ Ks M' ∨ k ∈ Ks L2) _ ?_ ?_ _ _ ⟨M, rfl, fun p hp => pM.mem_iff.mp hp, rfl, rfl, fun k hk => .inl ((kM k).mpr hk)⟩)
  · rintro x rest z s' ⟨M', e, sub, rfl, rfl, ck⟩
    cases M' with
    | nil => cases e
    | cons p M' =>
      cases e
      have pL := sub p List.mem_cons_self
      have pk : p.2 ∈ Ks L := List.mem_map.mpr ⟨p, pL, rfl⟩
      refine wpAny_bind (wpAny_holding (findD R2 (R1.tup p pL) hu (fun i q hi hq => ?_) fun kout => ?_))
      · refine wp_if_neg (by simp) ?_
        refine wpAny_bind (unchD R1 (wpAny_pure ?_))
        refine ⟨M', rfl, fun q hq => sub q (List.mem_cons_of_mem _ hq), rfl, rfl, fun k hk => ?_⟩
        rcases ck k hk with z | z
        · rcases List.mem_cons.mp z with z | z
          · exact .inr (List.mem_map.mpr ⟨q, List.mem_of_getElem? hi, hq.trans z.symm⟩)
          · exact .inl z
        · exact .inr z
      · refine wp_if_pos (by simp) (wpAny_pure ?_)
        exact wpAny_pure (hQ false ⟨fun z => (nomatch z), fun z => absurd (z.2 _ pk) kout⟩)
  · rintro z s' ⟨M', e, _, rfl, rfl, ck⟩
    cases M' with
    | nil => exact wpAny_pure (hQ true ⟨fun _ => ⟨Nat.not_lt.mp c, fun k hk => (ck k hk).resolve_left fun z => nomatch z⟩, fun _ => rfl⟩)
    | cons p M' => cases e
end
end Zk
/-! Own ground, part ZL: rules for ^, -, |, == of sets of tuples of ints, and len of what is made. -/
namespace Zl
open PySem PySem.Spec PyProof.Rows L2 Xa Xb Xc Xs Ze Zf Zg Zh Zi Zj Zk
theorem entry_set_xor : entryFor table "set.__xor__" = some Builtin.«frozenset.__xor__» := entryFor_alias (id' := "frozenset.__xor__") (by kernel_rfl) rfl (by decide +kernel) (by kernel_rfl)
theorem entry_set_sub : entryFor table "set.__sub__" = some Builtin.«frozenset.__sub__» := entryFor_alias (id' := "frozenset.__sub__") (by kernel_rfl) rfl (by decide +kernel) (by kernel_rfl)
theorem entry_set_or : entryFor table "set.__or__" = some Builtin.«frozenset.__or__» := entryFor_alias (id' := "frozenset.__or__") (by kernel_rfl) rfl (by decide +kernel) (by kernel_rfl)
theorem entry_set_eq : entryFor table "set.__eq__" = some Builtin.«frozenset.__eq__» := entryFor_alias (id' := "frozenset.__eq__") (by kernel_rfl) rfl (by decide +kernel) (by kernel_rfl)
section
variable {P : Program} {w : World} {A : Around} {E : Value → Shared → Prop} {s : Shared} {a b : Addr} {L L2 : List (Addr × List Int)} {es e2 : Array (Int × Value)} {ep p2 : Nat} {t t2 : SetTable}
theorem bin_xor (R1 : SetDR P w s.heap a L es ep t) (R2 : SetDR P w s.heap b L2 e2 p2 t2) (hd2 : t2.dummies = #[]) (hu : A.units + 8 < cLine) (U : List (List Int)) (hU : U.length < 32) (hs : ∀ k, k ∈ Ks L ∨ k ∈ Ks L2 → k ∈ U) {Q : Value → Shared → Prop}
    (hQ : ∀ h' L' es' ep' t', Heap.SameBut s.heap.objs.size (s.heap.push (freshO w)) h' → SetDR P w h' s.heap.objs.size L' es' ep' t' → (∀ k, k ∈ Ks L' ↔ (k ∈ Ks L ∧ k ∉ Ks L2) ∨ (k ∉ Ks L ∧ k ∈ Ks L2)) → Q (.ref s.heap.objs.size) { s with heap := h' }) :
    wpAny (model P w) A (binaryOp .BitXor (.ref a) (.ref b)) Q E s := by
  refine wpAny_binaryOp_same (T := "set") (id := "set.__xor__") R1.ty R2.ty F.fills_set_xor F.slot_set_xor (wpAny_call_entry F.slot_set_xor R1.ty entry_set_xor ?_ (F.args_set_xor_2 _ _))
  unfold Builtin.«frozenset.__xor__»
  refine wpAny_bind (m := Builtin.Frozenset.slot1 "__xor__" _) (wpAny_pure ?_)
  dsimp only
  rw [if_neg Bool.false_ne_true]
  dsimp only
  refine wpAny_bind (wpAny_bind (anyD R1.ty (anyD R2.ty ?_)))
  refine wp_if_neg (by decide) ?_
  refine wpAny_bind (wpAny_pure ?_)
  have na := not_new R1
  have nb := not_new R2
  have R1p := SetDR_push (o := freshO w) R1
  have R2p := SetDR_push (o := freshO w) R2
  have S0 : SetDR P w (s.heap.push (freshO w)) s.heap.objs.size [] #[] 0 (.fresh 0 0 (!w.params.followText "set-order")) := SetDR.fresh (Heap.get?_push_size _ rfl)
  show wpAny _ _ ((do
    let result ← Builtin.Frozenset.newFrom _ (← Builtin.Frozenset.baseOf a) (.ref b)
    holding [result] (Builtin.Frozenset.symmetricDifferenceUpdate _ (← Builtin.Frozenset.addrOf result) (.ref a))
    return result) >>= _) _ _ _
  refine wpAny_bind (wpAny_bind (baseD R1.ty ?_))
  unfold Builtin.Frozenset.newFrom
  refine wpAny_bind (wpAny_bind (newSetD ?_))
  unfold Builtin.Frozenset.addrOf
  refine wpAny_bind (wpAny_pure ?_)
  refine wpAny_bind (wpAny_holding (wpAny_mono (xorD (s := { s with heap := s.heap.push (freshO w) }) (Q := fun _ s2 => Q (.ref s.heap.objs.size) s2) S0 rfl rfl R1p R2p hd2 na nb (by show A.units + 1 < cLine; omega) U hU hs (fun h' L' es' ep' t' sb R' ck => hQ h' L' es' ep' t' sb R' ck)) (fun u s' q => ?_) fun _ _ h => h))
  refine wpAny_pure ?_
  refine wpAny_bind (wpAny_pure ?_)
  exact wpAny_bind (wpAny_holding (wpAny_mono q (fun u2 s2 q2 => wpAny_pure (wpAny_pure ⟨_, rfl, (fun z => nomatch z), q2⟩)) fun _ _ h => h))
theorem bin_sub (R1 : SetDR P w s.heap a L es ep t) (hd1 : t.dummies = #[]) (R2 : SetDR P w s.heap b L2 e2 p2 t2) (hu : A.units + 8 < cLine) {Q : Value → Shared → Prop}
    (hQ : ∀ h' L' es' ep' t', Heap.SameBut s.heap.objs.size (s.heap.push (freshO w)) h' → SetDR P w h' s.heap.objs.size L' es' ep' t' → (∀ k, k ∈ Ks L' ↔ k ∈ Ks L ∧ k ∉ Ks L2) → Q (.ref s.heap.objs.size) { s with heap := h' }) :
    wpAny (model P w) A (binaryOp .Sub (.ref a) (.ref b)) Q E s := by
  refine wpAny_binaryOp_same (T := "set") (id := "set.__sub__") R1.ty R2.ty F.fills_set_sub F.slot_set_sub (wpAny_call_entry F.slot_set_sub R1.ty entry_set_sub ?_ (F.args_set_sub_2 _ _))
  unfold Builtin.«frozenset.__sub__»
  refine wpAny_bind (m := Builtin.Frozenset.slot1 "__sub__" _) (wpAny_pure ?_)
  dsimp only
  rw [if_neg Bool.false_ne_true]
  dsimp only
  refine wpAny_bind (wpAny_bind (anyD R1.ty (anyD R2.ty ?_)))
  refine wp_if_neg (by decide) ?_
  refine wpAny_bind (wpAny_pure ?_)
  exact wpAny_bind (subD R1 hd1 R2 (by show A.units + 1 < cLine; omega) fun h' L' es' ep' t' sb R' ck => wpAny_pure ⟨_, rfl, (fun z => nomatch z), hQ h' L' es' ep' t' sb R' ck⟩)
theorem bin_or (R1 : SetDR P w s.heap a L es ep t) (hd1 : t.dummies = #[]) (R2 : SetDR P w s.heap b L2 e2 p2 t2) (hd2 : t2.dummies = #[]) (ne : a ≠ b) (hu : A.units + 8 < cLine) (U : List (List Int)) (hU : U.length < 32) (hs : ∀ k, k ∈ Ks L ∨ k ∈ Ks L2 → k ∈ U) {Q : Value → Shared → Prop}
    (hQ : ∀ h' L' es' ep' t', Heap.SameBut s.heap.objs.size (s.heap.push (freshO w)) h' → SetDR P w h' s.heap.objs.size L' es' ep' t' → (∀ k, k ∈ Ks L' ↔ k ∈ Ks L ∨ k ∈ Ks L2) → Q (.ref s.heap.objs.size) { s with heap := h' }) :
    wpAny (model P w) A (binaryOp .BitOr (.ref a) (.ref b)) Q E s := by
  refine wpAny_binaryOp_same (T := "set") (id := "set.__or__") R1.ty R2.ty F.fills_set_or F.slot_set_or (wpAny_call_entry F.slot_set_or R1.ty entry_set_or ?_ (F.args_set_or_2 _ _))
  unfold Builtin.«frozenset.__or__»
  refine wpAny_bind (m := Builtin.Frozenset.slot1 "__or__" _) (wpAny_pure ?_)
  dsimp only
  rw [if_neg Bool.false_ne_true]
  dsimp only
  refine wpAny_bind (wpAny_bind (anyD R1.ty (anyD R2.ty ?_)))
  refine wp_if_neg (by decide) ?_
  refine wpAny_bind (wpAny_pure ?_)
  have na := not_new R1
  have nb := not_new R2
  have R1p := SetDR_push (o := freshO w) R1
  have R2p := SetDR_push (o := freshO w) R2
  have S0 : SetDR P w (s.heap.push (freshO w)) s.heap.objs.size [] #[] 0 (.fresh 0 0 (!w.params.followText "set-order")) := SetDR.fresh (Heap.get?_push_size _ rfl)
  show wpAny _ _ ((do
    let result ← Builtin.Frozenset.copyOf a
    if Value.ref b != .ref a then holding [result] (Builtin.Frozenset.updateFrom _ (← Builtin.Frozenset.addrOf result) (.ref b))
    return result) >>= _) _ _ _
  refine wpAny_bind (wpAny_bind ?_)
  unfold Builtin.Frozenset.copyOf
  refine wpAny_bind (baseD R1.ty ?_)
  refine wpAny_bind (newSetD ?_)
  unfold Builtin.Frozenset.addrOf
  refine wpAny_bind (wpAny_pure ?_)
  refine wpAny_bind (mergeD (s := { s with heap := s.heap.push (freshO w) }) S0 rfl rfl R1p hd1 (Ne.symm na) _ fun h1 L1 e1 p1 t1 sb1 S1 d1 m1 pm1 => ?_)
  refine wpAny_pure ?_
  have R2' : SetDR P w h1 b L2 e2 p2 t2 := R2p.keep (fun o e => (sb1.2 b nb).trans e) fun p hp => isT_but S0 (R2p.tup p hp) sb1
  have k1 : ∀ k, k ∈ Ks L1 ↔ k ∈ Ks L := fun k => (pm1.map (·.2)).mem_iff
  refine wp_if_pos (by simpa using Ne.symm ne) ?_
  refine wpAny_bind (wpAny_pure ?_)
  refine wpAny_bind (wpAny_holding ?_)
  unfold Builtin.Frozenset.updateFrom
  refine wpAny_bind (anyD (s := { s with heap := h1 }) R2'.ty ?_)
  refine wp_if_pos rfl ?_
  unfold Builtin.Frozenset.addrOf
  refine wpAny_bind (wpAny_pure ?_)
  refine mergeE (s := { s with heap := h1 }) S1 d1 m1 R2' hd2 nb (by show A.units + 1 < cLine; omega) U hU (fun k hk => hs k (hk.imp (k1 k).mp fun z => z)) _ fun h2 L3 e3 p3 t3 sb3 S3 ck => ?_
  exact wpAny_pure (wpAny_pure ⟨_, rfl, (fun z => nomatch z), hQ h2 L3 e3 p3 t3 (sb1.trans sb3) S3 fun k => by rw [ck k, k1 k]⟩)
theorem cmp_eq (R1 : SetDR P w s.heap a L es ep t) (R2 : SetDR P w s.heap b L2 e2 p2 t2) (hu : A.units + 8 < cLine) {Q : Value → Shared → Prop} (hQ : ∀ c, (c = true ↔ ∀ k, k ∈ Ks L ↔ k ∈ Ks L2) → Q (.bool c) s) : wpAny (model P w) A (compareOp .Eq (.ref a) (.ref b)) Q E s := by
  show wpAny _ _ (richCompare .Eq (.ref a) (.ref b)) Q E s
  refine wpAny_richCompare_same_room (T := "set") (id := "set.__eq__") R1.ty R2.ty F.slot_set_eq (wpAny_call_entry F.slot_set_eq R1.ty entry_set_eq ?_ (F.args_set_eq_2 _ _)) (by omega)
  unfold Builtin.«frozenset.__eq__»
  refine wpAny_bind (m := Builtin.Frozenset.slot1 "__eq__" _) (wpAny_pure ?_)
  dsimp only
  refine wpAny_bind (anyD R2.ty ?_)
  refine wp_if_neg (by decide) ?_
  refine wpAny_bind (wpAny_pure ?_)
  refine wpAny_bind (wpAny_pure ?_)
  refine wpAny_bind (sizeD R1 ?_)
  refine wpAny_bind (sizeD R2 ?_)
  have fin : ∀ c, (c = true ↔ ∀ k, k ∈ Ks L ↔ k ∈ Ks L2) → wpAny (model P w) A.in1 (ret (.bool c)) (fun fin s' => ∃ v, fin = Fin.done (Flow.ret v) ∧ v ≠ Value.notImplemented ∧ Q v s') E s := fun c hc => wpAny_pure ⟨_, rfl, (fun z => nomatch z), hQ c hc⟩
  refine wpAny_bind ?_
  by_cases c : L.length = L2.length
  · refine wp_if_neg (by simp [c]) ?_
    refine wpAny_bind (wpAny_bind (wpAny_isInstance R1.ty F.sub_set_frozenset (wpAny_pure ?_)))
    refine wp_if_neg (by decide) ?_
    refine subsetD R1 R2 (by show A.units + 1 < cLine; omega) _ fun d hd => fin d (hd.trans ⟨fun z k => ⟨z.2 k, fun hk => ?_⟩, fun z => ⟨Nat.le_of_eq c, fun k => (z k).mp⟩⟩)
    refine Classical.byContradiction fun no => ?_
    have h := nd_len (k :: Ks L) (Ks L2) (List.nodup_cons.mpr ⟨no, R1.nd⟩) fun x hx => (List.mem_cons.mp hx).elim (fun e => by rw [e]; exact hk) (z.2 x)
    rw [List.length_cons, List.length_map, List.length_map] at h
    omega
  · refine wp_if_pos (by simpa using c) (wpAny_pure (fin false ⟨fun z => (nomatch z), fun z => absurd ?_ c⟩))
    have h1 := nd_len (Ks L) (Ks L2) R1.nd fun x hx => (z x).mp hx
    have h2 := nd_len (Ks L2) (Ks L) R2.nd fun x hx => (z x).mpr hx
    rw [List.length_map, List.length_map] at h1 h2
    omega
end
/-! ### rules -/
section
variable {X : Cx}
/-- a set of n elements, of which no more is said -/
def SetNO (a : Addr) (n : Nat) : HO := .ext fun h => ∃ (o : Obj) (es : Array (Int × Value)) (ep : Nat) (t : SetTable), h.get? a = some o ∧ o.ExactSet ∧ o.data = .set es ep t ∧ t.fits es.size = true ∧ es.size = n
theorem setNO_ok {P : Program} {w : World} {H : Hp} {h : Heap} {a : Addr} {L : List (Addr × List Int)} {es : Array (Int × Value)} {ep : Nat} {t : SetTable} (R : SetDR P w h a L es ep t) : ObjOk P w H h a (SetNO a L.length) := by
  obtain ⟨o, ho, hex, hd⟩ := R.ob
  refine ⟨⟨o, es, ep, t, ho, hex, hd, R.fit, R.esz⟩, ⟨o, ho⟩, fun h1 h2 p k => ?_⟩
  obtain ⟨o', es', ep', t', ho', r⟩ := p
  exact ⟨o', es', ep', t', k _ ho', r⟩
def rLenN : List V → Hp → VK → Prop := fun xs H Q => ∃ (a : Addr) (n : Nat), xs = [.ref a] ∧ H a = some (SetNO a n) ∧ n < 1000 ∧ Q (.int (n : Int)) H
theorem call_lenN : CallR X (.builtin "len") rLenN := by
  intro pins s σ H xs us Q I r h
  obtain ⟨a, n, rfl, ha, hn, q⟩ := h
  obtain ⟨o, es, ep, t, ho, hex, hd, hf, e⟩ := (show ObjOk X.prog X.w H s.heap a (SetNO a n) from I.hok a _ ha).1
  rw [Vals.ref1 r]
  refine call_len_set ho hex hd hf (by rw [e]; omega) ⟨.int (n : Int), H, I.tok _, ⟨_, by rw [e]⟩, q⟩
/-- two sets that stand, all their elements among few -/
structure Two (K : PySem.W.Frag) (P : Program) (w : World) (H : Hp) (a b : Addr) (L1 L2 : List (Addr × List Int)) (U : List (List Int)) : Prop where
  ha : H a = some (SetTO P w a L1)
  hb : H b = some (SetTO P w b L2)
  ne : a ≠ b
  ta : ∀ q ∈ L1, SqT K H q.1 (q.2.map V.int)
  tb : ∀ q ∈ L2, SqT K H q.1 (q.2.map V.int)
  few : U.length < 32
  sub : ∀ k, k ∈ Ks L1 ∨ k ∈ Ks L2 → k ∈ U
theorem Two.full {pins : List (Addr × Obj)} {σ : L2.St} {H : Hp} {s : Shared} {a b : Addr} {L1 L2 : List (Addr × List Int)} {U : List (List Int)} (T : Two X.K X.prog X.w H a b L1 L2 U) (I : Inv X pins σ H s) :
    ∃ es ep t e2 p2 t2, SetDR X.prog X.w s.heap a L1 es ep t ∧ t.dummies = #[] ∧ SetDR X.prog X.w s.heap b L2 e2 p2 t2 ∧ t2.dummies = #[] := by
  obtain ⟨es, ep, t, R1⟩ := setTO_full I T.ha T.ta
  obtain ⟨e2, p2, t2, R2⟩ := setTO_full I T.hb T.tb
  have l1 := nd_len (Ks L1) U R1.nd fun k hk => T.sub k (.inl hk)
  have l2 := nd_len (Ks L2) U R2.nd fun k hk => T.sub k (.inr hk)
  rw [List.length_map] at l1 l2
  have := T.few
  exact ⟨es, ep, t, e2, p2, t2, SetDR.of R1 (by omega), R1.tab.dm, SetDR.of R2 (by omega), R2.tab.dm⟩
/-- a new set by what stands in two -/
def rSet2 (K : PySem.W.Frag) (P : Program) (w : World) (f : Bool → Bool → Bool) : R2 := fun x y H Q => ∃ (a b : Addr) (L1 L2 : List (Addr × List Int)) (U : List (List Int)), x = .ref a ∧ y = .ref b ∧ Two K P w H a b L1 L2 U ∧
  ∀ (p : Addr) (l : List (List Int)), H p = none → l.Nodup → l.length < 32 → (∀ k, k ∈ l ↔ f (decide (k ∈ Ks L1)) (decide (k ∈ Ks L2)) = true) → Q (.ref p) (upd H p (SetNO p l.length))
theorem fin_set {pins : List (Addr × Obj)} {σ : L2.St} {H : Hp} {s : Shared} {Q : VK} {h' : Heap} {L' : List (Addr × List Int)} {es' : Array (Int × Value)} {ep' : Nat} {t' : SetTable} (I : Inv X pins σ H s) (sb : Heap.SameBut s.heap.objs.size (s.heap.push (freshO X.w)) h') (R' : SetDR X.prog X.w h' s.heap.objs.size L' es' ep' t')
    (q : ∀ (p : Addr), H p = none → Q (.ref p) (upd H p (SetNO p (Ks L').length))) : EP X pins σ Q (.ref s.heap.objs.size) { s with heap := h' } := by
  have hn : H s.heap.objs.size = none := I.hok.fresh (Nat.le_refl _)
  refine ⟨.ref s.heap.objs.size, upd H s.heap.objs.size (SetNO s.heap.objs.size L'.length), I.laid (t' := s.toks) (fun b u e => push_but sb e) (Nat.le_refl _) (setNO_ok R'), rfl, ?_⟩
  have := q _ hn
  rw [List.length_map] at this
  exact this
theorem op_setXor (hu : X.A.units + 64 < cLine) : OpR X (binaryOp .BitXor) (rSet2 X.K X.prog X.w fun a b => a != b) := by
  rintro pins s σ H x y v u Q I rx ry ⟨a, b, L1, L2, U, rfl, rfl, T, q⟩
  obtain rfl := (show v = Value.ref a from rx)
  obtain rfl := (show u = Value.ref b from ry)
  obtain ⟨es, ep, t, e2, p2, t2, R1, d1, R2, d2⟩ := T.full I
  refine bin_xor R1 R2 d2 (by omega) U T.few T.sub fun h' L' es' ep' t' sb R' ck => fin_set I sb R' fun p np => q p (Ks L') np R'.nd (by rw [List.length_map]; exact R'.few) fun k => ?_
  rw [ck k]
  by_cases c1 : k ∈ Ks L1 <;> by_cases c2 : k ∈ Ks L2 <;> simp [c1, c2]
theorem op_setSub (hu : X.A.units + 64 < cLine) : OpR X (binaryOp .Sub) (rSet2 X.K X.prog X.w fun a b => a && !b) := by
  rintro pins s σ H x y v u Q I rx ry ⟨a, b, L1, L2, U, rfl, rfl, T, q⟩
  obtain rfl := (show v = Value.ref a from rx)
  obtain rfl := (show u = Value.ref b from ry)
  obtain ⟨es, ep, t, e2, p2, t2, R1, d1, R2, d2⟩ := T.full I
  refine bin_sub R1 d1 R2 (by omega) fun h' L' es' ep' t' sb R' ck => fin_set I sb R' fun p np => q p (Ks L') np R'.nd (by rw [List.length_map]; exact R'.few) fun k => ?_
  rw [ck k]
  by_cases c1 : k ∈ Ks L1 <;> by_cases c2 : k ∈ Ks L2 <;> simp [c1, c2]
theorem op_setOr (hu : X.A.units + 64 < cLine) : OpR X (binaryOp .BitOr) (rSet2 X.K X.prog X.w fun a b => a || b) := by
  rintro pins s σ H x y v u Q I rx ry ⟨a, b, L1, L2, U, rfl, rfl, T, q⟩
  obtain rfl := (show v = Value.ref a from rx)
  obtain rfl := (show u = Value.ref b from ry)
  obtain ⟨es, ep, t, e2, p2, t2, R1, d1, R2, d2⟩ := T.full I
  refine bin_or R1 d1 R2 d2 T.ne (by omega) U T.few T.sub fun h' L' es' ep' t' sb R' ck => fin_set I sb R' fun p np => q p (Ks L') np R'.nd (by rw [List.length_map]; exact R'.few) fun k => ?_
  rw [ck k]
  by_cases c1 : k ∈ Ks L1 <;> by_cases c2 : k ∈ Ks L2 <;> simp [c1, c2]
/-- whether two sets have the same elements -/
def rSetEq (K : PySem.W.Frag) (P : Program) (w : World) : R2 := fun x y H Q => ∃ (a b : Addr) (L1 L2 : List (Addr × List Int)) (U : List (List Int)), x = .ref a ∧ y = .ref b ∧ Two K P w H a b L1 L2 U ∧ ∀ c : Bool, (c = true ↔ ∀ k, k ∈ Ks L1 ↔ k ∈ Ks L2) → Q (.bl c) H
theorem op_setEq (hu : X.A.units + 64 < cLine) : OpR X (compareOp .Eq) (rSetEq X.K X.prog X.w) := by
  rintro pins s σ H x y v u Q I rx ry ⟨a, b, L1, L2, U, rfl, rfl, T, q⟩
  obtain rfl := (show v = Value.ref a from rx)
  obtain rfl := (show u = Value.ref b from ry)
  obtain ⟨es, ep, t, e2, p2, t2, R1, d1, R2, d2⟩ := T.full I
  exact cmp_eq R1 R2 (by omega) fun c hc => ⟨.bl c, H, I, rfl, q c hc⟩
end
end Zl
/-! Own ground, part ZM: how many differ; tuples that ascend. -/
namespace Zn
open PySem PySem.Spec PyProof.Rows L2 Zi
/-- how many stand in just one of two -/
def symN (a b : List (List Int)) : Nat := (a.filter fun k => !decide (k ∈ b)).length + (b.filter fun k => !decide (k ∈ a)).length
theorem cnt_of {l m : List (List Int)} (n1 : l.Nodup) (n2 : m.Nodup) (h : ∀ k, k ∈ l ↔ k ∈ m) : l.length = m.length := ((List.perm_ext_iff_of_nodup n1 n2).mpr h).length_eq
theorem cnt_xor {a b l : List (List Int)} (na : a.Nodup) (nb : b.Nodup) (nl : l.Nodup) (h : ∀ k, k ∈ l ↔ (decide (k ∈ a) != decide (k ∈ b)) = true) : l.length = symN a b := by
  have e := cnt_of (m := (a.filter fun k => !decide (k ∈ b)) ++ b.filter fun k => !decide (k ∈ a)) nl (List.nodup_append.mpr ⟨na.sublist List.filter_sublist, nb.sublist List.filter_sublist, fun x hx y hy e => ?_⟩) fun k => ?_
  · rw [e, List.length_append]
    rfl
  · have h1 := (List.mem_filter.mp hx).1
    have h2 := (List.mem_filter.mp hy).2
    rw [← e] at h2
    simp [h1] at h2
  · rw [h k, List.mem_append, List.mem_filter, List.mem_filter]
    by_cases c1 : k ∈ a <;> by_cases c2 : k ∈ b <;> simp [c1, c2]
theorem cnt_sub {a b l : List (List Int)} (na : a.Nodup) (nl : l.Nodup) (h : ∀ k, k ∈ l ↔ (decide (k ∈ a) && !decide (k ∈ b)) = true) : l.length = (a.filter fun k => !decide (k ∈ b)).length := by
  refine cnt_of nl (na.sublist List.filter_sublist) fun k => ?_
  rw [h k, List.mem_filter]
  by_cases c1 : k ∈ a <;> by_cases c2 : k ∈ b <;> simp [c1, c2]
/-- all of the union are just those of c -/
theorem cnt_or {a b c l : List (List Int)} (nc : c.Nodup) (nl : l.Nodup) (h : ∀ k, k ∈ l ↔ (decide (k ∈ a) || decide (k ∈ b)) = true) (sa : ∀ k ∈ a, k ∈ c) (sb : ∀ k ∈ b, k ∈ c) : l.length = c.length ↔ ∀ k, (k ∈ a ∨ k ∈ b) ↔ k ∈ c := by
  have hm : ∀ k, k ∈ l ↔ k ∈ a ∨ k ∈ b := fun k => by
    rw [h k]
    by_cases c1 : k ∈ a <;> by_cases c2 : k ∈ b <;> simp [c1, c2]
  constructor
  · intro e k
    refine ⟨fun z => z.elim (sa k) (sb k), fun hk => (hm k).mp (Classical.byContradiction fun no => ?_)⟩
    have q := nd_len (k :: l) c (List.nodup_cons.mpr ⟨no, nl⟩) fun x hx => (List.mem_cons.mp hx).elim (fun e => by rw [e]; exact hk) fun y => ((hm x).mp y).elim (sa x) (sb x)
    rw [List.length_cons] at q
    omega
  · intro z
    exact cnt_of nl nc fun k => (hm k).trans (z k)
/-! ### tuples that ascend -/
def ascT : List (List Int) → Bool
  | [] => true
  | [_] => true
  | x :: y :: r => HT.lexLt x y && ascT (y :: r)
def ascT2 (l : List (List Int)) (i : Nat) : Bool := match l[i]?, l[i + 1]? with
  | some x, some y => HT.lexLt x y
  | _, _ => true
theorem ascT_all : ∀ l : List (List Int), ascT l = ((List.range (l.length - 1)).map (ascT2 l)).all id
  | [] => rfl
  | [_] => rfl
  | x :: y :: r => by
    have e : (x :: y :: r).length - 1 = (y :: r).length - 1 + 1 := by simp
    rw [e, List.range_succ_eq_map, List.map_cons, List.all_cons]
    show (HT.lexLt x y && ascT (y :: r)) = _
    rw [ascT_all (y :: r), List.map_map]
    rfl
theorem ascT_of {l : List (List Int)} (h : l.Pairwise fun x y => HT.lexLt x y = true) : ascT l = true := by
  match l with
  | [] => rfl
  | [_] => rfl
  | x :: y :: r =>
    show (HT.lexLt x y && ascT (y :: r)) = true
    rw [List.rel_of_pairwise_cons h List.mem_cons_self, ascT_of (List.Pairwise.of_cons h)]
    rfl
theorem lex2 (x y x' y' : Int) : HT.lexLt [x, y] [x', y'] = decide (x < x' ∨ (x = x' ∧ y < y')) := by
  show (if x = x' then (if y = y' then false else decide (y < y')) else decide (x < x')) = _
  by_cases c : x = x'
  · rw [if_pos c]
    by_cases d : y = y'
    · rw [if_pos d]
      subst c d
      simp
    · rw [if_neg d]
      subst c
      simp
  · rw [if_neg c]
    simp [c]
theorem lex_irr : ∀ x : List Int, HT.lexLt x x = false
  | [] => rfl
  | a :: x => by
    show (if a = a then HT.lexLt x x else _) = false
    rw [if_pos rfl]
    exact lex_irr x
theorem lex_asym : ∀ {x y : List Int}, HT.lexLt x y = true → HT.lexLt y x = false
  | [], [], h => nomatch h
  | [], _ :: _, _ => rfl
  | _ :: _, [], h => nomatch h
  | a :: x, b :: y, h => by
    have h : (if a = b then HT.lexLt x y else decide (a < b)) = true := h
    show (if b = a then HT.lexLt y x else decide (b < a)) = false
    by_cases c : a = b
    · rw [if_pos c] at h
      rw [if_pos c.symm]
      exact lex_asym h
    · rw [if_neg c] at h
      rw [if_neg fun e => c e.symm]
      have := of_decide_eq_true h
      exact decide_eq_false (by omega)
/-! ### pairs that cover -/
def quB (hd A : List (List Int)) : Bool := A.all fun k => decide (k ∈ hd)
def covB (hd A B : List (List Int)) : Bool := hd.all fun k => decide (k ∈ A) || decide (k ∈ B)
theorem quB_iff {hd A : List (List Int)} : quB hd A = true ↔ ∀ k ∈ A, k ∈ hd := by
  unfold quB
  simp
theorem covB_iff {hd A B : List (List Int)} (a : ∀ k ∈ A, k ∈ hd) (b : ∀ k ∈ B, k ∈ hd) : covB hd A B = true ↔ ∀ k, (k ∈ A ∨ k ∈ B) ↔ k ∈ hd := by
  unfold covB
  rw [List.all_eq_true]
  constructor
  · intro h k
    exact ⟨fun z => z.elim (a k) (b k), fun hk => by simpa using h k hk⟩
  · intro h k hk
    simpa using (h k).mpr hk
theorem eqB_iff {hd A B : List (List Int)} : (quB hd A && (quB hd B && covB hd A B)) = true ↔ ∀ k, (k ∈ A ∨ k ∈ B) ↔ k ∈ hd := by
  rw [Bool.and_eq_true, Bool.and_eq_true, quB_iff, quB_iff]
  constructor
  · rintro ⟨a, b, c⟩
    exact (covB_iff a b).mp c
  · intro h
    have a : ∀ k ∈ A, k ∈ hd := fun k hk => (h k).mp (.inl hk)
    have b : ∀ k ∈ B, k ∈ hd := fun k hk => (h k).mp (.inr hk)
    exact ⟨a, b, (covB_iff a b).mpr h⟩
def twoL (hd : List (List Int)) (hear : List Int → List (List Int)) (g : List (List Int)) : List (List Int × List Int) :=
  (g.filter fun k => quB hd (hear k)).flatMap fun a => ((g.filter fun k => quB hd (hear k)).filter fun b => HT.lexLt a b && covB hd (hear a) (hear b)).map fun b => (a, b)
def dueL (hd : List (List Int)) (hear : List Int → List (List Int)) : List (List Int) → List (List Int × List Int)
  | [] => []
  | a :: r => ((r.filter fun b => quB hd (hear a) && (quB hd (hear b) && covB hd (hear a) (hear b))).map fun b => (a, b)) ++ dueL hd hear r
theorem two_due_at (hd : List (List Int)) (hear : List Int → List (List Int)) : ∀ (suf pre : List (List Int)), (pre ++ suf).Pairwise (fun x y => HT.lexLt x y = true) →
    ((suf.filter fun k => quB hd (hear k)).flatMap fun a => (((pre ++ suf).filter fun k => quB hd (hear k)).filter fun b => HT.lexLt a b && covB hd (hear a) (hear b)).map fun b => (a, b)) = dueL hd hear suf
  | [], _, _ => rfl
  | a :: r, pre, h => by
    obtain ⟨p1, p2, p3⟩ := List.pairwise_append.mp h
    have ih := two_due_at hd hear r (pre ++ [a]) (by rw [List.append_assoc]; exact h)
    rw [List.append_assoc] at ih
    have ih : ((r.filter fun k => quB hd (hear k)).flatMap fun a' => (((pre ++ a :: r).filter fun k => quB hd (hear k)).filter fun b => HT.lexLt a' b && covB hd (hear a') (hear b)).map fun b => (a', b)) = dueL hd hear r := ih
    show _ = ((r.filter fun b => quB hd (hear a) && (quB hd (hear b) && covB hd (hear a) (hear b))).map fun b => (a, b)) ++ dueL hd hear r
    cases c : quB hd (hear a) with
    | false =>
      rw [List.filter_cons_of_neg (by rw [c]; exact Bool.false_ne_true), ih]
      simp
    | true =>
      rw [List.filter_cons_of_pos (by rw [c]), List.flatMap_cons, ih]
      congr 2
      rw [List.filter_filter, List.filter_append]
      have e1 : pre.filter (fun b => (HT.lexLt a b && covB hd (hear a) (hear b)) && quB hd (hear b)) = [] := List.filter_eq_nil_iff.mpr fun x hx z => by
        rw [lex_asym (p3 x hx a List.mem_cons_self)] at z
        cases z
      rw [e1, List.nil_append, List.filter_cons_of_neg (by rw [lex_irr]; exact Bool.false_ne_true)]
      refine List.filter_congr fun b hb => ?_
      rw [List.rel_of_pairwise_cons p2 hb, Bool.true_and, Bool.true_and, Bool.and_comm]
theorem two_due {hd : List (List Int)} {hear : List Int → List (List Int)} {g : List (List Int)} (h : g.Pairwise fun x y => HT.lexLt x y = true) : twoL hd hear g = dueL hd hear g := two_due_at hd hear g [] h
end Zn
/-! Watchers that are said to be heard. -/
namespace Kx
open PySem PySem.Spec PyProof.Rows L2 Xa Xb Xc Xd Xs Xp Xm Xr Xl Xq Ya Yb Yc Yd Ye Yf Yr Zb Zn
abbrev sIsWtc : Stmt := top 35
abbrev sIsHeard : Stmt := top 36
abbrev sCkHeard : Stmt := top 39
/-- whether v is a watcher of the pieces ps -/
inductive Wt (K : PySem.W.Frag) (H : Hp) (ps : List (List Int)) (pl : Nat) : V → Bool → Prop
  | no {v : V} (h : Spot K H ps.length pl v false) : Wt K H ps pl v false
  | is {t : Addr} {x y : Int} (h : H t = some (.tup [.int x, .int y])) (hx : 0 ≤ x) (hx2 : x < ps.length) (hy : 0 ≤ y) (hy2 : y < pl) : Wt K H ps pl (.ref t) (decide ([x, y] ∈ wts ps))
inductive Wts (K : PySem.W.Frag) (H : Hp) (ps : List (List Int)) (pl : Nat) : List V → List Bool → Prop
  | nil : Wts K H ps pl [] []
  | cons {v : V} {b : Bool} {vs : List V} {bs : List Bool} (h : Wt K H ps pl v b) (t : Wts K H ps pl vs bs) : Wts K H ps pl (v :: vs) (b :: bs)
/-- whether v is a list of watchers, ascending -/
inductive Hd (K : PySem.W.Frag) (H : Hp) (ps : List (List Int)) (pl : Nat) : V → Bool → Prop
  | kind {v : V} (h : IsK K H v "list" false) : Hd K H ps pl v false
  | bad {a : Addr} {xs : List V} {bs : List Bool} (h : H a = some (.lst xs)) (hw : Wts K H ps pl xs bs) (no : bs.all id = false) (few : xs.length ≤ 100) : Hd K H ps pl (.ref a) false
  | good {a : Addr} {ws : List (Addr × List Int)} (h : TL H a ws) (hw : ∀ q ∈ ws, q.2 ∈ wts ps) (few : ws.length ≤ 100) : Hd K H ps pl (.ref a) (ascT (ws.map (·.2)))
section
variable {K : PySem.W.Frag} {H H' : Hp} {ps : List (List Int)} {pl : Nat}
theorem Wt.same (e : Same H H') {v : V} {b : Bool} : Wt K H ps pl v b → Wt K H' ps pl v b
  | .no h => .no (h.same e)
  | .is h a b c d => .is (e _ _ h) a b c d
theorem Wts.same (e : Same H H') : ∀ {vs : List V} {bs : List Bool}, Wts K H ps pl vs bs → Wts K H' ps pl vs bs
  | _, _, .nil => .nil
  | _, _, .cons h t => .cons (h.same e) (t.same e)
theorem Hd.same (e : Same H H') {v : V} {b : Bool} : Hd K H ps pl v b → Hd K H' ps pl v b
  | .kind h => .kind (isk_same e h)
  | .bad h hw no few => .bad (e _ _ h) (hw.same e) no few
  | .good h hw few => .good (h.same e) hw few
theorem Wts.get : ∀ {vs : List V} {bs : List Bool}, Wts K H ps pl vs bs → ∀ {i : Nat} {v : V}, vs[i]? = some v → ∃ b, bs[i]? = some b ∧ Wt K H ps pl v b
  | _, _, .nil, i, v, h => by simp at h
  | _, _, .cons h t, 0, v, e => ⟨_, rfl, by have e : _ = _ := Option.some.inj e; rw [← e]; exact h⟩
  | _, _, .cons h t, i + 1, v, e => t.get (by simpa using e)
theorem Wts.len : ∀ {vs : List V} {bs : List Bool}, Wts K H ps pl vs bs → bs.length = vs.length
  | _, _, .nil => rfl
  | _, _, .cons h t => congrArg Nat.succ t.len
/-- what a watcher is -/
theorem wts_is {ps : List (List Int)} {k : List Int} (h : k ∈ wts ps) : ∃ (i : Nat) (z : Int) (p : List Int), k = [(i : Int), z] ∧ i < ps.length ∧ ps[i]? = some p ∧ z ∈ p := by
  obtain ⟨i, p, z, h1, h2, rfl⟩ := mem_wtsN (t := 0) h
  exact ⟨i, z, p, by rw [Nat.zero_add], (List.getElem?_eq_some_iff.mp h1).1, h1, h2⟩
theorem wts_iff {ps : List (List Int)} {i : Nat} {p : List Int} (hp : ps[i]? = some p) (z : Int) : [(i : Int), z] ∈ wts ps ↔ z ∈ p := by
  constructor
  · intro h
    obtain ⟨j, z', p', e, _, h1, h2⟩ := wts_is h
    injection e with e1 e
    injection e with e2 _
    have : j = i := by omega
    subst this
    rw [hp] at h1
    rw [e2, Option.some.inj h1]
    exact h2
  · intro h
    have := wtsN_mem (t := 0) hp h
    rwa [Nat.zero_add] at this
/-- tuples that are watchers are such values -/
theorem wts_good {ws : List (Addr × List Int)} (T : TupsAt H ws) (hw : ∀ q ∈ ws, q.2 ∈ wts ps) (pc : ∀ p ∈ ps, ∀ z ∈ p, 0 ≤ z ∧ z < (pl : Int)) : Wts K H ps pl (ws.map fun q => V.ref q.1) (ws.map fun _ => true) := by
  induction ws with
  | nil => exact .nil
  | cons q ws ih =>
    refine .cons ?_ (ih (fun r hr => T r (List.mem_cons_of_mem _ hr)) fun r hr => hw r (List.mem_cons_of_mem _ hr))
    have hq := hw q List.mem_cons_self
    have ht := T q List.mem_cons_self
    obtain ⟨i, z, p, e, il, hp, hz⟩ := wts_is hq
    obtain ⟨z0, z1⟩ := pc p (List.mem_of_getElem? hp) z hz
    rw [e] at ht hq
    have h := Wt.is (K := K) (ps := ps) (pl := pl) (t := q.1) ht (by omega) (by omega) z0 z1
    rw [decide_eq_true hq] at h
    exact h
end
section
variable {P : Program} {w : World} {K : PySem.W.Frag} {mg : Str → Option Value} {base : Heap} {f C CN CS CW CP : Addr} {fd : FuncData}
def spIsWtc (K : PySem.W.Frag) (C : Addr) : Sp := fun xs H Q _ => ∃ (p l u : Addr) (pl : Nat) (rc : Int) (qs ks : List (Addr × List Int)) (v : V) (b : Bool), xs = [.ref p, .ref u, v] ∧ WebQ C H p l pl rc qs ∧ LL H u ks ∧ Wt K H (ks.map (·.2)) pl v b ∧ Q (.bl b) H
theorem scIsWtc : FnScope ["web", "plan", "value"] ["web", "plan", "value"] (defScope sIsWtc) := ⟨rfl, rfl, rfl, by decide +kernel, rfl, by decide +kernel, by decide +kernel⟩
theorem can_iswtc (D : Dfn K mg "is_watcher" sIsWtc) (B : Bi3 mg) (T : WTxt K mg C) (cS : Can P w K mg base CX0 3 "is_spot" ["value", "n", "places"] (spIsSpot K)) : Can P w K mg base CX0 4 "is_watcher" ["web", "plan", "value"] (spIsWtc K C) := by
  obtain ⟨f, fd, F, g⟩ := D.at_
  refine FnOk.can (F.ok scIsWtc (fun xs H Q E h => ?_) (fun cdv A outer s H vs Q E hr h => ?_)) F g fun _ _ _ _ _ _ us hl => match us, hl with | [_, _, _], _ => rfl
  · obtain ⟨p, l, u, pl, rc, qs, ks, v, b, rfl, _⟩ := h
    rfl
  · obtain ⟨p, l, u, pl, rc, qs, ks, v, b, rfl, W, L, hw, q⟩ := h
    refine ⟨_, PSs.nox <| pss_one <| ps_ret <| pe_and (pe_can cS hr pass0 <| pa_cons (pv 2) <| pa_cons (pe_bi call_len_seq B.len <| pa1 <| pv 1) <| pa1 <| pe_fld (pv 0) rfl) <|
      pe_one <| pe_cmpR op_in_seq (pe_ix ix_tup (pv 2) pe_int (fun _ _ => rfl)) (pe_ix ix_list (pv 1) (pe_ix ix_tup (pv 2) pe_int (fun _ _ => rfl)) (fun _ _ => rfl)) rfl, ?_⟩
    obtain ⟨dx, ob⟩ := W.wb.ob
    have kl : ((ks.map fun q => V.ref q.1).length : Int) = (ks.length : Int) := by rw [List.length_map]
    have kl2 : ((ks.map (·.2)).length : Int) = (ks.length : Int) := by rw [List.length_map]
    refine ⟨_, rfl, _, rfl, u, _, rfl, .inl (SqL.of L.1), ?_⟩
    rw [kl]
    cases hw with
    | no h =>
      rw [kl2] at h
      exact ⟨_, rfl, p, C, dx, _, _, rfl, ob, T.cl, T.nP, wf_pl _ _ _, v, ks.length, pl, false, rfl, h, _, rfl, iteF q⟩
    | @is t x y h hx hx2 hy hy2 =>
      have sp := Spot.two (K := K) (n := (ks.length : Int)) (pl := (pl : Int)) h (.is x) (.is y)
      rw [kl2] at hx2
      rw [inR_t hx (by omega), inR_t hy (by omega)] at sp
      have at0 : ∀ (x y : V), atI [x, y] 0 = some x := fun x y => atI_nat (j := 0) rfl
      have at1 : ∀ (x y : V), atI [x, y] 1 = some y := fun x y => atI_nat (j := 1) rfl
      obtain ⟨i, rfl⟩ : ∃ i : Nat, x = (i : Int) := ⟨x.toNat, by omega⟩
      obtain ⟨k, hk⟩ : ∃ k, ks[i]? = some k := ⟨ks[i]'(by omega), by simp⟩
      have hkk := L.2 k (List.mem_of_getElem? hk)
      have hat : atI (ks.map fun q => V.ref q.1) (i : Int) = some (.ref k.1) := atI_nat (by rw [List.getElem?_map, hk]; rfl)
      refine ⟨_, rfl, p, C, dx, _, _, rfl, ob, T.cl, T.nP, wf_pl _ _ _, _, ks.length, pl, true, rfl, sp, _, rfl, iteT ?_⟩
      refine ⟨_, rfl, t, _, 1, .int y, rfl, rfl, SqT.of h, at1 _ _, _, rfl, _, rfl, t, _, 0, .int i, rfl, rfl, SqT.of h, at0 _ _, u, _, i, .ref k.1, rfl, rfl, SqL.of L.1, hat, k.1, _, rfl, .inl (SqL.of hkk), rfl, ?_, ?_⟩
      · exact List.all_eq_true.mpr fun z hz => by
          obtain ⟨j, _, rfl⟩ := List.mem_map.mp hz
          rfl
      · have e : inV (V.int y) (k.2.map V.int) = decide ([(i : Int), y] ∈ wts (ks.map (·.2))) := by
          rw [Bool.eq_iff_iff, decide_eq_true_iff, wts_iff (p := k.2) (by rw [List.getElem?_map, hk]; rfl)]
          unfold inV
          rw [List.any_map, List.any_eq_true]
          constructor
          · rintro ⟨z, hz, e⟩
            have e : (z == y) = true := e
            rwa [← eq_of_beq e]
          · intro hz
            exact ⟨y, hz, beq_self_eq_true y⟩
        show Q (.bl (if false = true then _ else inV (V.int y) (k.2.map V.int))) H
        rw [if_neg Bool.false_ne_true, e]
        exact q
/-! ### ascending tuples -/
def spAscT : Sp := fun xs H Q _ => ∃ (a : Addr) (ws : List (Addr × List Int)), xs = [.ref a] ∧ TL H a ws ∧ ws.length ≤ 100 ∧ ∀ H', Same H H' → Q (.bl (ascT (ws.map (·.2)))) H'
theorem can_asct (D : Dfn K mg "ascends" sAscends) (B : Bi3 mg) : Can P w K mg base CX0 1 "ascends" ["values"] spAscT := by
  obtain ⟨f, fd, F, g⟩ := D.at_
  refine FnOk.can (F.ok scAscends (fun xs H Q E h => ?_) (fun cdv A outer s H vs Q E hr h => ?_)) F g fun _ _ _ _ _ _ us hl => match us, hl with | [_], _ => rfl
  · obtain ⟨a, l, rfl, _⟩ := h
    rfl
  · obtain ⟨a, ws, rfl, T, hl, q⟩ := h
    refine ⟨_, PSs.nox (pss_one (ps_ret (pe_bi (cr_all rfl) B.all (pa1 (pe_lc (own := [("one", 1), ("other", 2)]) (g := gTup K 2 (gCons (gName 1) (gCons (gName 2) gNil))) (tt := tYes) rfl scAscends.nd (pi_zip (by rfl) B.zip (pa_cons (pv 0) (pa1 (pe_slice sl_list (pv 0) (po_some pe_int) po_none)))) (blkOk_by (own := [("one", 1), ("other", 2)]) (N := ["values", "one", "other"]) (sc := defScope sAscends) (by decide +kernel))
      (fun _ _ _ _ _ => pg_tup (by rfl) (pgs_cons (pg_name (i := 1) scAscends.nd rfl (Or.inl rfl)) (pgs_cons (pg_name (i := 2) scAscends.nd rfl (Or.inl rfl)) pgs_nil))) (fun _ _ _ _ _ => pts_nil) (fun _ _ _ _ _ => pe_cmpR (r := rLtT K) (op_ltT (Nat.lt_of_le_of_lt (Nat.le_add_right _ 64) hr.units)) (pv 1) (pv 2) (nomark _))))))), ?_⟩
    refine ⟨_, rfl, _, rfl, 1, rfl, a, _, rfl, SqL.of T.li, fun b nb => ?_⟩
    rw [cut1]
    have s1 := upd_same_as (o := .lst ((ws.map fun q => V.ref q.1).drop 1)) nb
    refine ⟨a, b, _, _, rfl, SqL.of (s1 _ _ T.li), SqL.of upd_same, fun D nD => ?_⟩
    have hb : (upd H b (.lst ((ws.map fun q => V.ref q.1).drop 1))) b = some (.lst ((ws.map fun q => V.ref q.1).drop 1)) := upd_same
    have T1 := T.same s1
    generalize upd H b (.lst ((ws.map fun q => V.ref q.1).drop 1)) = H1 at s1 hb T1 nD ⊢
    refine lc_it (walk_zip (K := K) (a := a) (b := b) (xs := ws.map fun q => V.ref q.1) (ys := (ws.map fun q => V.ref q.1).drop 1) (n := ws.length - 1) (by rw [List.length_drop, List.length_map]; omega)) (fun i H' => H' D = some (.lst (((List.range i).map (ascT2 (ws.map (·.2)))).map V.bl)) ∧ Same H1 H') ⟨upd_same, upd_same_as nD⟩ (fun i H' _ ⟨_, s⟩ => ⟨SqL.of (s _ _ T1.li), SqL.of (s _ _ hb)⟩) ?_ ?_
    · rintro i x H' H2 hi ⟨hd, sm⟩ ⟨Tp, vx, vy, rfl, nT, rfl, hx, hy⟩
      have hx : (ws.map fun q => V.ref q.1)[i]? = some vx := hx
      have hy : ((ws.map fun q => V.ref q.1).drop 1)[i]? = some vy := hy
      rw [List.getElem?_map] at hx
      rw [List.getElem?_drop, List.getElem?_map] at hy
      have i1 : i < ws.length := by omega
      have i2 : 1 + i < ws.length := by omega
      have e1 : ws[i]? = some ws[i] := List.getElem?_eq_getElem i1
      have e2 : ws[1 + i]? = some ws[1 + i] := List.getElem?_eq_getElem i2
      rw [e1] at hx
      rw [e2] at hy
      have t1 := T1.tu _ (List.mem_of_getElem? e1)
      have t2 := T1.tu _ (List.mem_of_getElem? e2)
      have hx : V.ref ws[i].1 = vx := Option.some.inj hx
      have hy : V.ref ws[1 + i].1 = vy := Option.some.inj hy
      have e1' : (ws.map (·.2))[i]? = some ws[i].2 := by rw [List.getElem?_map, e1] <;> rfl
      have e2' : (ws.map (·.2))[1 + i]? = some ws[1 + i].2 := by rw [List.getElem?_map, e2] <;> rfl
      generalize ws[i] = p1 at hx t1 e1'
      generalize ws[1 + i] = p2 at hy t2 e2'
      subst hx hy
      have hd2 : (upd H' Tp (.tup [.ref p1.1, .ref p2.1])) D = some (.lst (((List.range i).map (ascT2 (ws.map (·.2)))).map V.bl)) := by
        rw [upd_ne (ne_of_none hd nT)]
        exact hd
      have sT := upd_same_as (o := .tup [.ref p1.1, .ref p2.1]) nT
      refine ⟨Tp, _, rfl, SqT.of upd_same, rfl, .ref p1.1, _, rfl, .ref p2.1, _, rfl, rfl, rfl, lc_yes2 ?_⟩
      refine ⟨_, rfl, _, rfl, p1.1, p2.1, p1.2, p2.2, rfl, rfl, SqT.of (sT _ _ (sm _ _ t1)), SqT.of (sT _ _ (sm _ _ t2)), _, hd2, ?_, ?_, more_same (more_same sm (sm.free nT)) nD⟩
      · rw [List.length_map, List.length_map, List.length_range, sizeLine_eq]
        omega
      · have ea : ascT2 (ws.map (·.2)) i = HT.lexLt p1.2 p2.2 := by
          unfold ascT2
          rw [e1', show i + 1 = 1 + i by omega, e2']
        rw [upd_same, List.range_succ, List.map_append, List.map_append]
        show some (HO.lst (_ ++ [V.bl (HT.lexLt p1.2 p2.2)])) = some (HO.lst (_ ++ [V.bl (ascT2 (ws.map (·.2)) i)]))
        rw [ea]
    · rintro H' ⟨hd, sm⟩
      refine ⟨D, (List.range (ws.length - 1)).map (ascT2 (ws.map (·.2))), rfl, SqL.of hd, ?_⟩
      have := ascT_all (ws.map (·.2))
      rw [List.length_map] at this
      rw [← this]
      exact q H' (s1.trans sm)
/-! ### is_heard, check_heard -/
def spIsHeard (K : PySem.W.Frag) (C : Addr) : Sp := fun xs H Q _ => ∃ (p l u : Addr) (pl : Nat) (rc : Int) (qs ks : List (Addr × List Int)) (v : V) (b : Bool), xs = [.ref p, .ref u, v] ∧ WebQ C H p l pl rc qs ∧ LL H u ks ∧ (∀ q ∈ ks, Pc pl q.2) ∧ Hd K H (ks.map (·.2)) pl v b ∧ ∀ H', Same H H' → Q (.bl b) H'
abbrev nIsHeard : List Str := ["web", "plan", "value", "item"]
theorem scIsHeard : FnScope nIsHeard ["web", "plan", "value"] (defScope sIsHeard) := ⟨rfl, rfl, rfl, by decide +kernel, rfl, by decide +kernel, by decide +kernel⟩
theorem can_isheard (D : Dfn K mg "is_heard" sIsHeard) (B : Bi3 mg) (cI : Can P w K mg base CX0 4 "is_watcher" ["web", "plan", "value"] (spIsWtc K C)) (cA : Can P w K mg base CX0 1 "ascends" ["values"] spAscT) : Can P w K mg base CX0 5 "is_heard" ["web", "plan", "value"] (spIsHeard K C) := by
  obtain ⟨f, fd, F, g⟩ := D.at_
  refine FnOk.can (F.ok scIsHeard (fun xs H Q E h => ?_) (fun cdv A outer s H vs Q E hr h => ?_)) F g fun _ _ _ _ _ _ us hl => match us, hl with | [_, _, _], _ => rfl
  · obtain ⟨p, l, u, pl, rc, qs, ks, v, b, rfl, _⟩ := h
    rfl
  · obtain ⟨p, l, u, pl, rc, qs, ks, v, b, rfl, W, L, pc, hd, q⟩ := h
    refine ⟨_, PSs.nox <| pss_cons (ps_if (pt_not <| pt_val <| pe_bi call_kd B.isi <| pa_cons (pv 2) <| pa1 <| pe_tyv "list" B.list) (pss_one <| ps_ret pe_bl) pss_nil) <|
      pss_cons (ps_if (pt_not <| pt_val <| pe_bi (cr_all rfl) B.all <| pa1 <| pe_lc (own := [("item", 3)]) (g := gName 3) (tt := tYes) rfl scIsHeard.nd (pi_list <| pv 2) (blkOk_by (own := [("item", 3)]) (N := nIsHeard) (sc := defScope sIsHeard) (by decide +kernel))
        (fun _ _ _ _ _ => pg_name (i := 3) scIsHeard.nd rfl (Or.inl rfl)) (fun _ _ _ _ _ => pts_nil) (fun _ _ _ _ _ => pe_can cI hr pass0 <| pa_cons (pv 0) <| pa_cons (pv 1) <| pa1 <| pv 3)) (pss_one <| ps_ret pe_bl) pss_nil) <|
      pss_one <| ps_ret <| pe_can cA (hr.mono (by decide)) pass0 <| pa1 <| pv 2, ?_⟩
    cases hd with
    | kind h => exact ⟨_, rfl, _, "list", false, rfl, h, false, rfl, iteT (q H (Same.refl H))⟩
    | @bad a xs bs h hw no few =>
      refine ⟨_, rfl, _, "list", true, rfl, isk_lst h _ (by decide +kernel), true, rfl, iteF ?_⟩
      refine ⟨_, rfl, a, rfl, ⟨_, SqL.of h⟩, fun D nD => ?_⟩
      refine lc_list (K := K) (a := a) (xs := xs) (fun j H' => H' D = some (.lst ((bs.take j).map V.bl)) ∧ Same H H') ⟨by rw [upd_same]; rfl, upd_same_as nD⟩ (fun j H' _ ⟨_, s⟩ => SqL.of (s _ _ h)) ?_ ?_
      · rintro j y H' hy ⟨hD, sm⟩
        obtain ⟨b, hb, wy⟩ := hw.get hy
        have bl := (List.getElem?_eq_some_iff.mp hb).1
        have := hw.len
        refine ⟨rfl, lc_yes2 ⟨_, rfl, _, rfl, _, rfl, p, l, u, pl, rc, qs, ks, y, b, rfl, W.same sm, LL.same sm L, wy.same sm, _, hD, ?_, ?_, more_same sm nD⟩⟩
        · rw [List.length_map, List.length_take, sizeLine_eq]
          omega
        · rw [upd_same, List.take_add_one, hb, List.map_append]
          rfl
      · rintro H' ⟨hD, sm⟩
        rw [List.take_of_length_le (Nat.le_of_eq hw.len)] at hD
        refine ⟨D, bs, rfl, SqL.of hD, _, rfl, ?_⟩
        rw [no]
        exact iteT (q H' sm)
    | @good a ws T hwt few =>
      have pcs : ∀ p ∈ ks.map (·.2), ∀ z ∈ p, 0 ≤ z ∧ z < (pl : Int) := fun p hp => by
        obtain ⟨r, hr2, rfl⟩ := List.mem_map.mp hp
        exact (pc r hr2).2
      have hw := wts_good (K := K) (pl := pl) T.tu hwt pcs
      refine ⟨_, rfl, _, "list", true, rfl, isk_lst T.li _ (by decide +kernel), true, rfl, iteF ?_⟩
      refine ⟨_, rfl, a, rfl, ⟨_, SqL.of T.li⟩, fun D nD => ?_⟩
      refine lc_list (K := K) (a := a) (xs := ws.map fun q => V.ref q.1) (fun j H' => H' D = some (.lst (((ws.map fun _ => true).take j).map V.bl)) ∧ Same H H') ⟨by rw [upd_same]; rfl, upd_same_as nD⟩ (fun j H' _ ⟨_, s⟩ => SqL.of (s _ _ T.li)) ?_ ?_
      · rintro j y H' hy ⟨hD, sm⟩
        obtain ⟨b, hb, wy⟩ := hw.get hy
        have bl := (List.getElem?_eq_some_iff.mp hb).1
        have l2 : (ws.map fun _ => true).length = ws.length := List.length_map ..
        refine ⟨rfl, lc_yes2 ⟨_, rfl, _, rfl, _, rfl, p, l, u, pl, rc, qs, ks, y, b, rfl, W.same sm, LL.same sm L, wy.same sm, _, hD, ?_, ?_, more_same sm nD⟩⟩
        · rw [List.length_map, List.length_take, sizeLine_eq]
          omega
        · rw [upd_same, List.take_add_one, hb, List.map_append]
          rfl
      · rintro H' ⟨hD, sm⟩
        rw [List.take_of_length_le (Nat.le_of_eq hw.len)] at hD
        refine ⟨D, (ws.map fun _ => true), rfl, SqL.of hD, _, rfl, ?_⟩
        have e : (ws.map fun _ => true).all id = true := List.all_eq_true.mpr fun z hz => by
          obtain ⟨_, _, rfl⟩ := List.mem_map.mp hz
          rfl
        rw [e]
        exact iteF ⟨_, rfl, a, ws, rfl, T.same sm, few, fun H2 s2 => q H2 (sm.trans s2)⟩
def spCkHeard (K : PySem.W.Frag) (C CH : Addr) : Sp := fun xs H Q E => ∃ (p l u : Addr) (pl : Nat) (rc : Int) (qs ks : List (Addr × List Int)) (v : V) (b : Bool), xs = [.ref p, .ref u, v] ∧ WebQ C H p l pl rc qs ∧ LL H u ks ∧ (∀ q ∈ ks, Pc pl q.2) ∧ Hd K H (ks.map (·.2)) pl v b ∧
  (b = false → ∀ H', Same H H' → Ref E H' CH v) ∧ (b = true → ∀ H', Same H H' → Q .non H')
theorem scCkHeard : FnScope ["web", "plan", "heard"] ["web", "plan", "heard"] (defScope sCkHeard) := ⟨rfl, rfl, rfl, by decide +kernel, rfl, by decide +kernel, by decide +kernel⟩
theorem can_ckheard {CH : Addr} (D : Dfn K mg "check_heard" sCkHeard) (M : Xc.XMake P w K mg base "InvalidHeard" CH "value") (cI : Can P w K mg base CX0 5 "is_heard" ["web", "plan", "value"] (spIsHeard K C)) : Can P w K mg base (L2.CX P w) 6 "check_heard" ["web", "plan", "heard"] (spCkHeard K C CH) := by
  obtain ⟨f, fd, F, g⟩ := D.at_
  refine FnOk.can (F.ok scCkHeard (fun xs H Q E h => ?_) (fun cdv A outer s H vs Q E hr h => ?_)) F g fun _ _ _ _ _ _ us hl => match us, hl with | [_, _, _], _ => rfl
  · obtain ⟨p, l, u, pl, rc, qs, ks, v, b, rfl, _⟩ := h
    rfl
  · obtain ⟨p, l, u, pl, rc, qs, ks, v, b, rfl, W, L, pc, hd, no, yes⟩ := h
    refine ⟨_, pss_one <| ps_if (pt_not <| pt_val <| pe_can cI hr pass0 <| pa_cons (pv 0) <| pa_cons (pv 1) <| pa1 <| pv 2) (pss_one <| ps_rz rfl M (hr.mono (by decide)) (takes_of rfl rfl rfl rfl) (by rfl) (pv 2)) pss_nil, ?_⟩
    refine ⟨_, rfl, _, rfl, _, rfl, p, l, u, pl, rc, qs, ks, v, b, rfl, W, L, pc, hd, fun H1 s1 => ⟨_, rfl, ?_⟩⟩
    cases b with
    | false => exact iteT ⟨_, rfl, no rfl H1 s1⟩
    | true => exact iteF (yes rfl H1 s1)
end
end Kx
/-! where. -/
namespace Kx
open PySem PySem.Spec PyProof.Rows L2 Xa Xb Xc Xd Xs Xp Xm Xr Xl Xq Ya Yb Yc Yd Ye Yf Yr Zb Zi Zl Zn
abbrev sWhere : Stmt := top 30
section
variable {P : Program} {w : World} {K : PySem.W.Frag} {mg : Str → Option Value} {base : Heap} {f C CN CH CW CP : Addr} {fd : FuncData}
/-- what two sets of lists of tuples are, new in the heap -/
theorem two_of {H : Hp} {a b s1 s2 : Addr} {zs ys L1 L2 : List (Addr × List Int)} {U : List (List Int)} (Ta : TL H a zs) (Tb : TL H b ys) (fU : U.length < 32) (ha : ∀ k ∈ Ks zs, k ∈ U) (hb : ∀ k ∈ Ks ys, k ∈ U) (n1 : H s1 = none) (sub1 : ∀ p ∈ L1, p ∈ zs) (n2 : (upd H s1 (SetTO P w s1 L1)) s2 = none) (sub2 : ∀ p ∈ L2, p ∈ ys) :
    Two K P w (upd (upd H s1 (SetTO P w s1 L1)) s2 (SetTO P w s2 L2)) s1 s2 L1 L2 U := by
  have u1 := upd_same_as (o := SetTO P w s1 L1) n1
  have u2 := upd_same_as (o := SetTO P w s2 L2) n2
  have ne : s1 ≠ s2 := fun e => by
    rw [← e, upd_same] at n2
    cases n2
  refine ⟨by rw [upd_ne ne, upd_same], upd_same, ne, fun q hq => SqT.of (u2 _ _ (u1 _ _ (Ta.tu q (sub1 q hq)))), fun q hq => SqT.of (u2 _ _ (u1 _ _ (Tb.tu q (sub2 q hq)))), fU, fun k hk => ?_⟩
  rcases hk with hk | hk
  · obtain ⟨q, hq, rfl⟩ := List.mem_map.mp hk
    exact ha _ (List.mem_map.mpr ⟨q, sub1 q hq, rfl⟩)
  · obtain ⟨q, hq, rfl⟩ := List.mem_map.mp hk
    exact hb _ (List.mem_map.mpr ⟨q, sub2 q hq, rfl⟩)
theorem set_keys {zs L : List (Addr × List Int)} (sub : ∀ p ∈ L, p ∈ zs) (all : ∀ p ∈ zs, p.2 ∈ L.map (·.2)) (k : List Int) : k ∈ Ks L ↔ k ∈ Ks zs := by
  constructor
  · intro h
    obtain ⟨q, hq, rfl⟩ := List.mem_map.mp h
    exact List.mem_map.mpr ⟨q, sub q hq, rfl⟩
  · intro h
    obtain ⟨q, hq, rfl⟩ := List.mem_map.mp h
    exact all q hq
def spWhere (K : PySem.W.Frag) (C CN CH CW CP : Addr) : Sp := fun xs H Q E => ∃ wv v hv lv rv, xs = [wv, v, hv, lv, rv] ∧ ((NoWeb K C H wv ∧ Ref E H CW wv) ∨ ∃ (p l : Addr) (pl : Nat) (rc : Int) (qs : List (Addr × List Int)) (b : Bool), wv = .ref p ∧ WebQ C H p l pl rc qs ∧ IsPl K H pl v b ∧
  (b = false → ∀ H', Same H H' → Ref E H' CP v) ∧ (b = true → ∃ (u : Addr) (ks : List (Addr × List Int)) (bh : Bool), v = .ref u ∧ LL H u ks ∧ 1 ≤ ks.length ∧ ks.length ≤ 300 ∧ (∀ q ∈ ks, Pc pl q.2) ∧ Hd K H (ks.map (·.2)) pl hv bh ∧ (bh = false → ∀ H', Same H H' → Ref E H' CH hv) ∧
  (bh = true → ∃ ol, Num K H lv ol ∧ (Xp.inR ol 0 3 = false → ∀ H', Same H H' → Ref E H' CN lv) ∧ (Xp.inR ol 0 3 = true → ∃ br, IsK K H rv "bool" br ∧ (br = false → ∀ H', Same H H' → Ref E H' CN rv) ∧
  (br = true → ∃ (rg : Bool) (a : Addr) (lies : Int) (hs : List (Addr × List Int)), rv = .bl rg ∧ lv = .int lies ∧ hv = .ref a ∧ TL H a hs ∧ (Ks hs).Nodup ∧ (∀ k ∈ Ks hs, k ∈ wts (ks.map (·.2))) ∧ (∀ k ∈ grid ks.length pl, (hearL (qs.map (·.2)) rg ks.length (wts (ks.map (·.2))) k).length + hs.length < 32) ∧
    ∀ (r : Addr) (ws : List (Addr × List Int)) (H' : Hp), Same H H' → H r = none → TL H' r ws → ws.map (·.2) = (grid ks.length pl).filter (fun k => decide ((symN (hearL (qs.map (·.2)) rg ks.length (wts (ks.map (·.2))) k) (Ks hs) : Int) ≤ lies)) → Q (.ref r) H')))))
abbrev nWhere : List Str := ["web", "plan", "heard", "lies", "ring", "table", "spot"]
theorem scWhere : FnScope nWhere ["web", "plan", "heard", "lies", "ring"] (defScope sWhere) := ⟨rfl, rfl, rfl, by decide +kernel, rfl, by decide +kernel, by decide +kernel⟩
theorem ok_where {dvs : List V} {kws : List (Str × V)} (F : FunD K "where" "where" (defArgs sWhere) (defBody sWhere) (defScope sWhere) dvs kws f fd) (B : Bi3 mg) (M : Xc.XMake P w K mg base "InvalidNumber" CN "value") (cP : Can P w K mg base (L2.CX P w) 6 "check_plan" ["web", "plan"] (spCkPlan K C CW CP))
    (cHd : Can P w K mg base (L2.CX P w) 6 "check_heard" ["web", "plan", "heard"] (spCkHeard K C CH)) (cB : Can P w K mg base CX0 2 "is_between" ["value", "low", "high"] (spBetween K)) (c3 : Can P w K mg base (L2.CX P w) 4 "check_ring" ["ring"] (spCkRing K CN)) (cH : Can P w K mg base CX0 6 "hearing" ["web", "plan", "ring"] (spHearing C)) :
    FnOk P w K mg base (L2.CX P w) 7 f fd ["web", "plan", "heard", "lies", "ring"] (spWhere K C CN CH CW CP) := by
  refine F.ok scWhere (fun xs H Q E h => ?_) (fun cdv A outer s H vs Q E hr h => ?_)
  · obtain ⟨wv, v, hv, lv, rv, rfl, _⟩ := h
    rfl
  · obtain ⟨wv, v, hv, lv, rv, rfl, h⟩ := h
    have hu1 := Nat.lt_of_le_of_lt (Nat.add_le_add_left (show 1 ≤ 64 by decide) _) hr.units
    have pass : Passes (L2.CX P w) (cxOf (L2.CX P w) P w K mg base nWhere "where" (defScope sWhere) f cdv A outer s H E) E := passes_call (takes_of rfl rfl rfl rfl) fun _ _ _ _ z => z
    refine ⟨_, pss_cons (ps_expr <| pe_can cP hr pass <| pa_cons (pv 0) <| pa1 <| pv 1) <| pss_cons (ps_expr <| pe_can cHd hr pass <| pa_cons (pv 0) <| pa_cons (pv 1) <| pa1 <| pv 2) <|
      pss_cons (ps_if (pt_not <| pt_val <| pe_can cB (hr.mono (by decide)) pass0 <| pa_cons (pv 3) <| pa_cons pe_int <| pa1 pe_int) (pss_one <| ps_rz rfl M (hr.mono (by decide)) (takes_of rfl rfl rfl rfl) (by rfl) (pv 3)) pss_nil) <|
      pss_cons (ps_expr <| pe_can c3 (hr.mono (by decide)) pass <| pa1 <| pv 4) <|
      pss_cons (ps_set (i := 5) scWhere.nd rfl (.inr rfl) <| pe_can cH hr pass0 <| pa_cons (pv 0) <| pa_cons (pv 1) <| pa1 <| pv 4) <|
      pss_one <| ps_lock <| ps_ret <| pe_lc (own := [("spot", 6)]) (g := gName 6) rfl scWhere.nd (pi_keys <| pv 5) (blkOk_by (own := [("spot", 6)]) (N := nWhere) (sc := defScope sWhere) (by decide +kernel))
        (fun _ _ _ _ _ => pg_name (i := 6) scWhere.nd rfl (Or.inl rfl)) (fun _ _ _ _ _ => pts_one <| pt_cmpR op_le (pe_bi call_lenN B.len <| pa1 <| pe_op (r := rSet2 K P w fun a b => a != b) (op_setXor hr.units) (pe_ty (r := rSetOfT K P w) (cr_setOfT rfl hr.units) B.set <| pa1 <| pe_dget hu1 (pv 5) (pv 6) (fun _ _ => rfl)) (pe_ty (r := rSetOfT K P w) (cr_setOfT rfl hr.units) B.set <| pa1 <| pv 2)) (pv 3) (nomark _)) (fun _ _ _ _ _ => pv 6), ?_⟩
    rcases h with ⟨nw, no⟩ | ⟨p, l, pl, rc, qs, b, rfl, W, ip, no1, yes1⟩
    · exact ⟨_, rfl, _, rfl, wv, v, rfl, .inl ⟨nw, no⟩⟩
    · refine ⟨_, rfl, _, rfl, _, v, rfl, .inr ⟨p, l, pl, rc, qs, b, rfl, W.wb, ip, no1, fun bt H1 s1 => ?_⟩⟩
      obtain ⟨u, ks, bh, rfl, L, n1, n3, pc, hd, no2, yes2⟩ := yes1 bt
      refine ⟨_, rfl, _, rfl, _, rfl, p, l, u, pl, rc, qs, ks, hv, bh, rfl, W.same s1, LL.same s1 L, pc, hd.same s1, fun b2 H2 s2 => no2 b2 H2 (s1.trans s2), fun b2 H2 s2 => ?_⟩
      obtain ⟨ol, N, no3, yes3⟩ := yes2 b2
      have s02 := s1.trans s2
      refine ⟨_, rfl, lv, ol, 0, 3, rfl, num_same s02 N, _, rfl, ?_⟩
      cases hb3 : Xp.inR ol 0 3 with
      | false => exact iteT ⟨_, rfl, no3 hb3 H2 s02⟩
      | true =>
        refine iteF ?_
        obtain ⟨br, I, no4, yes4⟩ := yes3 hb3
        refine ⟨_, rfl, rv, br, rfl, isk_same s02 I, fun b4 => ?_, fun b4 => no4 b4 H2 s02⟩
        obtain ⟨rg, a, lies, hs, rfl, rfl, rfl, Th, hnd, hsub, fewB, q⟩ := yes4 b4
        refine ⟨_, rfl, _, rfl, _, rfl, p, l, u, pl, rc, qs, ks, rg, rfl, W.same s02, LL.same s02 L, n1, n3, pc, fun d ad H3 TT => ?_⟩
        have s03 := s02.trans TT.same
        have dk : H3 d = some (.dT (entsOf (grid ks.length pl) ad)) := TT.di
        refine ⟨d, _, dk, trivial, fun od => ?_⟩
        have ndG := grid_nodup ks.length pl
        have adn : ∀ k ∈ grid ks.length pl, ad k ≠ d := fun k hk => by
          obtain ⟨zs, T, _⟩ := TT.el k hk
          exact ne_of T.li dk (by intro z; cases z)
        have fz : (upd H3 d (.frz od (.dT (entsOf (grid ks.length pl) ad)))) d = some (.frz od (.dT (entsOf (grid ks.length pl) ad))) := upd_same
        have s4 : ∀ c o, H3 c = some o → c ≠ d → (upd H3 d (.frz od (.dT (entsOf (grid ks.length pl) ad)))) c = some o := fun c o e n => by rw [upd_ne n]; exact e
        have ks4 : ∀ {c : Addr} {o : HO}, H3 c = some o → (∀ z, o ≠ .dT z) → (upd H3 d (.frz od (.dT (entsOf (grid ks.length pl) ad)))) c = some o := fun {c o} e n => s4 c o e fun z => by
          rw [z, dk] at e
          exact n _ (Option.some.inj e).symm
        have Th4 : TL (upd H3 d (.frz od (.dT (entsOf (grid ks.length pl) ad)))) a hs := ⟨ks4 (s03 _ _ Th.li) (fun _ z => nomatch z), fun r hr2 => ks4 (s03 _ _ (Th.tu r hr2)) (fun _ z => nomatch z)⟩
        have El4 : ∀ k ∈ grid ks.length pl, ∃ zs, TL (upd H3 d (.frz od (.dT (entsOf (grid ks.length pl) ad)))) (ad k) zs ∧ Ks zs = hearL (qs.map (·.2)) rg ks.length (wts (ks.map (·.2))) k := fun k hk => by
          obtain ⟨zs, T, e⟩ := TT.el k hk
          exact ⟨zs, ⟨ks4 T.li (fun _ z => nomatch z), fun r hr2 => ks4 (T.tu r hr2) (fun _ z => nomatch z)⟩, e⟩
        have nf4 : ∀ c, (upd H3 d (.frz od (.dT (entsOf (grid ks.length pl) ad)))) c = none → H c = none := fun c e => by
          cases z : H c with
          | none => rfl
          | some o =>
            have e2 := s03 _ _ z
            by_cases cd : c = d
            · rw [cd, fz] at e
              cases e
            · rw [s4 c o e2 cd] at e
              cases e
        -- behind the lock
        have back : ∀ {H' : Hp}, Same (upd H3 d (.frz od (.dT (entsOf (grid ks.length pl) ad)))) H' → Same H (upd H' d (.dT (entsOf (grid ks.length pl) ad))) := fun {H'} sm c o e => by
          have e3 := s03 _ _ e
          by_cases cd : c = d
          · rw [cd, upd_same]
            rw [cd, dk] at e3
            exact e3
          · rw [upd_ne cd]
            exact sm _ _ (s4 c o e3 cd)
        generalize upd H3 d (.frz od (.dT (entsOf (grid ks.length pl) ad))) = H4 at fz s4 Th4 El4 nf4 back ⊢
        have wn : (wts (ks.map (·.2))).Nodup := wtsN_nodup 0 _ fun p0 hp => by
          obtain ⟨r, hr2, rfl⟩ := List.mem_map.mp hp
          exact (pc r hr2).1.imp fun z => Int.ne_of_lt z
        have gfew : (grid ks.length pl).length ≤ 3000 := by
          have h := wts_len (m := 10) (ps := List.replicate ks.length (rangeI pl)) fun p hp => by
            rw [List.eq_of_mem_replicate hp, rangeI, List.length_map, List.length_range]
            have := W.pp
            omega
          rw [List.length_replicate] at h
          exact Nat.le_trans h (Nat.mul_le_mul_left 10 n3)
        refine ⟨_, rfl, d, od, rfl, .inr ⟨_, fz, fun D nD => ?_⟩⟩
        refine lc_it (walk_keysT (d := d) (o := od) (kvs := entsOf (grid ks.length pl) ad)) (fun i H' => ∃ ws, TL H' D ws ∧ ws.map (·.2) = ((grid ks.length pl).take i).filter (fun k => decide ((symN (hearL (qs.map (·.2)) rg ks.length (wts (ks.map (·.2))) k) (Ks hs) : Int) ≤ lies)) ∧ Same H4 H') ⟨[], ⟨upd_same, fun q hq => nomatch hq⟩, rfl, upd_same_as nD⟩ (fun i H' _ ⟨_, _, _, sm⟩ => sm _ _ fz) ?_ ?_
        · rintro i x H' H'' lt ⟨ws, Tw, ew, sm⟩ ⟨rfl, kk, vv, qa, hkv, rfl, hq⟩
          obtain ⟨k, hk, rfl, rfl⟩ : ∃ k, (grid ks.length pl)[i]? = some k ∧ kk = kI k ∧ vv = .ref (ad k) := by
            rw [entsOf, List.getElem?_map] at hkv
            cases z : (grid ks.length pl)[i]? with
            | none =>
              rw [z] at hkv
              cases hkv
            | some k =>
              rw [z] at hkv
              have e := Option.some.inj hkv
              exact ⟨k, rfl, (congrArg Prod.fst e).symm, (congrArg Prod.snd e).symm⟩
          rw [kI_v] at hq
          have kin := List.mem_of_getElem? hk
          obtain ⟨zs, Tz, ez⟩ := El4 k kin
          have Tz' := Tz.same sm
          have dg : DGet H'' d (.ref qa) (some (.ref (ad k))) := .inr ⟨_, kI k, qa, .inr ⟨od, sm _ _ fz⟩, rfl, by rw [kI_v]; exact hq, (ents_val kin).symm⟩
          have zsub : ∀ k' ∈ Ks zs, k' ∈ wts (ks.map (·.2)) := fun k' h => by
            rw [ez] at h
            exact (List.mem_filter.mp h).1
          have znd : (Ks zs).Nodup := by
            rw [ez]
            exact wn.sublist List.filter_sublist
          have sm32 := fewB k kin
          rw [← ez, List.length_map] at sm32
          have Th' := Th4.same sm
          refine ⟨rfl, _, rfl, _, rfl, d, _, rfl, dg, ad k, zs, rfl, SqL.of Tz'.li, fun r hr2 => SqT.of (Tz'.tu r hr2), by omega, fun a1 L1 na1 sub1 all1 => ?_⟩
          have u1 := upd_same_as (o := SetTO P w a1 L1) na1
          refine ⟨_, rfl, a, hs, rfl, SqL.of (Th'.same u1).li, fun r hr2 => SqT.of ((Th'.same u1).tu r hr2), by omega, fun a2 L2 na2 sub2 all2 => ?_⟩
          have u2 := upd_same_as (o := SetTO P w a2 L2) na2
          have TW := two_of (U := Ks zs ++ Ks hs) Tz' Th' (by rw [List.length_append, List.length_map, List.length_map]; exact sm32) (fun _ h => List.mem_append_left _ h) (fun _ h => List.mem_append_right _ h) na1 sub1 na2 sub2 (K := K)
          refine ⟨a1, a2, L1, L2, _, rfl, rfl, TW, fun a3 l na3 nl l32 cl => ?_⟩
          have u3 := upd_same_as (o := SetNO a3 l.length) na3
          have s3' := u1.trans (u2.trans u3)
          have cnt : l.length = symN (hearL (qs.map (·.2)) rg ks.length (wts (ks.map (·.2))) k) (Ks hs) := by
            rw [← ez]
            refine cnt_xor znd hnd nl fun k' => ?_
            rw [cl k', decide_eq_decide.mpr (set_keys sub1 all1 k'), decide_eq_decide.mpr (set_keys sub2 all2 k')]
          refine ⟨a3, l.length, rfl, upd_same, by omega, _, rfl, _, _, rfl, rfl, ?_⟩
          have Tw3 := Tw.same s3'
          have nxt : ((grid ks.length pl).take (i + 1)) = (grid ks.length pl).take i ++ [k] := by rw [List.take_add_one, hk] <;> rfl
          refine ⟨_, rfl, ?_⟩
          show if decide (((l.length : Nat) : Int) ≤ lies) = true then _ else _
          rw [cnt] at u3 s3' Tw3 ⊢
          refine lc_if (fun c => ?_) fun c => ?_
          · refine ⟨_, rfl, _, Tw3.li, ?_, ws ++ [(qa, k)], ⟨by rw [upd_same, List.map_append] <;> rfl, fun r hr2 => ?_⟩, ?_, fun c' o e => ?_⟩
            · rw [List.length_map]
              have h := congrArg List.length ew
              rw [List.length_map] at h
              have h2 := List.length_filter_le (fun k => decide ((symN (hearL (qs.map (·.2)) rg ks.length (wts (ks.map (·.2))) k) (Ks hs) : Int) ≤ lies)) ((grid ks.length pl).take i)
              rw [List.length_take] at h2
              exact small_ (by omega)
            · rcases List.mem_append.mp hr2 with y | y
              · have t := Tw3.tu r y
                rw [upd_ne (ne_of t Tw3.li (by intro z; cases z))]
                exact t
              · rw [List.mem_singleton.mp y]
                have t := s3' _ _ hq
                rw [upd_ne (ne_of t Tw3.li (by intro z; cases z))]
                exact t
            · rw [List.map_append, ew, nxt, List.filter_append, List.filter_cons, c]
              rfl
            · rw [upd_ne (ne_of_none e nD)]
              exact s3' _ _ (sm _ _ e)
          · refine ⟨ws, Tw3, ?_, sm.trans s3'⟩
            rw [ew, nxt, List.filter_append, List.filter_cons, c]
            simp
        · rintro H' ⟨ws, Tw, ew, sm⟩
          rw [entsOf, List.length_map, List.take_length] at ew
          have Dd : D ≠ d := ne_of Tw.li (sm _ _ fz) (by intro z; cases z)
          refine ⟨sm _ _ fz, q D ws _ (back sm) (nf4 D nD) ⟨by rw [upd_ne Dd]; exact Tw.li, fun r hr2 => ?_⟩ ew⟩
          have t := Tw.tu r hr2
          rw [upd_ne (ne_of t (sm _ _ fz) (by intro z; cases z))]
          exact t
end
end Kx
/-! Own ground, part ZP: a set comprehension, whatever its members are: O the new set as it is tracked, r what add does to it. -/
namespace Zp
open PySem PySem.Spec PyProof.Rows L2
abbrev newO (w : World) : Obj := { cls := .type "set", dict := none, data := .set #[] 0 (.fresh 0 0 (!w.params.followText "set-order")) }
/-- the reading -/
def tSet (O : Addr → HO) (r : V → List V → Hp → VK → Prop) (wi : TI) (g : TG) (tt : TT) (te : TE) (vs : List Nat) : TE := fun σ H Q => wi σ H fun J Ha => ∀ D, Ha D = none →
  ∃ W : Nat → Nat → Hp → Prop, (∃ m, W 0 m (upd Ha D (O D))) ∧ ∀ i m Hb, W i m Hb →
    (J.stop i Hb ∧ Q (.ref D) Hb) ∨ (J.go i Hb ∧ ∃ Nx : Hp → Prop, (∀ Hc, Nx Hc → ∃ m', m' < m ∧ W (i + 1) m' Hc) ∧
      ∀ x Hc, J.yld i Hb x Hc → g x (wipe σ vs) Hc fun σ2 Hd => wipe σ2 vs = wipe σ vs ∧ tt σ2 Hd fun b He => if b = true then te σ2 He fun y Hf => r (.ref D) [y] Hf fun _ Hg => Nx Hg else Nx He)
section
variable {X : Cx} {O : Addr → HO} {r : V → List V → Hp → VK → Prop} {elt tg iter : Expr} {ifs : List Expr} {scope : Scope} {own : List (PySem.Str × Nat)} {pos : Pos} {wi : TI} {g : TG} {tt : TT} {te : TE}
/-- a block over the new set -/
abbrev Bl (X : Cx) (scope : Scope) (s : Shared) (H : Hp) (C : Addr) (cl : List (PySem.Str × Addr)) (fp : List Addr) : Cx := X.blk s H scope (compEnvC scope cl C X.env) fp
theorem pe_set (calm : X.calm = true) (nd : X.N.Nodup) (hO : ∀ (H : Hp) (h : Heap), ObjOk X.prog X.w H (h.push (newO X.w)) h.objs.size (O h.objs.size))
    (hr : ∀ s H C cl fp, MtR (Bl X scope s H C cl fp) "set.add" r) (hi : PI X tg iter wi) (bl : BlkOk X.N X.env.scope scope own)
    (hg : ∀ s H C cl fp, PG (Bl X scope s H C cl fp) tg g) (ht : ∀ s H C cl fp, PTs (Bl X scope s H C cl fp) ifs tt) (he : ∀ s H C cl fp, PE (Bl X scope s H C cl fp) elt te)
    (fold : ∀ x, foldedSetIterable iter X.env x = pure x := by intro _; rfl) : PE X (.SetComp elt [⟨tg, iter, ifs, 0⟩] scope pos) (tSet O r wi g tt te (own.map (·.2))) := by
  constructor
  intro pins s σ H Q inv h
  rw [PpSet.eval_SetComp]
  have cells : ∀ y ∈ scope.names, y.2 = .free → ∃ c, X.env.cells.lookup y.1 = some c := by
    intro y hy e
    exact (bl.free y hy e).elim (fun k => inv.ok.has _ (.inl k)) fun k => inv.ok.has _ (.inr k)
  apply wpAny_comprehension_free (use := none) rfl fold (closure_ok cells) bl.kind (fun y hy e => (bl.uniq y hy).trans (congrArg some e))
  refine thn (hi.run pins s σ H _ inv h) fun itv sa run => thn run fun _ sb ⟨it, fp, tn, J, Hb, e, invb, T, tb, fpb, rest⟩ => ?_
  subst e
  apply PpSet.newSet_ok
  apply newEnv_comp
  obtain ⟨D, eD⟩ : ∃ D, D = sb.heap.objs.size := ⟨_, rfl⟩
  have freeD : Hb D = none := invb.hok.fresh (Nat.le_of_eq eD.symm)
  obtain ⟨W, ⟨m0, start⟩, turn⟩ := rest D freeD
  rw [← eD]
  obtain ⟨sc, esc⟩ : ∃ sc : Shared, sc = { sb with heap := sb.heap.push (newO X.w) } := ⟨_, rfl⟩
  obtain ⟨Hc, eHc⟩ : ∃ Hc, Hc = upd Hb D (O D) := ⟨_, rfl⟩
  have heap : sc.heap = sb.heap.push (newO X.w) := by rw [esc]
  have invc : Inv X pins σ Hc sc := by
    rw [eHc, esc]
    exact invb.laid (t' := sb.toks) (fun b o e => Heap.get?_push_of_some _ e) (Nat.le_of_eq eD.symm) (by rw [eD]; exact hO _ _)
  have small : ∀ b ∈ fp, b < sb.heap.objs.size := fun b hb => let ⟨_, e, _⟩ := T.obj _ _ tb b hb; Heap.lt_size e
  have ftc : ∀ b ∈ fp, FpOk X pins Hc b ∧ b < sc.heap.objs.size := by
    intro b hb
    have lt := small b hb
    constructor
    · obtain ⟨z, more⟩ := fpb b hb
      refine ⟨?_, more⟩
      rw [eHc, upd_ne (Nat.ne_of_lt (eD ▸ lt))]
      exact z
    · rw [heap, Heap.size_push]
      exact Nat.lt_succ_of_lt lt
  have tc : tn 0 sc.heap := T.keep _ _ _ tb fun b _ o e => heap ▸ Heap.get?_push_of_some _ e
  obtain ⟨cl, ecl⟩ : ∃ cl, cl = cellsFrom (sc.heap.objs.size + 1) scope.names (cloFrom X.env.cells scope.names []) := ⟨_, rfl⟩
  obtain ⟨C, eC⟩ : ∃ C, C = sc.heap.objs.size := ⟨_, rfl⟩
  have invd := block_start invc bl nd ftc
  rw [← ecl, ← eC] at invd
  have gg := hg sc Hc C cl fp
  have gt := ht sc Hc C cl fp
  have ge := he sc Hc C cl fp
  have gr := hr sc Hc C cl fp
  have none0 : ∀ b ∈ fp, Hc b = none := fun b hb => (ftc b hb).1.1
  obtain ⟨sd, esd⟩ : ∃ sd : Shared, sd = { sc with heap := pushCells (sc.heap.push { cls := .type "dict", data := .dict #[] }) scope.names } := ⟨_, rfl⟩
  rw [← esd] at invd
  obtain ⟨ev, hev⟩ : ∃ ev, ev = compEnvC scope cl C X.env := ⟨_, rfl⟩
  have evC : ev.locals = C := by
    rw [hev]
    rfl
  show codeAny _ _ (.compStart (.SetComp elt [⟨tg, iter, ifs, 0⟩] scope pos) 0 (.ref it) (.ref D) (compEnvC scope (cellsFrom (sb.heap.push (newO X.w)).objs.size.succ scope.names (cloFrom X.env.cells scope.names [])) (sb.heap.push (newO X.w)).objs.size X.env)) (compPost _ X.A X.xe none _ (.ref D) (sb.heap.push (newO X.w)).objs.size) { sb with heap := pushCells ((sb.heap.push (newO X.w)).push { cls := .type "dict", data := .dict #[] }) scope.names }
  rw [← heap, show sc.heap.objs.size.succ = sc.heap.objs.size + 1 from rfl, ← ecl, ← eC, ← hev, show ({ sb with heap := pushCells (sc.heap.push { cls := .type "dict", data := .dict #[] }) scope.names } : Shared) = sd by rw [esd, esc]]
  unfold Bl at gg gt ge gr
  rw [← hev] at gg gt ge gr invd
  have td : tn 0 sd.heap := T.keep _ _ _ tc fun b _ o e => by
    rw [esd]
    exact pushCells_keeps _ _ _ _ (Heap.get?_push_of_some _ e)
  have fpOk : ∀ {σ' : L2.St} {H' : Hp} {s' : Shared}, Inv (X.blk sc Hc scope ev fp) [] σ' H' s' → (∀ b ∈ fp, H' b = none) → ∀ b ∈ fp, FpOk (X.blk sc Hc scope ev fp) [] H' b := by
    intro σ' H' s' iv free b hb
    exact ⟨free b hb, (iv.ok.exf b hb).1, iv.ok.exfs b hb, .inl hb, fun x c e => (iv.ok.exf b hb).2 x c e, fun p hp => absurd (show p ∈ ([] : List (Addr × Obj)) ++ [] from hp) (by simp)⟩
  have whole : codeAny (model X.prog X.w) X.A (.compLoop (.SetComp elt [⟨tg, iter, ifs, 0⟩] scope pos) 0 (.ref it) (.ref D) ev) (compPost (model X.prog X.w) X.A X.xe none (EP X pins σ Q) (.ref D) C) sd := by
    apply PpSet.compLoopS_any (I := fun n s' => ∃ i H', Inv (X.blk sc Hc scope ev fp) [] (wipe σ (own.map (·.2))) H' s' ∧ tn i s'.heap ∧ (∀ b ∈ fp, H' b = none) ∧ W i n H') (n := m0) (h := ⟨0, Hc, invd, td, none0, eHc ▸ start⟩)
    intro n se ⟨i, He, inve, te', free, we⟩
    rcases turn i n He we with ⟨stop, told⟩ | ⟨go, Nx, less, step⟩
    · refine thnF (T.done (X.blk sc Hc scope ev fp) rfl rfl rfl calm i [] se _ He (fun _ _ => False) inve (fpOk inve free) te' stop) fun res sf ⟨er, invf⟩ => ?_
      subst er
      have back : Inv X pins σ He sf := invc.call' (ch := fp) invf.os invf.base invf.hok invf.bare fun b hb => let ⟨_, h2, _, h4, h5, h6⟩ := (ftc b hb).1; ⟨h4, h2, h5, h6⟩
      have CN : He C = none := by
        rw [← evC]
        exact invf.free
      obtain ⟨names, hn, _⟩ := invf.loc
      rw [show (X.blk sc Hc scope ev fp).env.locals = C from evC] at hn
      refine ⟨names, hn, fun h' sb' => ?_⟩
      obtain ⟨f0, f1, _, f3, f4, f5⟩ := invc.fpOk (H' := He) (Nat.le_of_eq eC.symm) CN
      exact ⟨.ref D, He, back.turned (t' := sf.toks) (fun b o hb e => (sb'.2 b hb).trans e) f0 f1 f3 f4 f5, rfl, told⟩
    · refine thnF (T.item (X.blk sc Hc scope ev fp) rfl rfl rfl calm i [] se _ He (fun _ _ => False) inve (fpOk inve free) te' go) fun res sf ⟨u, er, more⟩ => ?_
      subst er
      refine thnF more fun _ sg ⟨x, Hg, invg, rx, yg, tg', freeg⟩ => ?_
      have pin := invg.pinned (fpOk invg freeg) (T.obj _ _ tg')
      refine thnF (gg.run _ sg _ Hg x u _ pin rx (step x Hg yg)) fun _ sh ⟨σh, Hh, invh, same, qh⟩ => ?_
      refine thnF (gt.run _ sh σh Hh _ invh qh) fun b si ⟨Hi, invi, qi⟩ => ?_
      have close : ∀ {s' : Shared} {H' : Hp}, Inv (X.blk sc Hc scope ev fp) ([] ++ pinsAt fp sg.heap) σh H' s' → Nx H' →
          ∃ m, m < n ∧ ∃ i H', Inv (X.blk sc Hc scope ev fp) [] (wipe σ (own.map (·.2))) H' s' ∧ tn i s'.heap ∧ (∀ b ∈ fp, H' b = none) ∧ W i m H' := by
        intro s' H' iv nx
        obtain ⟨m', lt, w'⟩ := less H' nx
        have stay : ∀ b ∈ fp, ∀ o, sg.heap.get? b = some o → s'.heap.get? b = some o ∧ H' b = none := by
          intro b hb o e
          obtain ⟨z1, z2, _⟩ := iv.pin (b, o) (List.mem_append_right _ (List.mem_append_right _ (mem_pinsAt hb e)))
          exact ⟨z1, z2⟩
        refine ⟨m', lt, i + 1, H', (iv.unpinned (pins := [])).weak ?_ ?_, T.keep _ _ _ tg' fun b hb o e => (stay b hb o e).1, ?_, w'⟩
        · rw [← same, wipe_length]
        · intro j v e
          rw [← same] at e
          exact (wipe_some e).1
        · intro b hb
          obtain ⟨o, e, _⟩ := T.obj _ _ tg' b hb
          exact (stay b hb o e).2
      cases b with
      | false =>
        rw [if_neg Bool.false_ne_true] at qi ⊢
        exact close invi qi
      | true =>
        rw [if_pos rfl] at qi ⊢
        refine thnF (ge.run _ si σh Hi _ invi qi) fun z sj ⟨y, Hj, invj, ry, add⟩ => ?_
        refine thnF (gr _ sj σh Hj (.ref D) [y] (.ref D) [z] _ invj rfl (.cons ry .nil) add) fun _ sk ⟨_, Hk, invk, _, nx⟩ => close invk nx
  exact PpSet.codeAny_compStart_set whole (T.self X.A 0 _ _ _ td whole)
end
end Zp
/-! Own ground, part ZQ: `for k, v in d.items()`, d a dict with tuple keys. -/
namespace Zq
open PySem PySem.Spec PyProof.Rows L2 DT
/-- the pairs of the locked dict at d, each a tuple of its own that names the key's tuple -/
def Itx (d : Addr) (o : Obj) (kvs : List (List Key × V)) : It :=
  ⟨fun i H => H d = some (.frz o (.dT kvs)) ∧ i < kvs.length, fun i H x H' => ∃ (T : Addr) (k : List L2.Key) (v : V) (q : Addr), kvs[i]? = some (k, v) ∧ x = .ref T ∧ H T = none ∧ H q = some (.tup (k.map kV)) ∧ H' = upd H T (.tup [.ref q, v]),
    fun i H => H d = some (.frz o (.dT kvs)) ∧ kvs.length ≤ i⟩
def iItx (td : TE) : TI := fun σ H R => td σ H fun x H1 => ∃ d o kvs, x = .ref d ∧ H1 d = some (.frz o (.dT kvs)) ∧ R (Itx d o kvs) H1
theorem walk_itemsT {d : Addr} {o : Obj} {kvs : List (List Key × V)} : Walk (Itx d o kvs) kvs.length (fun H => H d = some (.frz o (.dT kvs)))
    (fun i H x H' => ∃ (T : Addr) (k : List L2.Key) (v : V) (q : Addr), kvs[i]? = some (k, v) ∧ x = .ref T ∧ H T = none ∧ H q = some (.tup (k.map kV)) ∧ H' = upd H T (.tup [.ref q, v])) :=
  ⟨fun _ _ lt q => ⟨q, lt⟩, fun _ q => ⟨q, Nat.le_refl _⟩, fun _ _ _ _ _ _ y => y⟩
section
variable {X : Cx} {pins : List (Addr × Obj)} {σ : L2.St} {H : Hp} {s : Shared} {d : Addr} {o : Obj} {kvs : List (List Key × V)}
theorem full (I : Inv X pins σ H s) (h : H d = some (.frz o (.dT kvs))) : (d == sysModules) = false ∧ ∃ (es : Array DictEntry) (ep : Nat), Raw s.heap d es ep ∧ o.data = .dict es ep ∧ es.size = kvs.length ∧
    ∀ (i : Nat) (k : List L2.Key) (v : V), kvs[i]? = some (k, v) → ∃ (en : DictEntry) (q : Addr), es[i]? = some en ∧ en.key = .ref q ∧ H q = some (.tup (k.map kV)) ∧ RelV v en.val := by
  obtain ⟨at_, z, no, xs, pr, o2, es, ep, ho, hx, dat, ent, _⟩ := I.hok d _ h
  have same : o2 = o := by
    rw [at_] at ho
    exact (Option.some.inj ho).symm
  subst same
  refine ⟨no, es, ep, ⟨o2, at_, hx, dat⟩, dat, ?_, fun i k v e => ?_⟩
  · rw [size_of_entries ent]
    exact (Paired.length pr).symm
  · obtain ⟨b, hb, e1, e2, e3⟩ := paired_get pr e
    have en := entry_at ent i
    rw [hb] at en
    exact ⟨_, b.2.1, en, rfl, e2, e3⟩
end
section
variable {P : Program} {w : World} {K : PySem.W.Frag} {d : Addr} {o : Obj} {kvs : List (List Key × V)} {elts : List Expr} {kk : Nat} {tpos : Pos} {es : Array DictEntry} {ep : Nat}
theorem turn_itemsT (it : Addr) (dat : o.data = .dict es ep) : Turn P w K (.Tuple elts kk tpos) (Itx d o kvs) [it] it (fun i h => ∃ a b, IsItemIter h it d i kvs.length ep a b) := by
  constructor
  · simp
  · intro i h ⟨a, b, e⟩ c hc
    rw [List.mem_singleton.mp hc]
    exact ⟨_, e, fun v z => nomatch z⟩
  · intro i h h' ⟨a, b, e⟩ k
    exact ⟨a, b, k it (List.mem_singleton.mpr rfl) _ e⟩
  · intro X hP hw hK calm i pins s σ H E I fp ⟨a, b, at_⟩ ⟨hd, lt⟩
    subst hP hw hK
    obtain ⟨no, es2, ep2, raw, dat2, sz, ent⟩ := full I hd
    obtain ⟨rfl, rfl⟩ := dict_ep dat dat2
    obtain ⟨⟨k, v⟩, hkv⟩ : ∃ p, kvs[i]? = some p := ⟨kvs[i], List.getElem?_eq_getElem lt⟩
    obtain ⟨en, q, hen, key, hq, val⟩ := ent i k v hkv
    have li : i < es2.size := by omega
    have een : es2[i] = en := by
      rw [Array.getElem?_eq_getElem li] at hen
      exact Option.some.inj hen
    rw [← sz] at at_
    have small : it < s.heap.objs.size := Heap.lt_size at_
    refine nextI at_ raw li fun h1 out tup _ stay => ⟨_, rfl, ?_⟩
    refine wpAny_letOwnedTupleGo_items (s := { s with heap := h1 }) out fun h2 again but => ?_
    have tup2 : h2.get? s.heap.objs.size = some { cls := .type "tuple", data := .seq #[es2[i].key, es2[i].val] } := (but.2 _ (Nat.ne_of_gt small)).trans tup
    have fresh : ObjOk X.prog X.w (upd H s.heap.objs.size (.tup [.ref q, v])) h2 s.heap.objs.size (.tup [.ref q, v]) := by
      refine ⟨(by show 2 ≤ sizeLine; decide), [es2[i].key, es2[i].val], .cons ?_ (.cons ?_ .nil), ⟨_, tup2, rfl, _, rfl⟩⟩
      · rw [een, key]
        rfl
      · rw [een]
        exact val
    have J : Inv X pins σ (upd H s.heap.objs.size (.tup [.ref q, v])) { s with heap := h2 } := I.turnedNew (t' := s.toks) (ch := [it]) (fun c u hc e => (but.2 c (by simpa using hc)).trans (stay c u (by simpa using hc) e)) fp (Nat.le_refl _) fresh
    refine ⟨.ref s.heap.objs.size, _, J, rfl, ⟨_, k, v, q, hkv, rfl, I.hok.fresh (Nat.le_refl _), hq, rfl⟩, ⟨es2[i].key, es2[i].val, ?_⟩, fun c hc => ?_⟩
    · rw [← sz]
      exact again
    · rw [List.mem_singleton.mp hc, upd_ne (Nat.ne_of_lt small)]
      exact (fp it (List.mem_singleton.mpr rfl)).1
  · intro X hP hw hK calm i pins s σ H E I fp ⟨a, b, at_⟩ ⟨hd, ge⟩
    subst hP hw hK
    obtain ⟨no, es2, ep2, raw, dat2, sz, _⟩ := full I hd
    obtain ⟨rfl, rfl⟩ := dict_ep dat dat2
    obtain ⟨f0, f1, f2, f3, f4, f5⟩ := fp it (List.mem_singleton.mpr rfl)
    rw [← sz] at at_
    exact endI (I.ok.hd calm) at_ raw (by omega) fun h1 but => ⟨rfl, I.turned (t' := s.toks) (fun c u hc e => but c u hc e) f0 f1 f3 f4 f5⟩
  · intro A i s Q E ⟨_, _, e⟩ h
    exact PySem.W.kcp_self e h
end
section
variable {X : Cx} {e : Expr} {td : TE} {apos cpos tpos : Pos} {elts : List Expr} {kk : Nat}
theorem pi_itemsT (he : PE X e td) (hb : attributeBase e "items" X.env (eval e X.env) = eval e X.env := by rfl) (hl : (apos.endLine == cpos.line) = true := by rfl) : PI X (.Tuple elts kk tpos) (.Call (.Attribute e "items" apos) [] [] cpos) (iItx td) := by
  constructor
  intro pins s σ H R I h
  refine wpAny_Call_method (T := "dict") (id := "dict.items") hb rfl hl F.plainAttrs_dict F.slot_dict_items F.type_dict_items (thn (he.run pins s σ H _ I h) fun u s1 ⟨x, H1, I1, rx, d, o, kvs, ex, hd, q⟩ => ?_)
  subst ex
  obtain rfl := (show u = Value.ref d from rx)
  obtain ⟨no, es, ep, raw, dat, sz, _⟩ := full I1 hd
  have noDict : ∀ a, Value.ref d = .ref a → ∃ ob, s1.heap.get? a = some ob ∧ ob.dict = none := by
    intro a ea
    injection ea with ea
    subst ea
    obtain ⟨ob, h1, h2, _⟩ := raw
    exact ⟨ob, h1, h2.2.1⟩
  refine ⟨raw.typeIs, noDict, ?_⟩
  have I2 : Inv X pins σ H1 { s1 with heap := s1.heap.push { cls := .type "dict_items", data := .fields #[.ref d] } } := I1.kept (t' := s1.toks) fun c u z => Heap.get?_push_of_some _ z
  have fin : wpAny (model X.prog X.w) X.A (pyIter (.ref s1.heap.objs.size)) (PIE X pins σ (.Tuple elts kk tpos) R) X.xe { s1 with heap := s1.heap.push { cls := .type "dict_items", data := .fields #[.ref d] } } := by
    refine iterI (d := d) ⟨_, Heap.get?_push_size _ rfl, rfl, rfl⟩ (raw.push _) (pi_one (tk := s1.toks) I2 _ (turn_itemsT _ dat) ⟨.none, .none, ?_⟩ q)
    rw [← sz]
    exact Heap.get?_push_size _ rfl
  show wpAny _ _ (callWith cpos (.builtin "dict.items") [.ref d] [] []) _ X.xe s1
  exact method_meetsIn F.slot_dict_items F.entry_dict_items rfl (PySem.evalArgs_none ⟨rfl, raw.typeIs, F.args_dict_items_1 _, _, meetsItems (es := es) (ep := ep) no, ⟨raw, fin⟩⟩)
end
end Zq
/-! needs. -/
namespace Kx
open PySem PySem.Spec PyProof.Rows L2 Xa Xb Xc Xd Xs Xp Xm Xr Xl Xq Ya Yb Yc Yd Ye Yf Yr Zb Zi Zl Zn
abbrev sIsNeeds : Stmt := top 34
abbrev sCkNeeds : Stmt := top 38
def needB : Option Int → Option Int → Bool
  | some a, o => Xp.inR (some a) 1 3 && Xp.inR o 0 (2 * a)
  | none, _ => false
section
variable {P : Program} {w : World} {K : PySem.W.Frag} {mg : Str → Option Value} {base : Heap} {f CX : Addr} {fd : FuncData}
/-- whether a value is needs -/
inductive Nds (K : PySem.W.Frag) (H : Hp) : V → Bool → Prop
  | kind {v : V} (h : IsK K H v "tuple" false) : Nds K H v false
  | size {t : Addr} {xs : List V} (h : H t = some (.tup xs)) (hn : xs.length ≠ 2) : Nds K H (.ref t) false
  | two {t : Addr} {x y : V} {ox oy : Option Int} (h : H t = some (.tup [x, y])) (hx : Num K H x ox) (hy : Num K H y oy) : Nds K H (.ref t) (needB ox oy)
theorem Nds.same {H H' : Hp} (e : Same H H') {v : V} {b : Bool} : Nds K H v b → Nds K H' v b
  | .kind h => .kind (isk_same e h)
  | .size h hn => .size (e _ _ h) hn
  | .two h hx hy => .two (e _ _ h) (num_same e hx) (num_same e hy)
theorem Nds.good {H : Hp} {t : Addr} {a b : Int} (h : H t = some (.tup [.int a, .int b])) (a1 : 1 ≤ a) (a3 : a ≤ 3) (b0 : 0 ≤ b) (b1 : b ≤ 2 * a) : Nds K H (.ref t) true := by
  have e : needB (some a) (some b) = true := by
    show (Xp.inR (some a) 1 3 && Xp.inR (some b) 0 (2 * a)) = true
    rw [inR_t a1 a3, inR_t b0 b1]
    rfl
  have n : Nds K H (.ref t) (needB (some a) (some b)) := .two h (.is a) (.is b)
  rw [e] at n
  exact n
def spIsNeeds (K : PySem.W.Frag) : Sp := fun xs H Q _ => ∃ v b, xs = [v] ∧ Nds K H v b ∧ Q (.bl b) H
theorem scIsNeeds : FnScope ["value"] ["value"] (defScope sIsNeeds) := ⟨rfl, rfl, rfl, by decide +kernel, rfl, by decide +kernel, by decide +kernel⟩
theorem can_isneeds (D : Dfn K mg "is_needs" sIsNeeds) (B : Bi2 mg) (cB : Can P w K mg base CX0 2 "is_between" ["value", "low", "high"] (spBetween K)) : Can P w K mg base CX0 3 "is_needs" ["value"] (spIsNeeds K) := by
  obtain ⟨f, fd, F, g⟩ := D.at_
  refine FnOk.can (F.ok scIsNeeds (fun xs H Q E h => ?_) (fun cdv A outer s H vs Q E hr h => ?_)) F g fun _ _ _ _ _ _ us hl => match us, hl with | [_], _ => rfl
  · obtain ⟨v, b, rfl, _⟩ := h
    rfl
  · obtain ⟨v, b, rfl, S, q⟩ := h
    refine ⟨_, PSs.nox (pss_cons (ps_if (PW.pt (pw_or (pt_not (pt_val (pe_bi call_kd B.isi (pa_cons (pv 0) (pa1 (pe_tyv "tuple" B.tuple)))))) (pw_or1 (pt_cmpR op_ne (pe_bi call_len_seq B.len (pa1 (pv 0))) pe_int (nomark _))))) (pss_one (ps_ret pe_bl)) pss_nil)
      (pss_one (ps_ret (pe_and (pe_can cB hr pass0 (pa_cons (pe_ix ix_tup (pv 0) pe_int (fun _ _ => rfl)) (pa_cons pe_int (pa1 pe_int))))
        (pe_one (pe_can cB hr pass0 (pa_cons (pe_ix ix_tup (pv 0) pe_int (fun _ _ => rfl)) (pa_cons pe_int (pa1 (pe_op op_mul pe_int (pe_ix ix_tup (pv 0) pe_int (fun _ _ => rfl)))))))))))), ?_⟩
    cases S with
    | kind h => exact ⟨_, rfl, v, "tuple", false, rfl, h, false, rfl, iteT (iteT q)⟩
    | @size t xs h hn =>
      refine ⟨_, rfl, _, "tuple", true, rfl, isk_tup h _ (by decide +kernel), true, rfl, iteF ⟨_, rfl, t, xs, rfl, .inr (SqT.of h), rfl, _, rfl, ?_⟩⟩
      have e : decide (V.int (xs.length : Int) = V.int 2) = false := decide_eq_false fun z => hn (by injection z with z; omega)
      show if (!decide (V.int (xs.length : Int) = V.int 2)) = true then _ else _
      rw [e]
      exact iteT q
    | @two t x y ox oy h hx hy =>
      refine ⟨_, rfl, _, "tuple", true, rfl, isk_tup h _ (by decide +kernel), true, rfl, iteF ⟨_, rfl, t, _, rfl, .inr (SqT.of h), rfl, _, rfl, iteF ?_⟩⟩
      refine ⟨_, rfl, t, _, 0, x, rfl, rfl, SqT.of h, atI_nat (j := 0) rfl, x, ox, 1, 3, rfl, hx, _, rfl, ?_⟩
      cases hx with
      | is a =>
        cases e : Xp.inR (some a) 1 3 with
        | false =>
          rw [show needB (some a) oy = false by show (Xp.inR (some a) 1 3 && _) = false; rw [e]; rfl] at q
          exact iteF q
        | true =>
          rw [show needB (some a) oy = Xp.inR oy 0 (2 * a) by show (Xp.inR (some a) 1 3 && _) = _; rw [e]; rfl] at q
          exact iteT ⟨_, rfl, t, _, 1, y, rfl, rfl, SqT.of h, atI_nat (j := 1) rfl, _, rfl, t, _, 0, .int a, rfl, rfl, SqT.of h, atI_nat (j := 0) rfl, _, _, rfl, rfl, .inl ⟨by decide, by decide⟩, y, oy, 0, 2 * a, rfl, hy, q⟩
      | _ => exact iteF q
/-- check_needs -/
def spCkNeeds (K : PySem.W.Frag) (CX : Addr) : Sp := fun xs H Q E => ∃ v b, xs = [v] ∧ Nds K H v b ∧ (b = true → Q .non H) ∧ (b = false → Ref E H CX v)
theorem scCkNeeds : FnScope ["needs"] ["needs"] (defScope sCkNeeds) := ⟨rfl, rfl, rfl, by decide +kernel, rfl, by decide +kernel, by decide +kernel⟩
theorem can_ckneeds (D : Dfn K mg "check_needs" sCkNeeds) (M : Xc.XMake P w K mg base "InvalidNeeds" CX "value") (cI : Can P w K mg base CX0 3 "is_needs" ["value"] (spIsNeeds K)) : Can P w K mg base (L2.CX P w) 4 "check_needs" ["needs"] (spCkNeeds K CX) := by
  obtain ⟨f, fd, F, g⟩ := D.at_
  refine FnOk.can (F.ok scCkNeeds (fun xs H Q E h => ?_) (fun cdv A outer s H vs Q E hr h => ?_)) F g fun _ _ _ _ _ _ us hl => match us, hl with | [_], _ => rfl
  · obtain ⟨v, b, rfl, _⟩ := h
    rfl
  · obtain ⟨v, b, rfl, S, yes, no⟩ := h
    refine ⟨_, pss_one (ps_if (pt_not (pt_val (pe_can cI hr pass0 (pa1 (pv 0))))) (pss_one (ps_rz rfl M (hr.mono (by decide)) (takes_of rfl rfl rfl rfl) (by rfl) (pv 0))) pss_nil), ?_⟩
    refine ⟨_, rfl, v, b, rfl, S, b, rfl, ?_⟩
    cases b with
    | true => exact iteF (yes rfl)
    | false => exact iteT ⟨_, rfl, no rfl⟩
end
end Kx
/-! Own ground, part ZR: a set comprehension gone through. -/
namespace Zp
open PySem PySem.Spec PyProof.Rows L2
theorem set_it {O : Addr → HO} {r : V → List V → Hp → VK → Prop} {J : It} {n : Nat} {G : Hp → Prop} {Y : Nat → Hp → V → Hp → Prop} (hw : Walk J n G Y) {g : TG} {tt : TT} {te : TE} {vs : List Nat} {σ : L2.St} {Ha : Hp} {D : Addr} {Qd : Hp → Prop} (Pv : Nat → Hp → Prop)
    (h0 : Pv 0 (upd Ha D (O D))) (hl : ∀ i H, i ≤ n → Pv i H → G H)
    (hs : ∀ i x H H', i < n → Pv i H → Y i H x H' → g x (wipe σ vs) H' fun σ2 H2 => wipe σ2 vs = wipe σ vs ∧ tt σ2 H2 fun b H3 => if b = true then te σ2 H3 fun y H4 => r (.ref D) [y] H4 fun _ H5 => Pv (i + 1) H5 else Pv (i + 1) H3)
    (hd : ∀ H, Pv n H → Qd H) :
    ∃ W : Nat → Nat → Hp → Prop, (∃ m, W 0 m (upd Ha D (O D))) ∧ ∀ i m Hb, W i m Hb → (J.stop i Hb ∧ Qd Hb) ∨ (J.go i Hb ∧ ∃ Nx : Hp → Prop, (∀ Hc, Nx Hc → ∃ m', m' < m ∧ W (i + 1) m' Hc) ∧
      ∀ x Hc, J.yld i Hb x Hc → g x (wipe σ vs) Hc fun σ2 Hd => wipe σ2 vs = wipe σ vs ∧ tt σ2 Hd fun b He => if b = true then te σ2 He fun y Hf => r (.ref D) [y] Hf fun _ Hg => Nx Hg else Nx He) := by
  refine ⟨fun i m H => m = n - i ∧ i ≤ n ∧ Pv i H, ⟨n, by simp, Nat.zero_le _, h0⟩, fun i m Hb ⟨em, le, p⟩ => ?_⟩
  subst em
  rcases Nat.lt_or_eq_of_le le with lt | eq
  · exact .inr ⟨hw.goes i Hb lt (hl i Hb le p), Pv (i + 1), fun Hc pc => ⟨n - (i + 1), by omega, rfl, lt, pc⟩, fun x Hc y => hs i x Hb Hc lt p (hw.yields i Hb x Hc lt (hl i Hb le p) y)⟩
  · subst eq
    exact .inl ⟨hw.stops Hb (hl i Hb le p), hd Hb p⟩
end Zp
/-! near pieces. -/
namespace Kx
open PySem PySem.Spec PyProof.Rows L2 Xa Xb Xc Xd Xs Xp Xm Xr Xl Xq Ya Yb Yc Yd Ye Yf Yr Zb Zi Zl Zn Zp
abbrev sNearP : Stmt := top 43
/-- piece z is at most s from piece t -/
def NearB (n t s : Int) (rg : Bool) (z : Int) : Prop := 0 ≤ z ∧ z < n ∧ ∃ k : Int, -s ≤ k ∧ k ≤ s ∧ (if rg then z = (t + k).fmod n else z = t + k)
section
variable {P : Program} {w : World} {K : PySem.W.Frag} {mg : Str → Option Value} {base : Heap} {f C : Addr} {fd : FuncData}
def spNearP (C : Addr) : Sp := fun xs H Q _ => ∃ (p l : Addr) (pl : Nat) (rc n t : Int) (qs : List (Addr × List Int)) (rg : Bool), xs = [.ref p, .int n, .int t, .bl rg] ∧ WebQ C H p l pl rc qs ∧ 1 ≤ rc ∧ rc ≤ 2 ∧ 1 ≤ n ∧ n ≤ 1000 ∧ 0 ≤ t ∧ t < n ∧
  ∀ (r : Addr) (ns : List Int) (H' : Hp), Same H H' → H r = none → H' r = some (.lst (ns.map V.int)) → ns.Pairwise (· < ·) → (∀ z, z ∈ ns ↔ NearB n t (2 * rc) rg z) → ns.length ≤ 9 → Q (.ref r) H'
abbrev nNearP : List Str := ["web", "n", "t", "ring", "span", "k"]
theorem scNearP : FnScope nNearP ["web", "n", "t", "ring"] (defScope sNearP) := ⟨rfl, rfl, rfl, by decide +kernel, rfl, by decide +kernel, by decide +kernel⟩
theorem can_nearp (D : Dfn K mg "near_pieces" sNearP) (B : Bi3 mg) (mn : mg "min" = none) (T : WTxt K mg C) : Can P w K mg base CX0 1 "near_pieces" ["web", "n", "t", "ring"] (spNearP C) := by
  obtain ⟨f, fd, F, g⟩ := D.at_
  refine FnOk.can (F.ok scNearP (fun xs H Q E h => ?_) (fun cdv A outer s H vs Q E hr h => ?_)) F g fun _ _ _ _ _ _ us hl => match us, hl with | [_, _, _, _], _ => rfl
  · obtain ⟨p, l, pl, rc, n, t, qs, rg, rfl, _⟩ := h
    rfl
  · obtain ⟨p, l, pl, rc, n, t, qs, rg, rfl, W, rc1, rc2, n1, n9, t0, tn, q⟩ := h
    refine ⟨_, PSs.nox <| pss_cons (ps_set (i := 4) scNearP.nd rfl (.inl rfl) <| pe_op op_mul pe_int <| pe_fld (pv 0) rfl) <|
      pss_cons (ps_if (pt_val <| pv 3) (pss_one <| ps_ret <| pe_bi (cr_sortedSet rfl) B.sorted <| pa1 <| pe_set (O := fun D => SetO w D (fun _ => false) 0) (r := rSAdd w) (own := [("k", 5)]) (g := gName 5) (tt := tYes) rfl scNearP.nd (fun _ _ => setO_new (setR_fresh w)) (fun _ _ _ _ _ => mt_sadd)
          (pi_range2 (by rfl) B.range <| pa_cons (pe_un un_neg (pv 4)) <| pa1 <| pe_op op_add (pv 4) pe_int) (blkOk_by (own := [("k", 5)]) (N := nNearP) (sc := defScope sNearP) (by decide +kernel))
          (fun _ _ _ _ _ => pg_name (i := 5) scNearP.nd rfl (Or.inl rfl)) (fun _ _ _ _ _ => pts_nil) (fun _ _ _ _ _ => pe_op op_modN (pe_op op_add (pv 2) (pv 5)) (pv 1))) pss_nil) <|
      pss_one <| ps_ret <| pe_listRg rfl (by rfl) B.list <| prg_2 (by rfl) B.range (pe_callB (call_max2 rfl) (by rfl) B.max (by decide +kernel) <| pa_cons pe_int <| pa1 <| pe_op op_sub (pv 2) (pv 4)) (pe_callB (call_min2 rfl) (by rfl) mn (by decide +kernel) <| pa_cons (pv 1) <| pa1 <| pe_op op_add (pe_op op_add (pv 2) (pv 4)) pe_int), ?_⟩
    obtain ⟨dx, ob⟩ := W.wb.ob
    refine ⟨_, rfl, p, C, dx, _, .int rc, rfl, ob, T.cl, T.nR, rfl, 2, rc, rfl, rfl, .inl ⟨by decide, by decide⟩, ?_⟩
    refine ⟨_, rfl, rg, rfl, ?_⟩
    show if rg = true then _ else _
    refine lc_if (fun c => ?_) fun c => ?_
    · subst c
      refine ⟨_, rfl, _, rfl, _, rfl, 2 * rc, 1, rfl, rfl, _, _, rfl, ⟨by omega, by omega, by omega, by omega⟩, fun D nD => ?_⟩
      refine set_it (O := fun D => SetO w D (fun _ => false) 0) (r := rSAdd w) (walk_range (lo := -(2 * rc)) (n := (2 * rc + 1 - -(2 * rc)).toNat)) (fun i H' => ∃ (S : Int → Bool) (m : Nat), H' D = some (SetO w D S m) ∧ m ≤ i ∧ (∀ z, S z = true ↔ ∃ j : Nat, j < i ∧ z = (t + (-(2 * rc) + j)).fmod n) ∧ Same H H') ⟨fun _ => false, 0, upd_same, Nat.le_refl _, fun z => ⟨(fun e => nomatch e), fun ⟨j, lt, _⟩ => absurd lt (Nat.not_lt_zero j)⟩, upd_same_as nD⟩ (fun _ _ _ _ => True.intro) ?_ ?_
      · rintro i x H1 H2 lt ⟨S, m, hD, mi, mem, sm⟩ ⟨rfl, rfl⟩
        refine ⟨rfl, lc_yes2 ⟨_, rfl, _, rfl, _, _, rfl, rfl, _, rfl, _, _, rfl, rfl, by omega, D, _, S, m, rfl, rfl, hD, ?_, ?_⟩⟩
        · have : i < 9 := by omega
          have e : scanBound = 4096 := rfl
          omega
        · refine ⟨_, _, upd_same, ?_, fun z => ?_, fun c o e => ?_⟩
          · split <;> omega
          · rw [Bool.or_eq_true, mem z, decide_eq_true_eq]
            constructor
            · rintro (⟨j, lj, e⟩ | e)
              · exact ⟨j, by omega, e⟩
              · exact ⟨i, by omega, e⟩
            · rintro ⟨j, lj, e⟩
              by_cases c : j = i
              · subst c
                exact .inr e
              · exact .inl ⟨j, by omega, e⟩
          · rw [upd_ne (ne_of_none e nD)]
            exact sm _ _ e
      · rintro H1 ⟨S, m, hD, mi, mem, sm⟩
        refine ⟨D, S, m, rfl, hD, by omega, fun ns r asc mn2 len nr => ?_⟩
        refine q r ns _ (sm.trans (upd_same_as nr)) (sm.free nr) upd_same asc (fun z => ?_) (by omega)
        rw [mn2 z, mem z]
        constructor
        · rintro ⟨j, lj, e⟩
          refine ⟨?_, ?_, -(2 * rc) + j, by omega, by omega, ?_⟩
          · rw [e]
            exact Int.fmod_nonneg_of_pos _ (by omega)
          · rw [e]
            exact Int.fmod_lt_of_pos _ (by omega)
          · rw [if_pos rfl]
            exact e
        · rintro ⟨_, _, k, k0, k1, e⟩
          rw [if_pos rfl] at e
          refine ⟨(k + 2 * rc).toNat, by omega, ?_⟩
          rw [show (-(2 * rc) + ((k + 2 * rc).toNat : Int)) = k by omega]
          exact e
    · refine ⟨_, rfl, _, rfl, t, 2 * rc, rfl, rfl, _, _, rfl, _, rfl, _, rfl, _, rfl, t, 2 * rc, rfl, rfl, _, 1, rfl, rfl, _, _, rfl, _, _, rfl, rfl, ?_⟩
      obtain ⟨a, ha⟩ : ∃ a : Int, a = if t - 2 * rc > 0 then t - 2 * rc else 0 := ⟨_, rfl⟩
      obtain ⟨b, hb⟩ : ∃ b : Int, b = if t + 2 * rc + 1 < n then t + 2 * rc + 1 else n := ⟨_, rfl⟩
      rw [← ha, ← hb]
      have a1 : 0 ≤ a ∧ a ≤ t ∧ (a = 0 ∨ a = t - 2 * rc) ∧ t - 2 * rc ≤ a := by
        rw [ha]
        split <;> omega
      have b1 : t < b ∧ b ≤ n ∧ (b = n ∨ b = t + 2 * rc + 1) ∧ b ≤ t + 2 * rc + 1 := by
        rw [hb]
        split <;> omega
      refine ⟨RgOk.of_le (by omega) (by omega) (by omega) (by omega), fun r nr => ?_⟩
      have e : rgV a b = (((List.range (b - a).toNat).map fun i : Nat => a + (i : Int)).map V.int) := by
        rw [List.map_map]
        rfl
      rw [e]
      refine q r _ _ (upd_same_as nr) nr upd_same (List.pairwise_map.mpr (List.pairwise_lt_range.imp fun h => by omega)) (fun z => ?_) (by rw [List.length_map, List.length_range]; omega)
      constructor
      · intro hz
        obtain ⟨i, hi, rfl⟩ := List.mem_map.mp hz
        have := List.mem_range.mp hi
        refine ⟨by omega, by omega, a + i - t, by omega, by omega, ?_⟩
        rw [if_neg (by rw [c]; exact Bool.false_ne_true)]
        omega
      · rintro ⟨z0, z1, k, k0, k1, ez⟩
        rw [if_neg (by rw [c]; exact Bool.false_ne_true)] at ez
        exact List.mem_map.mpr ⟨(z - a).toNat, List.mem_range.mpr (by omega), by omega⟩
end
end Kx
/-! near pairs. -/
namespace Kx
open PySem PySem.Spec PyProof.Rows L2 Xa Xb Xc Xd Xs Xp Xm Xr Xl Xq Ya Yb Yc Yd Ye Yf Yr Zb Zi Zl Zn Zp
abbrev sNearQ : Stmt := top 44
/-- a list of pairs of tuples -/
structure PL (H : Hp) (r : Addr) (zs : List (Addr × (Addr × List Int) × (Addr × List Int))) : Prop where
  li : H r = some (.lst (zs.map fun z => V.ref z.1))
  pr : ∀ z ∈ zs, H z.1 = some (.tup [.ref z.2.1.1, .ref z.2.2.1])
  e1 : ∀ z ∈ zs, H z.2.1.1 = some (.tup (z.2.1.2.map V.int))
  e2 : ∀ z ∈ zs, H z.2.2.1 = some (.tup (z.2.2.2.map V.int))
def prs (zs : List (Addr × (Addr × List Int) × (Addr × List Int))) : List (List Int × List Int) := zs.map fun z => (z.2.1.2, z.2.2.2)
theorem PL.same {H H' : Hp} {r : Addr} {zs : List (Addr × (Addr × List Int) × (Addr × List Int))} (e : Same H H') (T : PL H r zs) : PL H' r zs := ⟨e _ _ T.li, fun z hz => e _ _ (T.pr z hz), fun z hz => e _ _ (T.e1 z hz), fun z hz => e _ _ (T.e2 z hz)⟩
theorem PL.put {H : Hp} {r t : Addr} {zs : List (Addr × (Addr × List Int) × (Addr × List Int))} {a b : Addr × List Int} (T : PL H r zs) (nt : H t = none) (ha : H a.1 = some (.tup (a.2.map V.int))) (hb : H b.1 = some (.tup (b.2.map V.int))) :
    PL (upd (upd H t (.tup [.ref a.1, .ref b.1])) r (.lst ((zs.map fun z => V.ref z.1) ++ [.ref t]))) r (zs ++ [(t, a, b)]) := by
  have rt : r ≠ t := ne_of_none T.li nt
  have old : ∀ {c : Addr} {xs : List V}, H c = some (.tup xs) → (upd (upd H t (.tup [.ref a.1, .ref b.1])) r (.lst ((zs.map fun z => V.ref z.1) ++ [.ref t]))) c = some (.tup xs) := fun {c xs} e => by
    rw [upd_ne (ne_of e T.li (by intro z; cases z)), upd_ne (ne_of_none e nt)]
    exact e
  refine ⟨by rw [upd_same, List.map_append] <;> rfl, fun z hz => ?_, fun z hz => ?_, fun z hz => ?_⟩
  · rcases List.mem_append.mp hz with hz | hz
    · exact old (T.pr z hz)
    · rw [List.mem_singleton.mp hz, upd_ne (Ne.symm rt), upd_same]
  · rcases List.mem_append.mp hz with hz | hz
    · exact old (T.e1 z hz)
    · rw [List.mem_singleton.mp hz]
      exact old ha
  · rcases List.mem_append.mp hz with hz | hz
    · exact old (T.e2 z hz)
    · rw [List.mem_singleton.mp hz]
      exact old hb
/-- spots that may have a common hearer -/
def NearK (n s : Int) (rg : Bool) : List Int → List Int → Prop
  | [x, _], [y, _] => NearB n x s rg y
  | _, _ => False
section
variable {P : Program} {w : World} {K : PySem.W.Frag} {mg : Str → Option Value} {base : Heap} {f C : Addr} {fd : FuncData}
def spNearQ (C : Addr) : Sp := fun xs H Q _ => ∃ (p l : Addr) (pl n : Nat) (rc : Int) (qs : List (Addr × List Int)) (rg : Bool), xs = [.ref p, .int n, .bl rg] ∧ WebQ C H p l pl rc qs ∧ 1 ≤ rc ∧ rc ≤ 2 ∧ 1 ≤ n ∧ n ≤ 300 ∧
  ∀ (r : Addr) (zs : List (Addr × (Addr × List Int) × (Addr × List Int))) (H' : Hp), Same H H' → H r = none → PL H' r zs →
    (∀ a b, (a, b) ∈ prs zs ↔ a ∈ grid n pl ∧ b ∈ grid n pl ∧ HT.lexLt a b = true ∧ NearK n (2 * rc) rg a b) → zs.length ≤ 18 * (2 * n) → Q (.ref r) H'
abbrev nNearQ : List Str := ["web", "n", "ring", "pairs", "one", "near", "t", "j", "other"]
theorem scNearQ : FnScope nNearQ ["web", "n", "ring"] (defScope sNearQ) := ⟨rfl, rfl, rfl, by decide +kernel, rfl, by decide +kernel, by decide +kernel⟩
theorem can_nearq (D : Dfn K mg "near_pairs" sNearQ) (B : Bi3 mg) (T : WTxt K mg C) (cS : Can P w K mg base CX0 1 "spots" ["n", "places"] spSpots) (cN : Can P w K mg base CX0 1 "near_pieces" ["web", "n", "t", "ring"] (spNearP C)) : Can P w K mg base CX0 2 "near_pairs" ["web", "n", "ring"] (spNearQ C) := by
  obtain ⟨f, fd, F, g⟩ := D.at_
  refine FnOk.can (F.ok scNearQ (fun xs H Q E h => ?_) (fun cdv A outer s H vs Q E hr h => ?_)) F g fun _ _ _ _ _ _ us hl => match us, hl with | [_, _, _], _ => rfl
  · obtain ⟨p, l, pl, n, rc, qs, rg, rfl, _⟩ := h
    rfl
  · obtain ⟨p, l, pl, n, rc, qs, rg, rfl, W, rc1, rc2, n1, n3, q⟩ := h
    have hu0 : ∀ {B : Around} {k : Nat}, Room k B → B.units < cLine := fun r => Nat.lt_of_le_of_lt (Nat.le_add_right _ 64) r.units
    refine ⟨_, PSs.nox <| pss_cons (ps_set (i := 3) scNearQ.nd rfl (.inl rfl) <| pe_lst pa_nil) <|
      pss_cons (ps_for PassesOwn.never rfl (pi_list <| pe_can cS hr pass0 <| pa_cons (pv 1) <| pa1 <| pe_fld (pv 0) rfl) (pg_name (i := 4) scNearQ.nd rfl (.inr rfl)) <|
        pss_cons (ps_setLc2 (i := 5) (own := [("t", 6), ("j", 7)]) (vs1 := [7]) (g := gName 6) (tt := tYes) (wi1 := iRng1 (tCons (tFld K (tVar 0) "places") tNil)) (g1 := gName 7) (tt1 := tYes) rfl scNearQ.nd rfl rfl (sw_true rfl rfl rfl (by decide +kernel)) (pi_list <| pe_can cN hr pass0 <| pa_cons (pv 0) <| pa_cons (pv 1) <| pa_cons (pe_ix ix_tup (pv 4) pe_int (fun _ _ => rfl)) <| pa1 <| pv 2)
          (blkOk_by (own := [("t", 6), ("j", 7)]) (N := nNearQ) (sc := defScope sNearQ) (by decide +kernel)) (by decide) (fun _ _ _ _ _ => pg_name (i := 6) scNearQ.nd rfl (Or.inl rfl)) (fun _ _ _ _ _ => pts_nil) (fun _ _ _ _ _ => pi_range1 (by rfl) B.range <| pa1 <| pe_fld (pv 0) rfl)
          (fun _ _ _ _ _ => pg_name (i := 7) scNearQ.nd rfl (Or.inl rfl)) (fun _ _ _ _ _ => pts_nil) (fun _ _ _ _ _ => pe_tup <| pa_cons (pv 6) <| pa1 <| pv 7)) <|
        pss_one <| ps_expr <| pe_bm PySem.F.plainAttrs_list PySem.F.slot_list_extend PySem.F.type_list_extend mt_extend (pv 3) <| pa1 <| pe_lc (own := [("other", 8)]) (g := gName 8) rfl scNearQ.nd (pi_list <| pv 5) (blkOk_by (own := [("other", 8)]) (N := nNearQ) (sc := defScope sNearQ) (by decide +kernel))
          (fun _ _ _ _ _ => pg_name (i := 8) scNearQ.nd rfl (Or.inl rfl)) (fun _ _ _ _ _ => pts_one <| pt_cmpR (r := rLtT K) (op_ltT (hu0 hr)) (pv 4) (pv 8) (nomark _)) (fun _ _ _ _ _ => pe_tup <| pa_cons (pv 4) <| pa1 <| pv 8)) <|
      pss_one <| ps_ret (pv 3), ?_⟩
    obtain ⟨g0, hg⟩ : ∃ g0, g0 = grid n pl := ⟨_, rfl⟩
    have pp := W.pp
    have p2 : pl ≤ 2 := by omega
    have gm : ∀ k, k ∈ g0 ↔ ∃ x z : Int, k = [x, z] ∧ 0 ≤ x ∧ x < n ∧ 0 ≤ z ∧ z < pl := fun k => by
      rw [hg]
      constructor
      · intro h
        exact mem_grid h
      · rintro ⟨x, z, rfl, x0, x1, z0, z1⟩
        exact grid_mem x0 x1 z0 z1
    have glen : g0.length ≤ 2 * n := by
      have h := wts_len (m := 2) (ps := List.replicate n (rangeI pl)) fun p hp => by
        rw [List.eq_of_mem_replicate hp, rangeI, List.length_map, List.length_range]
        exact p2
      rw [List.length_replicate] at h
      rw [hg]
      exact h
    obtain ⟨dx, ob⟩ := W.wb.ob
    refine ⟨(by show 0 ≤ sizeLine; decide), fun pr npr => ?_⟩
    have u0 := upd_same_as (o := .lst []) npr
    have P0 : PL (upd H pr (.lst [])) pr [] := ⟨upd_same, (fun _ z => nomatch z), (fun _ z => nomatch z), fun _ z => nomatch z⟩
    refine ⟨_, rfl, _, rfl, p, C, dx, _, .int pl, rfl, u0 _ _ ob, T.cl, T.nP, rfl, n, pl, rfl, n3, by omega, fun sp ss H1 s1 nsp Ts es => ?_⟩
    rw [← hg] at es
    have s01 := u0.trans s1
    have prsp : sp ≠ pr := fun e => by
      rw [e, upd_same] at nsp
      cases nsp
    have sl : ss.length = g0.length := by rw [← es, List.length_map]
    refine ⟨sp, rfl, ⟨_, SqL.of Ts.li⟩, for_list (K := K) (a := sp) (xs := ss.map fun q => V.ref q.1) (fun i σ H' => ∃ (v4 v5 : Option V) (zs : List (Addr × (Addr × List Int) × (Addr × List Int))), σ = [some (.ref p), some (.int n), some (.bl rg), some (.ref pr), v4, v5, none, none, none] ∧ PL H' pr zs ∧
      (∀ a b, (a, b) ∈ prs zs ↔ a ∈ g0.take i ∧ b ∈ g0 ∧ HT.lexLt a b = true ∧ NearK n (2 * rc) rg a b) ∧ zs.length ≤ 18 * i ∧ ∀ c o, H1 c = some o → c ≠ pr → H' c = some o) ⟨_, _, [], rfl, P0.same s1, (fun a b => by simp [prs]), by simp, fun _ _ e _ => e⟩ (fun i σ H' _ ⟨_, _, _, _, _, _, _, k⟩ => SqL.of (k _ _ Ts.li prsp)) ?_ ?_⟩
    · rintro i y σ H2 hy ⟨v4, v5, zs, rfl, P2, mem, zl, k2⟩
      obtain ⟨r1, hr1, rfl⟩ := ref_get hy
      have il := (List.getElem?_eq_some_iff.mp hr1).1
      have gk : g0[i]? = some r1.2 := by rw [← es, List.getElem?_map, hr1] <;> rfl
      obtain ⟨x, j0, ex, x0, x1, j00, j01⟩ := (gm r1.2).mp (List.mem_of_getElem? gk)
      have offT : ∀ {c : Addr} {xs : List V}, H1 c = some (.tup xs) → c ≠ pr := fun {c xs} e z => by
        have h := s1 _ _ (upd_same (H := H) (a := pr) (o := .lst []))
        rw [z, h] at e
        cases e
      have t1 := Ts.tu r1 (List.mem_of_getElem? hr1)
      have h1 := k2 _ _ t1 (offT t1)
      have h1x : H2 r1.1 = some (.tup [.int x, .int j0]) := by rw [ex] at h1; exact h1
      have k02 : Same H H2 := fun c o e => k2 _ _ (s01 _ _ e) (ne_of_none e npr)
      have at0 : atI [V.int x, V.int j0] 0 = some (V.int x) := atI_nat (j := 0) rfl
      refine ⟨_, rfl, _, rfl, _, rfl, r1.1, _, 0, .int x, rfl, rfl, SqT.of h1x, at0, _, rfl, p, l, pl, rc, n, x, qs, rg, rfl, W.same k02, rc1, rc2, by omega, by omega, x0, x1, fun np ns H3 s3 nnp hnp asc mns len => ?_⟩
      refine ⟨np, rfl, ⟨_, SqL.of hnp⟩, fun D nD => ?_⟩
      refine two_it (walk_list (K := K) (a := np) (xs := ns.map V.int)) (fun k H' => ∃ ws, TL H' D ws ∧ (∀ b, b ∈ ws.map (·.2) ↔ ∃ y, y ∈ ns.take k ∧ ∃ j : Nat, j < pl ∧ b = [y, (j : Int)]) ∧ ws.length ≤ 2 * k ∧ Same H3 H') ⟨[], ⟨upd_same, fun q hq => nomatch hq⟩, (fun b => by simp), by simp, upd_same_as nD⟩ (fun k H' _ ⟨_, _, _, _, s⟩ => SqL.of (s _ _ hnp)) ?_ ?_
      · rintro k y' H' H'' lt ⟨ws, Tw, mw, wl, sw⟩ ⟨rfl, hy'⟩
        obtain ⟨y, hyk, rfl⟩ : ∃ y, ns[k]? = some y ∧ y' = .int y := by
          rw [List.getElem?_map] at hy'
          cases e : ns[k]? with
          | none =>
            rw [e] at hy'
            cases hy'
          | some z =>
            rw [e] at hy'
            exact ⟨z, rfl, (Option.some.inj hy').symm⟩
        have kl := (List.getElem?_eq_some_iff.mp hyk).1
        have ob2 := sw _ _ (s3 _ _ (k02 _ _ ob))
        refine ⟨rfl, lc_yes2 ⟨_, rfl, p, C, dx, _, .int pl, rfl, ob2, T.cl, T.nP, rfl, _, rfl, by omega, by omega, ?_⟩⟩
        refine inn_it (walk_range (lo := 0) (n := pl)) (fun j H4 => ∃ ws', TL H4 D ws' ∧ (∀ b, b ∈ ws'.map (·.2) ↔ (∃ y, y ∈ ns.take k ∧ ∃ j : Nat, j < pl ∧ b = [y, (j : Int)]) ∨ ∃ j' : Nat, j' < j ∧ b = [y, (j' : Int)]) ∧ ws'.length ≤ 2 * k + j ∧ Same H3 H4) ⟨ws, Tw, (fun b => by rw [mw b]; simp), wl, sw⟩ (fun j H4 _ _ => trivial) ?_ ?_
        · rintro j z H4 H5 lt2 ⟨ws', T4, m4, l4, s4⟩ ⟨rfl, rfl⟩
          have ej : (0 : Int) + (j : Nat) = (j : Int) := Int.zero_add _
          refine ⟨rfl, lc_yes2 ⟨_, rfl, _, rfl, (by show 2 ≤ sizeLine; decide), fun t nt => ?_⟩⟩
          simp only [ej]
          have Dt : D ≠ t := ne_of_none T4.li nt
          refine ⟨_, by rw [upd_ne Dt]; exact T4.li, by rw [List.length_map]; exact small_ (by omega), ws' ++ [(t, [y, (j : Int)])], T4.put (l := [y, (j : Int)]) nt, fun b => ?_, by rw [List.length_append]; simp; omega, fun c o e => ?_⟩
          · rw [List.map_append, List.mem_append, m4 b]
            constructor
            · rintro ((h | ⟨j', lj, e⟩) | h)
              · exact .inl h
              · exact .inr ⟨j', by omega, e⟩
              · exact .inr ⟨j, by omega, by simpa using h⟩
            · rintro (h | ⟨j', lj, e⟩)
              · exact .inl (.inl h)
              · by_cases c : j' = j
                · subst c
                  exact .inr (by simpa using e)
                · exact .inl (.inr ⟨j', by omega, e⟩)
          · rw [upd_ne (ne_of_none e nD)]
            exact upd_same_as nt _ _ (s4 _ _ e)
        · rintro H4 ⟨ws', T4, m4, l4, s4⟩
          refine ⟨ws', T4, fun b => ?_, by omega, s4⟩
          rw [m4 b, List.take_add_one, hyk]
          constructor
          · rintro (⟨y2, h, r⟩ | ⟨j', lj, e⟩)
            · exact ⟨y2, List.mem_append_left _ h, r⟩
            · exact ⟨y, List.mem_append_right _ (by simp), j', lj, e⟩
          · rintro ⟨y2, h, j', lj, e⟩
            rcases List.mem_append.mp h with h | h
            · exact .inl ⟨y2, h, j', lj, e⟩
            · have : y2 = y := by simpa using h
              subst this
              exact .inr ⟨j', lj, e⟩
      rintro H4 ⟨ws, Tw, mw, wl, s4⟩
      rw [List.length_map, List.take_length] at mw
      rw [List.length_map] at wl
      have k24 : Same H2 H4 := s3.trans s4
      have P4 := P2.same k24
      have h14 := k24 _ _ h1
      refine ⟨_, rfl, .inl ⟨rfl, _, SqL.of P4.li⟩, _, rfl, D, rfl, ⟨_, SqL.of Tw.li⟩, fun D2 nD2 => ?_⟩
      refine lc_list (K := K) (a := D) (xs := ws.map fun q => V.ref q.1) (fun k H' => ∃ z2, PL H' D2 z2 ∧ (∀ a b, (a, b) ∈ prs z2 ↔ a = r1.2 ∧ b ∈ (ws.take k).map (·.2) ∧ HT.lexLt a b = true) ∧ z2.length ≤ k ∧ Same H4 H') ⟨[], ⟨upd_same, (fun _ z => nomatch z), (fun _ z => nomatch z), fun _ z => nomatch z⟩, (fun a b => by simp [prs]), by simp, upd_same_as nD2⟩ (fun k H' _ ⟨_, _, _, _, s⟩ => SqL.of (s _ _ Tw.li)) ?_ ?_
      · rintro k y' H' hy' ⟨z2, Pz, mz, lz, sz⟩
        obtain ⟨r, hr, rfl⟩ := ref_get hy'
        have hr4 := sz _ _ (Tw.tu r (List.mem_of_getElem? hr))
        have kl := (List.getElem?_eq_some_iff.mp hr).1
        have h15 := sz _ _ h14
        refine ⟨rfl, _, rfl, _, rfl, r1.1, r.1, r1.2, r.2, rfl, rfl, SqT.of h15, SqT.of hr4, _, rfl, ?_⟩
        refine lc_if (fun c => ?_) fun c => ?_
        · refine ⟨_, rfl, _, rfl, (by show 2 ≤ sizeLine; decide), fun t nt => ?_⟩
          have P5 := Pz.put (a := r1) (b := r) nt h15 hr4
          have Dt : D2 ≠ t := ne_of_none Pz.li nt
          refine ⟨_, by rw [upd_ne Dt]; exact Pz.li, by rw [List.length_map]; exact small_ (by omega), _, P5, fun a b => ?_, by rw [List.length_append]; simp; omega, fun c' o e => ?_⟩
          · rw [prs, List.map_append, List.mem_append, show z2.map (fun z => (z.2.1.2, z.2.2.2)) = prs z2 from rfl, mz a b, List.take_add_one, hr, List.map_append, List.mem_append]
            constructor
            · rintro (⟨h1, h2, h3⟩ | h)
              · exact ⟨h1, .inl h2, h3⟩
              · have h : a = r1.2 ∧ b = r.2 := by simpa using h
                obtain ⟨rfl, rfl⟩ := h
                exact ⟨rfl, .inr (by simp), c⟩
            · rintro ⟨h1, h2 | h2, h3⟩
              · exact .inl ⟨h1, h2, h3⟩
              · have h2 : b = r.2 := by simpa using h2
                subst h1
                subst h2
                exact .inr (by simp)
          · rw [upd_ne (ne_of_none e nD2)]
            exact upd_same_as nt _ _ (sz _ _ e)
        · refine ⟨z2, Pz, fun a b => ?_, by omega, sz⟩
          rw [mz a b, List.take_add_one, hr, List.map_append, List.mem_append]
          constructor
          · rintro ⟨h1, h2, h3⟩
            exact ⟨h1, .inl h2, h3⟩
          · rintro ⟨h1, h2 | h2, h3⟩
            · exact ⟨h1, h2, h3⟩
            · have h2 : b = r.2 := by simpa using h2
              subst h1
              subst h2
              rw [c] at h3
              cases h3
      rintro H5 ⟨z2, P5, m5, l5, s5⟩
      rw [List.length_map] at l5 m5
      rw [List.take_length] at m5
      have P25 := P4.same s5
      have D2pr : D2 ≠ pr := fun e => by
        rw [e, P4.li] at nD2
        cases nD2
      refine ⟨pr, D2, _, _, rfl, rfl, P25.li, P5.li, by rw [List.length_map, List.length_map]; exact Nat.le_of_lt (small_ (by omega)), ?_⟩
      have keep : ∀ {c : Addr} {xs : List V}, H5 c = some (.tup xs) → (upd H5 pr (.lst ((zs.map fun z => V.ref z.1) ++ z2.map fun z => V.ref z.1))) c = some (.tup xs) := fun {c xs} e => by
        rw [upd_ne (ne_of e P25.li (by intro z; cases z))]
        exact e
      refine ⟨_, _, zs ++ z2, rfl, ⟨by rw [upd_same, List.map_append], fun z hz => ?_, fun z hz => ?_, fun z hz => ?_⟩, fun a b => ?_, by rw [List.length_append]; omega, fun c o e ne => ?_⟩
      · exact (List.mem_append.mp hz).elim (fun h => keep (P25.pr z h)) fun h => keep (P5.pr z h)
      · exact (List.mem_append.mp hz).elim (fun h => keep (P25.e1 z h)) fun h => keep (P5.e1 z h)
      · exact (List.mem_append.mp hz).elim (fun h => keep (P25.e2 z h)) fun h => keep (P5.e2 z h)
      · rw [prs, List.map_append, List.mem_append, show zs.map (fun z => (z.2.1.2, z.2.2.2)) = prs zs from rfl, show z2.map (fun z => (z.2.1.2, z.2.2.2)) = prs z2 from rfl, mem a b, m5 a b, List.take_add_one, gk, List.mem_append]
        have near : ∀ b, b ∈ ws.map (·.2) ↔ b ∈ g0 ∧ NearK n (2 * rc) rg r1.2 b := fun b => by
          rw [mw b, gm b, ex]
          constructor
          · rintro ⟨y, hy, j, lj, rfl⟩
            have nb := (mns y).mp hy
            exact ⟨⟨y, j, rfl, nb.1, nb.2.1, by omega, by omega⟩, nb⟩
          · rintro ⟨⟨y, z, rfl, y0, y1, z0, z1⟩, nb⟩
            exact ⟨y, (mns y).mpr nb, z.toNat, by omega, by rw [Int.toNat_of_nonneg z0]⟩
        rw [near b]
        constructor
        · rintro (⟨h1, h2, h3, h4⟩ | ⟨h1, ⟨h2, h4⟩, h3⟩)
          · exact ⟨.inl h1, h2, h3, h4⟩
          · exact ⟨.inr (by simp [h1]), h2, h3, by rw [h1]; exact h4⟩
        · rintro ⟨h1 | h1, h2, h3, h4⟩
          · exact .inl ⟨h1, h2, h3, h4⟩
          · have h1 : a = r1.2 := by simpa using h1
            exact .inr ⟨h1, ⟨h2, by rw [← h1]; exact h4⟩, h3⟩
      · rw [upd_ne ne]
        exact s5 _ _ (k24 _ _ (k2 _ _ e ne))
    · rintro σ H2 ⟨v4, v5, zs, rfl, P2, mem, zl, k2⟩
      rw [List.length_map, sl, List.take_length] at mem
      rw [List.length_map, sl] at zl
      refine ⟨_, rfl, q pr zs H2 (fun c o e => k2 _ _ (s01 _ _ e) (ne_of_none e npr)) npr P2 (fun a b => ?_) (by omega)⟩
      rw [mem a b, hg]
end
end Kx
/-! the first fault. -/
namespace Kx
open PySem PySem.Spec PyProof.Rows L2 Xa Xb Xc Xd Xs Xp Xm Xr Xl Xq Ya Yb Yc Yd Ye Yf Yr Zb Zi Zl Zn Zp Zq
abbrev sFirst : Stmt := top 45
section
variable {P : Program} {w : World} {K : PySem.W.Frag} {mg : Str → Option Value} {base : Heap} {f C : Addr} {fd : FuncData}
/-- what is told of a table: none, few, alike -/
structure FTold (H : Hp) (g : List (List Int)) (hear : List Int → List (List Int)) (prs : List (List Int × List Int)) (a b : Int) (Q : VK) : Prop where
  non : (∀ k ∈ g, a ≤ ((hear k).length : Int)) → (∀ z ∈ prs, b ≤ (symN (hear z.1) (hear z.2) : Int)) → ∀ H', Same H H' → Q .non H'
  few : ∀ k ∈ g, ((hear k).length : Int) < a → ∀ t q H', Same H H' → H t = none → H' t = some (.tup [.str "few", .ref q]) → H' q = some (.tup (k.map V.int)) → Q (.ref t) H'
  alike : (∀ k ∈ g, a ≤ ((hear k).length : Int)) → ∀ x y, (x, y) ∈ prs → (symN (hear x) (hear y) : Int) < b → ∀ t q r H', Same H H' → H t = none → H' t = some (.tup [.str "alike", .ref q, .ref r]) → H' q = some (.tup (x.map V.int)) → H' r = some (.tup (y.map V.int)) → Q (.ref t) H'
theorem FTold.on {H H1 : Hp} {g : List (List Int)} {hear : List Int → List (List Int)} {prs : List (List Int × List Int)} {a b : Int} {Q : VK} (s : Same H H1) (T : FTold H g hear prs a b Q) : FTold H1 g hear prs a b Q :=
  ⟨fun h1 h2 H' s' => T.non h1 h2 H' (s.trans s'), fun k hk h t q H' s' n => T.few k hk h t q H' (s.trans s') (s.free n), fun h1 x y hz h t q r H' s' n => T.alike h1 x y hz h t q r H' (s.trans s') (s.free n)⟩
def spFirst : Sp := fun xs H Q _ => ∃ (d pr nd : Addr) (a b : Int) (g : List (List Int)) (ad : List Int → Addr) (hear : List Int → List (List Int)) (zs : List (Addr × (Addr × List Int) × (Addr × List Int))) (H0 : Hp), xs = [.ref d, .ref pr, .ref nd] ∧ Tab H0 d g ad hear H ∧ PL H pr zs ∧ H nd = some (.tup [.int a, .int b]) ∧
  (∀ k ∈ g, (hear k).length < 16 ∧ (hear k).Nodup) ∧ (∀ z ∈ prs zs, z.1 ∈ g ∧ z.2 ∈ g) ∧ FTold H g hear (prs zs) a b Q
abbrev nFirst : List Str := ["table", "pairs", "needs", "few", "unlike", "spot", "heard", "one", "other"]
theorem scFirst : FnScope nFirst ["table", "pairs", "needs"] (defScope sFirst) := ⟨rfl, rfl, rfl, by decide +kernel, rfl, by decide +kernel, by decide +kernel⟩
theorem can_first (D : Dfn K mg "first_fault" sFirst) (B : Bi3 mg) : Can P w K mg base CX0 1 "first_fault" ["table", "pairs", "needs"] spFirst := by
  obtain ⟨f, fd, F, g1⟩ := D.at_
  refine FnOk.can (F.ok scFirst (fun xs H Q E h => ?_) (fun cdv A outer s H vs Q E hr h => ?_)) F g1 fun _ _ _ _ _ _ us hl => match us, hl with | [_, _, _], _ => rfl
  · obtain ⟨d, pr, nd, a, b, g, ad, hear, zs, H0, rfl, _⟩ := h
    rfl
  · obtain ⟨d, pr, nd, a, b, g, ad, hear, zs, H0, rfl, TT, PZ, hnd, hh, hz, told⟩ := h
    have hu1 := Nat.lt_of_le_of_lt (Nat.add_le_add_left (show 1 ≤ 64 by decide) _) hr.units
    refine ⟨_, PSs.nox <| pss_cons (ps_asg (pv 2) <| pg_tup (by rfl) <| pgs_cons (pg_name (i := 3) scFirst.nd rfl (.inl rfl)) <| pgs_cons (pg_name (i := 4) scFirst.nd rfl (.inl rfl)) pgs_nil) <|
      pss_cons (ps_lock <| ps_for PassesOwn.never rfl (pi_itemsT (pv 0)) (pg_tup (by rfl) <| pgs_cons (pg_name (i := 5) scFirst.nd rfl (.inl rfl)) <| pgs_cons (pg_name (i := 6) scFirst.nd rfl (.inl rfl)) pgs_nil) <|
        pss_one <| ps_if (pt_cmpR op_lt (pe_bi call_len_seq B.len <| pa1 <| pv 6) (pv 3) (nomark _)) (pss_one <| ps_ret <| pe_tup <| pa_cons pe_str <| pa1 <| pv 5) pss_nil) <|
      pss_cons (ps_for PassesOwn.never rfl (pi_list <| pv 1) (pg_tup (by rfl) <| pgs_cons (pg_name (i := 7) scFirst.nd rfl (.inl rfl)) <| pgs_cons (pg_name (i := 8) scFirst.nd rfl (.inl rfl)) pgs_nil) <|
        pss_one <| ps_if (pt_cmpR op_lt (pe_bi call_lenN B.len <| pa1 <| pe_op (r := rSet2 K P w fun a b => a != b) (op_setXor hr.units) (pe_ty (r := rSetOfT K P w) (cr_setOfT rfl hr.units) B.set <| pa1 <| pe_dget hu1 (pv 0) (pv 7) (fun _ _ => rfl)) (pe_ty (r := rSetOfT K P w) (cr_setOfT rfl hr.units) B.set <| pa1 <| pe_dget hu1 (pv 0) (pv 8) (fun _ _ => rfl))) (pv 4) (nomark _))
          (pss_one <| ps_ret <| pe_tup <| pa_cons pe_str <| pa_cons (pv 7) <| pa1 <| pv 8) pss_nil) <|
      pss_one <| ps_ret pe_non, ?_⟩
    refine ⟨_, rfl, nd, _, rfl, SqT.of (xs := [V.int a, .int b]) hnd, rfl, .int a, _, rfl, .int b, _, rfl, rfl, ?_⟩
    have dk : H d = some (.dT (entsOf g ad)) := TT.di
    refine ⟨d, _, dk, trivial, fun od => ?_⟩
    have fz : (upd H d (.frz od (.dT (entsOf g ad)))) d = some (.frz od (.dT (entsOf g ad))) := upd_same
    refine ⟨_, rfl, d, od, entsOf g ad, rfl, fz, for_it (walk_itemsT (d := d) (o := od) (kvs := entsOf g ad)) (fun j σ H' => ∃ v5 v6 : Option V, σ = [some (.ref d), some (.ref pr), some (.ref nd), some (.int a), some (.int b), v5, v6, none, none] ∧ H' d = some (.frz od (.dT (entsOf g ad))) ∧
      (∀ k ∈ g.take j, a ≤ ((hear k).length : Int)) ∧ ∀ c o, H c = some o → c ≠ d → H' c = some o) ⟨_, _, rfl, fz, (fun k hk => by simp at hk), fun c o e n => by rw [upd_ne n]; exact e⟩ (fun j σ H' _ ⟨_, _, _, h, _⟩ => h) ?_ ?_⟩
    · rintro j x σ Hj Hj' lt ⟨v5, v6, rfl, fj, few, kp⟩ ⟨T, kk, vv, qa, hkv, rfl, nT, hq, rfl⟩
      obtain ⟨k, hk, rfl, rfl⟩ : ∃ k, g[j]? = some k ∧ kk = kI k ∧ vv = .ref (ad k) := by
        rw [entsOf, List.getElem?_map] at hkv
        cases z : g[j]? with
        | none =>
          rw [z] at hkv
          cases hkv
        | some k =>
          rw [z] at hkv
          have e := Option.some.inj hkv
          exact ⟨k, rfl, (congrArg Prod.fst e).symm, (congrArg Prod.snd e).symm⟩
      rw [kI_v] at hq
      have kin := List.mem_of_getElem? hk
      obtain ⟨z1, Tz, ez⟩ := TT.el k kin
      have uT := upd_same_as (o := .tup [V.ref qa, .ref (ad k)]) nT
      have off : ∀ {c : Addr} {o : HO}, H c = some o → (∀ z, o ≠ .dT z) → c ≠ d := fun {c o} e n z => by
        rw [z, dk] at e
        exact n _ (Option.some.inj e).symm
      have hl := uT _ _ (kp _ _ Tz.li (off Tz.li (fun _ z => nomatch z)))
      have el : ((z1.map fun q => V.ref q.1).length : Int) = ((hear k).length : Int) := by rw [List.length_map, ← ez, List.length_map]
      refine ⟨T, _, rfl, SqT.of upd_same, rfl, .ref qa, _, rfl, .ref (ad k), _, rfl, rfl, ?_⟩
      refine ⟨_, rfl, ad k, _, rfl, .inl (SqL.of hl), ?_⟩
      rw [el]
      refine ⟨_, rfl, _, _, rfl, rfl, _, rfl, ?_⟩
      show if decide (((hear k).length : Int) < a) = true then _ else _
      refine lc_if (fun c => ?_) fun c => ?_
      · refine ⟨_, rfl, (by show 2 ≤ sizeLine; decide), fun t nt => ?_⟩
        have ut := upd_same_as (o := .tup [V.str "few", .ref qa]) nt
        have u2 := uT.trans ut
        have ht := upd_same (H := upd Hj T (.tup [V.ref qa, .ref (ad k)])) (a := t) (o := .tup [V.str "few", .ref qa])
        have nTt : Hj t = none := uT.free nt
        have td : t ≠ d := fun e => by
          rw [e, fj] at nTt
          cases nTt
        have qd : qa ≠ d := ne_of hq fj (by intro z; cases z)
        refine ⟨u2 _ _ fj, told.few k kin (of_decide_eq_true c) t qa _ (fun c o e => ?_) ?_ (by rw [upd_ne td]; exact ht) (by rw [upd_ne qd]; exact u2 _ _ hq)⟩
        · by_cases cd : c = d
          · rw [cd, upd_same]
            rw [cd, dk] at e
            exact e
          · rw [upd_ne cd]
            exact u2 _ _ (kp _ _ e cd)
        · cases z : H t with
          | none => rfl
          | some o =>
            rw [kp _ _ z td] at nTt
            cases nTt
      · refine ⟨_, _, rfl, uT _ _ fj, fun k2 h2 => ?_, fun c o e n => uT _ _ (kp c o e n)⟩
        rw [List.take_add_one, hk] at h2
        rcases List.mem_append.mp h2 with h2 | h2
        · exact few k2 h2
        · have h2 : k2 = k := by simpa using h2
          rw [h2]
          have := of_decide_eq_false c
          omega
    rintro σ H1 ⟨v5, v6, rfl, f1, few, kp⟩
    rw [entsOf, List.length_map, List.take_length] at few
    refine ⟨f1, ?_⟩
    have s2 : Same H (upd H1 d (.dT (entsOf g ad))) := fun c o e => by
      by_cases cd : c = d
      · rw [cd, upd_same]
        rw [cd, dk] at e
        exact e
      · rw [upd_ne cd]
        exact kp _ _ e cd
    generalize upd H1 d (.dT (entsOf g ad)) = H2 at s2 ⊢
    have told2 := told.on s2
    have PZ2 := PZ.same s2
    have TT2 := TT.up s2
    refine ⟨_, rfl, pr, rfl, ⟨_, SqL.of PZ2.li⟩, for_list (K := K) (a := pr) (xs := zs.map fun z => V.ref z.1) (fun j σ H' => ∃ v7 v8 : Option V, σ = [some (.ref d), some (.ref pr), some (.ref nd), some (.int a), some (.int b), v5, v6, v7, v8] ∧ Same H2 H' ∧
      ∀ z ∈ (prs zs).take j, b ≤ (symN (hear z.1) (hear z.2) : Int)) ⟨_, _, rfl, Same.refl _, fun z hz => by simp at hz⟩ (fun j σ H' _ ⟨_, _, _, s, _⟩ => SqL.of (s _ _ PZ2.li)) ?_ ?_⟩
    · rintro j y σ H3 hy ⟨v7, v8, rfl, s3, good⟩
      obtain ⟨z, hzj, rfl⟩ : ∃ z, zs[j]? = some z ∧ y = .ref z.1 := by
        rw [List.getElem?_map] at hy
        cases e : zs[j]? with
        | none =>
          rw [e] at hy
          cases hy
        | some z =>
          rw [e] at hy
          exact ⟨z, rfl, (Option.some.inj hy).symm⟩
      have zin := List.mem_of_getElem? hzj
      have PZ3 := PZ2.same s3
      have TT3 := TT2.up s3
      have pin : (z.2.1.2, z.2.2.2) ∈ prs zs := List.mem_map.mpr ⟨z, zin, rfl⟩
      have pj : (prs zs)[j]? = some (z.2.1.2, z.2.2.2) := by rw [prs, List.getElem?_map, hzj] <;> rfl
      obtain ⟨xin, yin⟩ := hz _ pin
      have q1 := PZ3.e1 z zin
      have q2 := PZ3.e2 z zin
      obtain ⟨w1, Tw1, ew1⟩ := TT3.el _ xin
      obtain ⟨w2, Tw2, ew2⟩ := TT3.el _ yin
      have dg1 : DGet H3 d (.ref z.2.1.1) (some (.ref (ad z.2.1.2))) := by
        have h := DGet.t (k := kI z.2.1.2) TT3.di (by rw [kI_v]; exact q1)
        rw [ents_val xin] at h
        exact h
      obtain ⟨l1, n1⟩ := hh _ xin
      obtain ⟨l2, n2⟩ := hh _ yin
      dsimp only at l1 n1 l2 n2 ew1 ew2
      rw [← ew1] at l1 n1
      rw [← ew2] at l2 n2
      rw [List.length_map] at l1 l2
      refine ⟨z.1, _, rfl, SqT.of (PZ3.pr z zin), rfl, .ref z.2.1.1, _, rfl, .ref z.2.2.1, _, rfl, rfl, ?_⟩
      refine ⟨_, rfl, _, rfl, d, _, rfl, dg1, ad z.2.1.2, w1, rfl, SqL.of Tw1.li, fun r hr2 => SqT.of (Tw1.tu r hr2), by omega, fun a1 L1 na1 sub1 all1 => ?_⟩
      have u1 := upd_same_as (o := SetTO P w a1 L1) na1
      have TT4 := TT3.up u1
      have dg2 : DGet (upd H3 a1 (SetTO P w a1 L1)) d (.ref z.2.2.1) (some (.ref (ad z.2.2.2))) := by
        have h := DGet.t (k := kI z.2.2.2) TT4.di (by rw [kI_v]; exact u1 _ _ q2)
        rw [ents_val yin] at h
        exact h
      refine ⟨_, rfl, _, rfl, d, _, rfl, dg2, ad z.2.2.2, w2, rfl, SqL.of (Tw2.same u1).li, fun r hr2 => SqT.of ((Tw2.same u1).tu r hr2), by omega, fun a2 L2 na2 sub2 all2 => ?_⟩
      have u2 := upd_same_as (o := SetTO P w a2 L2) na2
      have TW := two_of (U := Ks w1 ++ Ks w2) Tw1 Tw2 (by rw [List.length_append, List.length_map, List.length_map]; omega) (fun _ h => List.mem_append_left _ h) (fun _ h => List.mem_append_right _ h) na1 sub1 na2 sub2 (K := K)
      refine ⟨a1, a2, L1, L2, _, rfl, rfl, TW, fun a3 l na3 nl l32 cl => ?_⟩
      have u3 := upd_same_as (o := SetNO a3 l.length) na3
      have s3' := u1.trans (u2.trans u3)
      have cnt : l.length = symN (hear z.2.1.2) (hear z.2.2.2) := by
        rw [← ew1, ← ew2]
        refine cnt_xor n1 n2 nl fun k' => ?_
        rw [cl k', decide_eq_decide.mpr (set_keys sub1 all1 k'), decide_eq_decide.mpr (set_keys sub2 all2 k')]
      refine ⟨a3, l.length, rfl, upd_same, by omega, _, rfl, _, _, rfl, rfl, _, rfl, ?_⟩
      show if decide (((l.length : Nat) : Int) < b) = true then _ else _
      rw [cnt] at u3 s3' ⊢
      refine lc_if (fun c => ?_) fun c => ?_
      · refine ⟨_, rfl, _, rfl, (by show 3 ≤ sizeLine; decide), fun t nt => ?_⟩
        have ut := upd_same_as (o := .tup [V.str "alike", .ref z.2.1.1, .ref z.2.2.1]) nt
        have s5 := s3'.trans ut
        exact told2.alike few _ _ pin (of_decide_eq_true c) t _ _ _ (s3.trans s5) ((s3.trans s3').free nt) upd_same (s5 _ _ q1) (s5 _ _ q2)
      · refine ⟨_, _, rfl, s3.trans s3', fun z' h' => ?_⟩
        rw [List.take_add_one, pj] at h'
        rcases List.mem_append.mp h' with h' | h'
        · exact good z' h'
        · have h' : z' = (z.2.1.2, z.2.2.2) := by simpa using h'
          rw [h']
          have := of_decide_eq_false c
          show b ≤ ((symN (hear z.2.1.2) (hear z.2.2.2) : Nat) : Int)
          omega
    · rintro σ H3 ⟨v7, v8, rfl, s3, good⟩
      refine told2.non few (fun z hz' => good z ?_) H3 s3
      rw [List.length_map, show zs.length = (prs zs).length by rw [prs, List.length_map], List.take_length]
      exact hz'
end
end Kx
/-! Own ground: plans written as texts. -/
namespace Yj
open PySem PySem.Spec PyProof.Rows L2 Ya Ye Yh Yi
/-- the signs of the first n places -/
def wr (l : List Int) : Nat → List Nat
  | 0 => []
  | n + 1 => wr l n ++ [if (n : Int) ∈ l then 111 else 46]
theorem wr_len (l : List Int) : ∀ n, (wr l n).length = n
  | 0 => rfl
  | n + 1 => by
    show (wr l n ++ _).length = n + 1
    rw [List.length_append, wr_len l n]
    rfl
theorem wr_mem (l : List Int) : ∀ n, ∀ c ∈ wr l n, c = 111 ∨ c = 46
  | 0, c, h => nomatch h
  | n + 1, c, h => by
    rcases List.mem_append.mp h with h | h
    · exact wr_mem l n c h
    · have := List.mem_singleton.mp h
      split at this
      · exact .inl this
      · exact .inr this
def pieceS (pl : Nat) (l : List Int) : Str := ⟨(wr l pl).toArray⟩
def textS (pl : Nat) (ls : List (List Int)) : Str := Txt.join ⟨#[32]⟩ (ls.map (pieceS pl))
theorem sg_piece (pl : Nat) (l : List Int) : sg (pieceS pl l) = wr l pl := List.toList_toArray
theorem join_app {g : Str} : ∀ (ps : List Str) (p : Str), ps ≠ [] → Str.join g (ps ++ [p]) = Str.join g ps ++ g ++ p
  | [], _, h => absurd rfl h
  | [q], p, _ => rfl
  | q :: r :: s, p, _ => by
    show q ++ g ++ Str.join g ((r :: s) ++ [p]) = (q ++ g ++ Str.join g (r :: s)) ++ g ++ p
    rw [join_app (r :: s) p (List.cons_ne_nil _ _)]
    have e : ∀ a b : Str, a ++ b = ⟨a.cps ++ b.cps⟩ := fun _ _ => rfl
    simp [e, Array.append_assoc]
theorem glued_join (g : Str) (ps : List Str) : Txt.join g ps = Str.join g ps := StrLaws.glued_eq_join g ps
theorem isS_o : isS 111 = true := by decide +kernel
theorem isS_d : isS 46 = true := by decide +kernel
theorem isS_O : isS 79 = true := by decide +kernel
theorem isO_o : isO 111 = true := by decide +kernel
theorem isO_O : isO 79 = true := by decide +kernel
theorem isO_d : isO 46 = false := by decide +kernel
theorem wr_S (l : List Int) (n : Nat) : ∀ c ∈ wr l n, isS c = true := fun c h => by
  rcases wr_mem l n c h with rfl | rfl
  · exact isS_o
  · exact isS_d
theorem wr_at (l : List Int) : ∀ (n k : Nat), k < n → (wr l n)[k]? = some (if (k : Int) ∈ l then 111 else 46)
  | 0, k, h => absurd h (Nat.not_lt_zero _)
  | n + 1, k, h => by
    show (wr l n ++ _)[k]? = _
    rcases Nat.lt_or_ge k n with c | c
    · rw [List.getElem?_append_left (by rw [wr_len]; exact c)]
      exact wr_at l n k c
    · have e : k = n := by omega
      subst e
      rw [List.getElem?_append_right (by rw [wr_len]; exact Nat.le_refl _), wr_len, Nat.sub_self]
      rfl
/-- strictly rising numbers below n -/
def Rise (pl : Nat) (l : List Int) : Prop := l.Pairwise (· < ·) ∧ ∀ z ∈ l, 0 ≤ z ∧ z < pl
/-- signs that tell the places of l -/
def Tells (pl : Nat) (u : List Nat) (l : List Int) : Prop := u.length = pl ∧ (∀ c ∈ u, isS c = true) ∧ ∀ k, k < pl → at_ u k = decide ((k : Int) ∈ l)
theorem wr_tells (pl : Nat) (l : List Int) : Tells pl (wr l pl) l := by
  refine ⟨wr_len l pl, wr_S l pl, fun k hk => ?_⟩
  show ((wr l pl)[k]?).any isO = _
  rw [wr_at l pl k hk]
  show isO _ = _
  by_cases c : (k : Int) ∈ l
  · rw [if_pos c, decide_eq_true c]
    exact isO_o
  · rw [if_neg c, decide_eq_false c]
    exact isO_d
theorem pcN_rise (f : Nat → Bool) : ∀ n, (pcN f n).Pairwise (· < ·)
  | 0 => .nil
  | n + 1 => by
    show (pcN f n ++ _).Pairwise _
    rw [List.pairwise_append]
    refine ⟨pcN_rise f n, ?_, fun x hx y hy => ?_⟩
    · split
      · exact List.pairwise_singleton _ _
      · exact .nil
    · have := pcN_mem f n x hx
      split at hy
      · have : y = n := by simpa using hy
        omega
      · cases hy
theorem mem_pcN (f : Nat → Bool) : ∀ (n k : Nat), (k : Int) ∈ pcN f n ↔ k < n ∧ f k = true
  | 0, k => ⟨fun (h : (k : Int) ∈ []) => (nomatch h), fun h => absurd h.1 (Nat.not_lt_zero _)⟩
  | n + 1, k => by
    show (k : Int) ∈ pcN f n ++ _ ↔ _
    rw [List.mem_append, mem_pcN f n k]
    constructor
    · rintro (⟨a, b⟩ | h)
      · exact ⟨by omega, b⟩
      · split at h
        · rename_i e
          have : (k : Int) = n := by simpa using h
          have : k = n := by omega
          subst this
          exact ⟨by omega, e⟩
        · cases h
    · rintro ⟨a, b⟩
      rcases Nat.lt_or_ge k n with c | c
      · exact .inl ⟨c, b⟩
      · have e : k = n := by omega
        subst e
        right
        rw [if_pos b]
        exact List.mem_singleton.mpr rfl
theorem rise_eq : ∀ {l m : List Int}, l.Pairwise (· < ·) → m.Pairwise (· < ·) → (∀ z, z ∈ l ↔ z ∈ m) → l = m
  | [], [], _, _, _ => rfl
  | [], y :: m, _, _, h => absurd ((h y).mpr List.mem_cons_self) List.not_mem_nil
  | x :: l, [], _, _, h => absurd ((h x).mp List.mem_cons_self) List.not_mem_nil
  | x :: l, y :: m, hl, hm, h => by
    obtain ⟨l1, l2⟩ := List.pairwise_cons.mp hl
    obtain ⟨m1, m2⟩ := List.pairwise_cons.mp hm
    have e : x = y := by
      rcases List.mem_cons.mp ((h x).mp List.mem_cons_self) with a | a
      · exact a
      · rcases List.mem_cons.mp ((h y).mpr List.mem_cons_self) with b | b
        · exact b.symm
        · have := m1 x a
          have := l1 y b
          omega
    subst e
    congr 1
    refine rise_eq l2 m2 fun z => ⟨fun a => ?_, fun a => ?_⟩
    · rcases List.mem_cons.mp ((h z).mp (List.mem_cons_of_mem _ a)) with b | b
      · have := l1 z a
        omega
      · exact b
    · rcases List.mem_cons.mp ((h z).mpr (List.mem_cons_of_mem _ a)) with b | b
      · have := m1 z a
        omega
      · exact b
theorem tells_piece {pl : Nat} {u : List Nat} {l : List Int} (t : Tells pl u l) (r : Rise pl l) : piece pl u 0 = l := by
  refine rise_eq (pcN_rise _ _) r.1 fun z => ?_
  constructor
  · intro hz
    obtain ⟨z0, z1⟩ := pcN_mem _ _ z hz
    obtain ⟨k, rfl⟩ := Int.eq_ofNat_of_zero_le z0
    obtain ⟨a, b⟩ := (mem_pcN _ _ k).mp hz
    have b : at_ u (0 + k) = true := b
    rw [Nat.zero_add, t.2.2 k a] at b
    exact of_decide_eq_true b
  · intro hz
    obtain ⟨z0, z1⟩ := r.2 z hz
    obtain ⟨k, rfl⟩ := Int.eq_ofNat_of_zero_le z0
    have kl : k < pl := by omega
    refine (mem_pcN _ _ k).mpr ⟨kl, ?_⟩
    show at_ u (0 + k) = true
    rw [Nat.zero_add, t.2.2 k kl]
    exact decide_eq_true hz
theorem told_tells {pl : Nat} {z u : List Nat} {acc : List (List Int)} {l : List Int} (hp : 1 ≤ pl) (t : Told pl z acc) (tt : Tells pl u l) (r : Rise pl l) : Told pl (z ++ u) (acc ++ [l]) := by
  have := told_piece hp t tt.2.1 tt.1
  rw [tells_piece tt r] at this
  exact this
theorem isB_32 : ∀ c ∈ sg (⟨#[32]⟩ : Str), isB c = true := by decide +kernel
/-- a plan's pieces, put behind one another with blanks (or nothing) between, tell the plan -/
theorem told_join {pl : Nat} {g : Str} (hp : 1 ≤ pl) (hg : ∀ c ∈ sg g, isB c = true) : ∀ (n : Nat) (ls : List (List Int)), ls.length = n → (∀ l ∈ ls, Rise pl l) → Told pl (sg (Str.join g (ls.map (pieceS pl)))) ls
  | 0, ls, e, _ => by
    have : ls = [] := List.length_eq_zero_iff.mp e
    subst this
    exact told_nil pl
  | n + 1, ls, e, h => by
    obtain ⟨ms, l, rfl⟩ : ∃ ms l, ls = ms ++ [l] := ⟨ls.dropLast, ls.getLast (by intro z; rw [z] at e; cases e), (List.dropLast_concat_getLast _).symm⟩
    have em : ms.length = n := by
      rw [List.length_append] at e
      simpa using e
    have ih := told_join hp hg n ms em fun x hx => h x (List.mem_append_left _ hx)
    have hl := h l (List.mem_append_right _ List.mem_cons_self)
    rw [List.map_append]
    by_cases c : ms = []
    · subst c
      show Told pl (sg (pieceS pl l)) ([] ++ [l])
      rw [sg_piece]
      have := told_tells (z := []) hp (told_nil pl) (wr_tells pl l) hl
      exact this
    · have ne : ms.map (pieceS pl) ≠ [] := by
        intro z
        exact c (List.map_eq_nil_iff.mp z)
      show Told pl (sg (Str.join g (ms.map (pieceS pl) ++ [pieceS pl l]))) (ms ++ [l])
      rw [join_app _ _ ne, sg_append, sg_append, sg_piece]
      exact told_tells hp (told_blank ih hg) (wr_tells pl l) hl
theorem told_text {pl : Nat} {ls : List (List Int)} (hp : 1 ≤ pl) (h : ∀ l ∈ ls, Rise pl l) : Told pl (sg (textS pl ls)) ls := by
  unfold textS
  rw [glued_join]
  exact told_join hp isB_32 _ ls rfl h
theorem tx_piece (pl : Nat) (l : List Int) : Tx pl (pieceS pl l) := by
  refine ⟨?_, ok_iff.mpr fun c hc => ?_⟩
  · rw [← len_sg, sg_piece, wr_len]
    exact Nat.le_refl _
  · rw [sg_piece] at hc
    rcases wr_mem l pl c hc with rfl | rfl <;> decide
theorem piece_free (pl : Nat) (l : List Int) : 32 ∉ sg (pieceS pl l) := fun h => by
  rw [sg_piece] at h
  rcases wr_mem l pl 32 h with h | h <;> cases h
/-- the parts of a text of pieces -/
theorem split_text {pl : Nat} {ls : List (List Int)} (ne : ls ≠ []) : Txt.split (textS pl ls) ⟨#[32]⟩ = ls.map (pieceS pl) := by
  refine TL.split_join (s := 32) (S := []) rfl (by decide +kernel) (fun z => ne (List.map_eq_nil_iff.mp z)) fun p hp => ?_
  obtain ⟨l, _, rfl⟩ := List.mem_map.mp hp
  exact piece_free pl l
theorem text_flat {pl : Nat} {ls : List (List Int)} (ne : ls ≠ []) (z : Str) : Txt.replace (textS pl ls) ⟨#[32]⟩ z = Str.join z (ls.map (pieceS pl)) := by
  rw [StrLaws.replace_one, split_text ne]
end Yj
/-! What is refused, as data. -/
namespace Kx
open PySem PySem.Spec PyProof.Rows L2 Xa Xb Xc Xd Xs Xp Xm Xr Xl Xk Xq Xt Xu Ya Yb Yc Yd Ye Yf Yg Yh Yi Yj
/-! ### pieces, of data -/
def pceD (pl : Nat) : PyData → Bool
  | .list ds => pceB pl (ds.map numD)
  | _ => false
def pcsD (pl : Nat) : PyData → Bool
  | .list ds => (ds.map (pceD pl)).all id
  | _ => false
def short1 : PyData → Bool
  | .list ds => decide (ds.length ≤ 100)
  | _ => true
def short2 : PyData → Bool
  | .list ds => decide (ds.length ≤ 1000) && ds.all short1
  | _ => true
section
variable {O : Addr → Prop} {H : Hp} {K : PySem.W.Frag}
theorem nums_of_ints : ∀ l : List Int, Nums K H (l.map V.int) ((l.map PyData.int).map numD)
  | [] => .nil
  | x :: l => .cons (.is x) (nums_of_ints l)
theorem lus_nums : ∀ {vs : List V} {ds : List PyData} {ls : List Addr}, Lus O H vs ds ls → Nums K H vs (ds.map numD)
  | _, _, _, .nil => .nil
  | _, _, _, .cons h t => .cons (lu_num h) (lus_nums t)
theorem lu_pce {pl : Nat} {v : V} {d : PyData} {ls : List Addr} (t : Lu O H v d ls) (s : short1 d = true) : Pce K H pl v (pceD pl d) := by
  cases t with
  | lst h t => exact .lst h (lus_nums t) (by rw [lus_len t]; exact of_decide_eq_true s)
  | old o h => exact .lst h (nums_of_ints _) (by rw [List.length_map]; have := of_decide_eq_true s; rw [List.length_map] at this; exact this)
  | non => exact .kind (isk_non _ (by decide +kernel))
  | bl b => exact .kind (isk_bl b _ (by decide +kernel))
  | int i => exact .kind (isk_int i _ (by decide +kernel))
  | str z => exact .kind (isk_str z _ (by decide +kernel))
  | tup h t => exact .kind (isk_tup h _ (by decide +kernel))
  | dic h => exact .kind (isk_dic h _ (by decide +kernel))
theorem lus_pces {pl : Nat} : ∀ {vs : List V} {ds : List PyData} {ls : List Addr}, Lus O H vs ds ls → ds.all short1 = true → Pces K H pl vs (ds.map (pceD pl))
  | _, _, _, .nil, _ => .nil
  | _, _, _, .cons h t, s => by
    rw [List.all_cons] at s
    obtain ⟨s1, s2⟩ := He.ba s
    exact .cons (lu_pce h s1) (lus_pces t s2)
theorem ints_short1 : ∀ l : List Int, (l.map PyData.int).all short1 = true
  | [] => rfl
  | x :: l => by rw [List.map_cons, List.all_cons, ints_short1 l] <;> rfl
theorem lu_pcs {pl : Nat} {v : V} {d : PyData} {ls : List Addr} (t : Lu O H v d ls) (s : short2 d = true) : Pcs K H pl v (pcsD pl d) := by
  cases t with
  | lst h t =>
    obtain ⟨s1, s2⟩ := He.ba s
    exact .lst h (lus_pces t s2) (by rw [lus_len t]; exact of_decide_eq_true s1)
  | @old a l o h =>
    obtain ⟨s1, s2⟩ := He.ba s
    have q : Lus O H (l.map V.int) (l.map .int) [] := by
      clear h s s1 s2
      induction l with
      | nil => exact .nil
      | cons x l ih => exact .cons (l1 := []) (.int x) ih
    exact .lst h (lus_pces q s2) (by rw [lus_len q]; exact of_decide_eq_true s1)
  | non => exact .kind (isk_non _ (by decide +kernel))
  | bl b => exact .kind (isk_bl b _ (by decide +kernel))
  | int i => exact .kind (isk_int i _ (by decide +kernel))
  | str z => exact .kind (isk_str z _ (by decide +kernel))
  | tup h t => exact .kind (isk_tup h _ (by decide +kernel))
  | dic h => exact .kind (isk_dic h _ (by decide +kernel))
/-- lists of ints, told so -/
theorem lus_ll : ∀ {vs : List V} {ls : List Addr} (ps : List (List Int)), Lus O H vs (ps.map lstD) ls → ∃ ks : List (Addr × List Int), vs = (ks.map fun q => V.ref q.1) ∧ (∀ q ∈ ks, H q.1 = some (.lst (q.2.map V.int))) ∧ ks.map (·.2) = ps
  | vs, ls, [], t => by
    cases t
    exact ⟨[], rfl, (fun _ h => nomatch h), rfl⟩
  | vs, ls, l :: ps, t => by
    rw [List.map_cons] at t
    generalize hd : lstD l = d at t
    cases t with
    | @cons v _ _ _ _ _ h t =>
      obtain ⟨ks, rfl, e2, e3⟩ := lus_ll ps t
      have : ∃ a, v = V.ref a ∧ H a = some (.lst (l.map V.int)) := by
        cases h with
        | lst h t =>
          injection hd with hd
          subst hd
          refine ⟨_, rfl, ?_⟩
          rw [h]
          have : ∀ {xs : List V} {l : List Int} {ls : List Addr}, Lus O H xs (l.map .int) ls → xs = l.map V.int := by
            intro xs l
            induction l generalizing xs with
            | nil =>
              intro ls t
              cases t
              rfl
            | cons x l ih =>
              intro ls t
              cases t with
              | cons h t =>
                cases h
                rw [ih t]
                rfl
          rw [this t]
        | @old a l2 o h =>
          refine ⟨_, rfl, ?_⟩
          have e : l = l2 := by
            have : ∀ l l2 : List Int, l.map PyData.int = l2.map .int → l = l2 := by
              intro l
              induction l with
              | nil => intro l2 h; cases l2 with
                | nil => rfl
                | cons _ _ => cases h
              | cons x l ih => intro l2 h; cases l2 with
                | nil => cases h
                | cons y l2 =>
                  injection h with h1 h2
                  injection h1 with h1
                  rw [h1, ih l2 h2]
            exact this _ _ (PyData.list.inj hd)
          rw [h, e]
        | _ => cases hd
      obtain ⟨a, rfl, ha⟩ := this
      refine ⟨(a, l) :: ks, rfl, fun q hq => ?_, by rw [List.map_cons, e3]⟩
      rcases List.mem_cons.mp hq with rfl | hq
      · exact ha
      · exact e2 q hq
/-- a list told as lists of ints -/
theorem lu_ll {v : V} {ls : List Addr} {ps : List (List Int)} (ne : ps ≠ []) (t : Lu O H v (llD ps) ls) : ∃ a ks, v = .ref a ∧ LL H a ks ∧ ks.map (·.2) = ps := by
  unfold llD at t
  generalize hd : ps.map lstD = d at t
  generalize hd2 : PyData.list d = d2 at t
  cases t with
  | lst h t =>
    injection hd2 with hd2
    subst hd2
    subst hd
    obtain ⟨ks, rfl, e2, e3⟩ := lus_ll ps t
    exact ⟨_, ks, rfl, ⟨h, e2⟩, e3⟩
  | @old a l o h =>
    injection hd2 with hd2
    cases ps with
    | nil => exact absurd rfl ne
    | cons p ps =>
      rw [← hd] at hd2
      cases l with
      | nil => cases hd2
      | cons x l =>
        injection hd2 with hd2 _
        cases hd2
  | _ => cases hd2
theorem lu_rep {v : V} {d : PyData} {ls : List Addr} (t : Lu O H v d ls) (hd : d = .dict [] ∨ d.hasDict = false) (e : okD d = true) : Rep K H v d.shown := by
  obtain ⟨_, e⟩ := He.ba e
  obtain ⟨e2, e⟩ := He.ba e
  obtain ⟨e3, e⟩ := He.ba e
  obtain ⟨e4, e5⟩ := He.ba e
  rcases hd with rfl | hd
  · cases t with
    | dic h => exact ⟨.dict [], _, .dic (kvs := []) (ds := []) h .nil .nil, fun _ => List.not_mem_nil, e2, of_decide_eq_true e3, of_decide_eq_true e4, e5, rfl⟩
  · obtain ⟨ls', q⟩ := lu_dq (K := K) t
    exact ⟨d, ls', q, fun z => (by rw [hd] at z; cases z), e2, of_decide_eq_true e3, of_decide_eq_true e4, e5, rfl⟩
end
/-! ### a written list gone through, whose lists are lengthened -/
def badOk : PyData → Prop
  | .list es => es.length < 900 ∧ okD (.list (es ++ [.str "more"])) = true ∧ (PyData.list (es ++ [.str "more"])).hasDict = false
  | d => okD d = true ∧ kitB (kindD d) "list" = some false ∧ (d = .dict [] ∨ d.hasDict = false)
structure Inv (O : Addr → Prop) (H0 : Hp) (L : Addr) (vs : List V) (ds : List PyData) (i : Nat) (H' : Hp) : Prop where
  same : Same H0 H'
  at_ : H' L = some (.lst vs)
  new : H0 L = none
  own : ∀ v ∈ vs, Frs H0 v
  old : ∀ a, O a → ∃ o, H0 a = some o
  rest : ∃ ls, Lus O H' (vs.drop i) (ds.drop i) ls ∧ ls.Nodup ∧ L ∉ ls ∧ ∀ a ∈ ls, H0 a = none
section
variable {O : Addr → Prop} {H0 H' : Hp} {K : PySem.W.Frag} {L : Addr} {vs : List V} {ds : List PyData} {i : Nat} {x : V}
theorem Inv.up (I : Inv O H0 L vs ds i H') {H2 : Hp} (s : Same H' H2) : Inv O H0 L vs ds i H2 :=
  let ⟨ls, t, n, l, f⟩ := I.rest
  ⟨I.same.trans s, s _ _ I.at_, I.new, I.own, I.old, ls, lus_same s t, n, l, f⟩
theorem Inv.step (I : Inv O H0 L vs ds i H') (hx : vs[i]? = some x) : ∃ d l1, ds[i]? = some d ∧ Lu O H' x d l1 ∧ (badOk d → ∃ t H2, Res K H' x t H2 ∧ Inv O H0 L vs ds (i + 1) H2) := by
  obtain ⟨ls, t, nd, nl, fr⟩ := I.rest
  obtain ⟨il, rfl⟩ := List.getElem?_eq_some_iff.mp hx
  rw [List.drop_eq_getElem_cons il] at t
  have dl : i < ds.length := by
    have := lus_len t
    rw [List.length_cons, List.length_drop, List.length_drop] at this
    omega
  rw [List.drop_eq_getElem_cons dl] at t
  generalize hd : ds[i] = d at t
  generalize hv : vs[i] = v at t
  have memv : v ∈ vs := by rw [← hv]; exact List.getElem_mem il
  cases t with
  | @cons _ _ _ _ l1 l2 h t =>
  obtain ⟨n1, n2, n3⟩ := List.nodup_append.mp nd
  refine ⟨d, l1, by rw [List.getElem?_eq_getElem dl, hd], h, fun ok => ?_⟩
  have keep : Inv O H0 L vs ds (i + 1) H' := ⟨I.same, I.at_, I.new, I.own, I.old, l2, t, n2, fun z => nl (List.mem_append_right _ z), fun a z => fr a (List.mem_append_right _ z)⟩
  have other : okD d = true ∧ kitB (kindD d) "list" = some false ∧ (d = .dict [] ∨ d.hasDict = false) → ∃ t H2, Res K H' v t H2 ∧ Inv O H0 L vs ds (i + 1) H2 := fun ⟨o1, o2, o3⟩ => ⟨_, _, .other (lu_isk h o2) (lu_rep h o3 o1), keep⟩
  cases h with
  | non => exact other ok
  | bl b => exact other ok
  | int i => exact other ok
  | str z => exact other ok
  | tup h t => exact other ok
  | dic h => exact other ok
  | old o h =>
    obtain ⟨_, y⟩ := I.old _ o
    rw [I.own _ memv _ rfl] at y
    cases y
  | @lst a xs es le h te =>
    obtain ⟨o1, o2, o3⟩ := ok
    have na : H0 a = none := I.own _ memv _ rfl
    have nO : ¬ O a := fun z => by
      obtain ⟨_, y⟩ := I.old _ z
      rw [na] at y
      cases y
    have ev : ∀ c o, H' c = some o → c ≠ a → (upd H' a (.lst (xs ++ [.str "more"]))) c = some o := fun c o e n => by rw [upd_ne n]; exact e
    obtain ⟨m1, m2⟩ := List.nodup_cons.mp n1
    have te2 := lus_app (lus_but ev ⟨_, h⟩ nO te m1) (.cons (.str "more") .nil)
    refine ⟨_, _, .list h (by rw [lus_len te]; exact o1) (lu_rep (.lst upd_same te2) (.inr o3) o2), fun c o e => ?_, ?_, I.new, I.own, I.old, l2, ?_, n2, fun z => nl (List.mem_append_right _ z), fun a z => fr a (List.mem_append_right _ z)⟩
    · exact ev c o (I.same _ _ e) (ne_of_none e na)
    · exact ev L _ I.at_ fun z => nl (by rw [z]; exact List.mem_append_left _ List.mem_cons_self)
    · exact lus_but ev ⟨_, h⟩ nO t fun z => n3 a List.mem_cons_self a z rfl
end
/-! ### what is no plan -/
def Bad (d : PyData) : Prop := badOk d ∧ short2 d = true ∧ (pcsD 2 d = false ∨ d = .list [])
def dsA (ps : List (List Int)) : List PyData := [.none, .int 3, .list [], .tuple [], .tuple (ps.map lstD), .str "o.", .dict [], .list [.none], .list [.tuple [.int 0]], .list (ps.map lstD ++ [.list [.int 2]]), .list ([.list [.int (-1)]] ++ ps.map lstD), .list [.list [.int 1, .int 0]]]
def dsB : List PyData := [.list [.list [.bool true]], .list [.list [.int 0, .int 0]]]
theorem rise_len {pl : Nat} (h : pl ≤ 2) {l : List Int} (r : Rise pl l) : l.length ≤ 3 ∧ ∀ z ∈ l, z.natAbs < 10 ^ 30 := by
  obtain ⟨r1, r2⟩ := r
  refine ⟨?_, fun z hz => ?_⟩
  · match l, r1, r2 with
    | [], _, _ => exact Nat.zero_le _
    | [_], _, _ => exact Nat.le_of_ble_eq_true rfl
    | [_, _], _, _ => exact Nat.le_of_ble_eq_true rfl
    | a :: b :: c :: l, r1, r2 =>
      have h1 := (List.pairwise_cons.mp r1).1 b (by simp)
      have h2 := (List.pairwise_cons.mp (List.pairwise_cons.mp r1).2).1 c (by simp)
      have h3 := r2 a (by simp)
      have h4 := r2 c (by simp)
      omega
  · have := r2 z hz
    omega
theorem lsts_short1 {pl : Nat} (h : pl ≤ 2) (ps : List (List Int)) (r : ∀ l ∈ ps, Rise pl l) : (ps.map lstD).all short1 = true := by
  refine List.all_eq_true.mpr fun d hd => ?_
  obtain ⟨l, hl, rfl⟩ := List.mem_map.mp hd
  have := (rise_len h (r l hl)).1
  show decide ((l.map PyData.int).length ≤ 100) = true
  rw [List.length_map]
  exact decide_eq_true (by omega)
theorem all_good {pl : Nat} (h : pl ≤ 2) (ps : List (List Int)) (r : ∀ l ∈ ps, Rise pl l) : ∀ d ∈ ps.map lstD, good1 d = true := fun d hd => by
  obtain ⟨l, hl, rfl⟩ := List.mem_map.mp hd
  exact good_lst l (rise_len h (r l hl)).1 (rise_len h (r l hl)).2
theorem noDict (ds : List PyData) (h : ∀ d ∈ ds, good1 d = true) : (PyData.list ds).hasDict = false ∧ (PyData.tuple ds).hasDict = false := by
  obtain ⟨_, _, _, _, _, q⟩ := all_showable ds h
  simp [PyData.hasDict, q]
theorem bad_list {ds : List PyData} (g : ∀ d ∈ ds, good1 d = true) (n : ds.length ≤ 200) (s : ds.all short1 = true) (p : pcsD 2 (.list ds) = false ∨ PyData.list ds = .list []) : Bad (.list ds) := by
  have g2 : ∀ d ∈ ds ++ [.str "more"], good1 d = true := fun d hd => by
    rcases List.mem_append.mp hd with hd | hd
    · exact g d hd
    · obtain rfl := List.mem_singleton.mp hd
      decide +kernel
  refine ⟨⟨by omega, okD_list _ g2 (by rw [List.length_append]; simp; omega), (noDict _ g2).1⟩, ?_, p⟩
  show (decide (ds.length ≤ 1000) && ds.all short1) = true
  rw [s, decide_eq_true (by omega)]
  rfl
theorem dsA_bad {pl : Nat} (h : pl ≤ 2) (ps : List (List Int)) (n : ps.length ≤ 100) (r : ∀ l ∈ ps, Rise pl l) : ∀ d ∈ dsA ps, Bad d := by
  have g := all_good h ps r
  have s := lsts_short1 h ps r
  have c1 : good1 (.list [.int 2]) = true ∧ good1 (.list [.int (-1)]) = true := by decide +kernel
  intro d hd
  simp only [dsA, List.mem_cons, List.not_mem_nil, or_false] at hd
  rcases hd with rfl | rfl | rfl | rfl | rfl | rfl | rfl | rfl | rfl | rfl | rfl | rfl
  · exact ⟨⟨by decide +kernel, by decide +kernel, .inr (by decide +kernel)⟩, rfl, .inl rfl⟩
  · exact ⟨⟨by decide +kernel, by decide +kernel, .inr (by decide +kernel)⟩, rfl, .inl rfl⟩
  · exact bad_list (fun _ h => nomatch h) (by decide) rfl (.inr rfl)
  · exact ⟨⟨by decide +kernel, by decide +kernel, .inr (by decide +kernel)⟩, rfl, .inl rfl⟩
  · exact ⟨⟨okD_tuple _ g (by rw [List.length_map]; omega), by show kitB "tuple" "list" = some false; decide +kernel, .inr (noDict _ g).2⟩, rfl, .inl rfl⟩
  · exact ⟨⟨by decide +kernel, by decide +kernel, .inr (by decide +kernel)⟩, rfl, .inl rfl⟩
  · exact ⟨⟨by decide +kernel, by decide +kernel, .inl rfl⟩, rfl, .inl rfl⟩
  · exact bad_list (fun d hd => by obtain rfl := List.mem_singleton.mp hd; decide +kernel) (by decide) rfl (.inl rfl)
  · exact bad_list (fun d hd => by obtain rfl := List.mem_singleton.mp hd; decide +kernel) (by decide) rfl (.inl rfl)
  · refine bad_list (fun d hd => ?_) (by rw [List.length_append, List.length_map]; simp; omega) (by rw [List.all_append, s]; rfl) (.inl ?_)
    · rcases List.mem_append.mp hd with hd | hd
      · exact g d hd
      · obtain rfl := List.mem_singleton.mp hd
        exact c1.1
    · show ((ps.map lstD ++ [PyData.list [.int 2]]).map (pceD 2)).all id = false
      rw [List.map_append, List.all_append]
      have : (([PyData.list [.int 2]]).map (pceD 2)).all id = false := by decide +kernel
      rw [this, Bool.and_false]
  · refine bad_list (fun d hd => ?_) (by rw [List.length_append, List.length_map]; simp; omega) (by rw [List.all_append, s]; rfl) (.inl ?_)
    · rcases List.mem_append.mp hd with hd | hd
      · obtain rfl := List.mem_singleton.mp hd
        exact c1.2
      · exact g d hd
    · show (([PyData.list [.int (-1)]] ++ ps.map lstD).map (pceD 2)).all id = false
      rw [List.map_append, List.all_append]
      have : (([PyData.list [.int (-1)]]).map (pceD 2)).all id = false := by decide +kernel
      rw [this, Bool.false_and]
  · exact bad_list (fun d hd => by obtain rfl := List.mem_singleton.mp hd; decide +kernel) (by decide) rfl (.inl (by decide +kernel))
theorem dsB_bad : ∀ d ∈ dsB, Bad d := by
  intro d hd
  simp only [dsB, List.mem_cons, List.not_mem_nil, or_false] at hd
  rcases hd with rfl | rfl
  · exact bad_list (fun d hd => by obtain rfl := List.mem_singleton.mp hd; decide +kernel) (by decide) rfl (.inl (by decide +kernel))
  · exact bad_list (fun d hd => by obtain rfl := List.mem_singleton.mp hd; decide +kernel) (by decide) rfl (.inl (by decide +kernel))
/-- what is no number of places -/
def Bad2 (d : PyData) : Prop := badOk d ∧ Xp.inR (numD d) 1 2 = false
def dsC : List PyData := [.none, .int 0, .int 3, .int (-1), .bool true, .str "1", .list [.int 1], .dict []]
theorem dsC_bad : ∀ d ∈ dsC, Bad2 d := by
  intro d hd
  simp only [dsC, List.mem_cons, List.not_mem_nil, or_false] at hd
  rcases hd with rfl | rfl | rfl | rfl | rfl | rfl | rfl | rfl
  · exact ⟨⟨by decide +kernel, by decide +kernel, .inr (by decide +kernel)⟩, by decide +kernel⟩
  · exact ⟨⟨by decide +kernel, by decide +kernel, .inr (by decide +kernel)⟩, by decide +kernel⟩
  · exact ⟨⟨by decide +kernel, by decide +kernel, .inr (by decide +kernel)⟩, by decide +kernel⟩
  · exact ⟨⟨by decide +kernel, by decide +kernel, .inr (by decide +kernel)⟩, by decide +kernel⟩
  · exact ⟨⟨by decide +kernel, by decide +kernel, .inr (by decide +kernel)⟩, by decide +kernel⟩
  · exact ⟨⟨by decide +kernel, by decide +kernel, .inr (by decide +kernel)⟩, by decide +kernel⟩
  · exact ⟨⟨by decide, by decide +kernel, by decide +kernel⟩, by decide +kernel⟩
  · exact ⟨⟨by decide +kernel, by decide +kernel, .inl rfl⟩, by decide +kernel⟩
/-- pieces that rise are pieces of so many places and more -/
theorem asc_rise : ∀ l : List Int, l.Pairwise (· < ·) → asc l = true
  | [], _ => rfl
  | [_], _ => rfl
  | x :: y :: r, h => by
    obtain ⟨h1, h2⟩ := List.pairwise_cons.mp h
    rw [asc, decide_eq_true (h1 y List.mem_cons_self), asc_rise (y :: r) h2]
    rfl
theorem intsO_some : ∀ l : List Int, intsO ((l.map PyData.int).map numD) = l
  | [] => rfl
  | x :: l => by
    show x :: intsO ((l.map PyData.int).map numD) = _
    rw [intsO_some l]
theorem rise_pce {pl m : Nat} (h : pl ≤ m) {l : List Int} (r : Rise pl l) : pceD m (lstD l) = true := by
  show (((l.map PyData.int).map numD).all (fun o => Xp.inR o 0 ((m : Int) - 1)) && asc (intsO ((l.map PyData.int).map numD))) = true
  rw [intsO_some, asc_rise l r.1, Bool.and_true]
  refine List.all_eq_true.mpr fun o ho => ?_
  rw [List.map_map] at ho
  obtain ⟨z, hz, rfl⟩ := List.mem_map.mp ho
  have := r.2 z hz
  show (decide (0 ≤ z) && decide (z ≤ (m : Int) - 1)) = true
  rw [decide_eq_true this.1, decide_eq_true (by omega)]
  rfl
theorem rise_pces {pl m : Nat} (h : pl ≤ m) (ps : List (List Int)) (r : ∀ l ∈ ps, Rise pl l) : ((ps.map lstD).map (pceD m)).all id = true := by
  rw [List.map_map]
  refine List.all_eq_true.mpr fun b hb => ?_
  obtain ⟨l, hl, rfl⟩ := List.mem_map.mp hb
  exact rise_pce h (r l hl)
/-- a plan, as pieces -/
theorem plan_pcs {K : PySem.W.Frag} {H : Hp} {pl m : Nat} {a : Addr} {ks : List (Addr × List Int)} (h : pl ≤ m) (p2 : pl ≤ 2) (L : LL H a ks) (n : ks.length ≤ 500) (r : ∀ q ∈ ks, Rise pl q.2) : Pcs K H m (.ref a) true := by
  have r2 : ∀ l ∈ ks.map (·.2), Rise pl l := fun l hl => by
    obtain ⟨q, hq, rfl⟩ := List.mem_map.mp hl
    exact r q hq
  have q := lus_pces (K := K) (pl := m) (old_lus (O := fun _ => True) ks (fun _ _ => trivial) L.2) (lsts_short1 p2 _ r2)
  have e := Pcs.lst L.1 q (by rw [List.length_map]; omega)
  rw [rise_pces h _ r2] at e
  exact e
end Kx
/-! fault, is_good: plans and needs that fit. -/
namespace Kx
open PySem PySem.Spec PyProof.Rows L2 Xa Xb Xc Xd Xs Xp Xm Xr Xl Xq Ya Yb Yc Yd Ye Yf Yr Zb Zi Zl Zn Zp Zq
abbrev sFault : Stmt := top 28
theorem pl_good {K : PySem.W.Frag} {H : Hp} {pl : Nat} {u : Addr} {ks : List (Addr × List Int)} (pp : pl = 1 ∨ pl = 2) (L : LL H u ks) (n1 : 1 ≤ ks.length) (n9 : ks.length ≤ 300) (pc : ∀ q ∈ ks, Pc pl q.2) : IsPl K H pl (.ref u) true :=
  ⟨true, ks.length, plan_pcs (Nat.le_refl pl) (by omega) L (by omega) fun q hq => ⟨(pc q hq).1, (pc q hq).2⟩, fun _ => ⟨u, _, rfl, L.1, by rw [List.length_map]⟩, by rw [decide_eq_true (show 0 < ks.length by omega)]; rfl⟩
section
variable {P : Program} {w : World} {K : PySem.W.Frag} {mg : Str → Option Value} {base : Heap} {f C CN CX CW CP : Addr} {fd : FuncData}
/-- what fault tells -/
structure FTell (H : Hp) (g : List (List Int)) (hear : List Int → List (List Int)) (near : List Int → List Int → Prop) (a b : Int) (Q : VK) : Prop where
  non : (∀ k ∈ g, a ≤ ((hear k).length : Int)) → (∀ x ∈ g, ∀ y ∈ g, HT.lexLt x y = true → near x y → b ≤ (symN (hear x) (hear y) : Int)) → ∀ H', Same H H' → Q .non H'
  few : ∀ k ∈ g, ((hear k).length : Int) < a → ∀ t q H', Same H H' → H t = none → H' t = some (.tup [.str "few", .ref q]) → H' q = some (.tup (k.map V.int)) → Q (.ref t) H'
  alike : (∀ k ∈ g, a ≤ ((hear k).length : Int)) → ∀ x ∈ g, ∀ y ∈ g, HT.lexLt x y = true → near x y → (symN (hear x) (hear y) : Int) < b → ∀ t q r H', Same H H' → H t = none → H' t = some (.tup [.str "alike", .ref q, .ref r]) → H' q = some (.tup (x.map V.int)) → H' r = some (.tup (y.map V.int)) → Q (.ref t) H'
def spFault (C : Addr) : Sp := fun xs H Q _ => ∃ (p l u nd : Addr) (pl : Nat) (rc a b : Int) (qs ks : List (Addr × List Int)) (rg : Bool), xs = [.ref p, .ref u, .ref nd, .bl rg] ∧ WebQ C H p l pl rc qs ∧ 1 ≤ rc ∧ rc ≤ 2 ∧ LL H u ks ∧ 1 ≤ ks.length ∧ ks.length ≤ 300 ∧ (∀ q ∈ ks, Pc pl q.2) ∧ H nd = some (.tup [.int a, .int b]) ∧
  1 ≤ a ∧ a ≤ 3 ∧ 0 ≤ b ∧ b ≤ 2 * a ∧ (∀ k ∈ grid ks.length pl, (hearL (qs.map (·.2)) rg ks.length (wts (ks.map (·.2))) k).length < 16) ∧
  FTell H (grid ks.length pl) (hearL (qs.map (·.2)) rg ks.length (wts (ks.map (·.2)))) (NearK ks.length (2 * rc) rg) a b Q
theorem scFault : FnScope ["web", "plan", "needs", "ring"] ["web", "plan", "needs", "ring"] (defScope sFault) := ⟨rfl, rfl, rfl, by decide +kernel, rfl, by decide +kernel, by decide +kernel⟩
theorem ok_fault {dvs : List V} {kws : List (Str × V)} (F : FunD K "fault" "fault" (defArgs sFault) (defBody sFault) (defScope sFault) dvs kws f fd) (B : Bi3 mg) (cP : Can P w K mg base (L2.CX P w) 6 "check_plan" ["web", "plan"] (spCkPlan K C CW CP))
    (cN : Can P w K mg base (L2.CX P w) 4 "check_needs" ["needs"] (spCkNeeds K CX)) (c3 : Can P w K mg base (L2.CX P w) 4 "check_ring" ["ring"] (spCkRing K CN)) (cH : Can P w K mg base CX0 6 "hearing" ["web", "plan", "ring"] (spHearing C))
    (cQ : Can P w K mg base CX0 2 "near_pairs" ["web", "n", "ring"] (spNearQ C)) (cF : Can P w K mg base CX0 1 "first_fault" ["table", "pairs", "needs"] spFirst) : FnOk P w K mg base (L2.CX P w) 7 f fd ["web", "plan", "needs", "ring"] (spFault C) := by
  refine F.ok scFault (fun xs H Q E h => ?_) (fun cdv A outer s H vs Q E hr h => ?_)
  · obtain ⟨p, l, u, nd, pl, rc, a, b, qs, ks, rg, rfl, _⟩ := h
    rfl
  · obtain ⟨p, l, u, nd, pl, rc, a, b, qs, ks, rg, rfl, W, rc1, rc2, L, n1, n3, pc, hnd, a1, a3, b0, b1, few, told⟩ := h
    have pass : Passes (L2.CX P w) (cxOf (L2.CX P w) P w K mg base ["web", "plan", "needs", "ring"] "fault" (defScope sFault) f cdv A outer s H E) E := passes_call (takes_of rfl rfl rfl rfl) fun _ _ _ _ z => z
    refine ⟨_, pss_cons (ps_expr <| pe_can cP hr pass <| pa_cons (pv 0) <| pa1 <| pv 1) <| pss_cons (ps_expr <| pe_can cN (hr.mono (by decide)) pass <| pa1 <| pv 2) <| pss_cons (ps_expr <| pe_can c3 (hr.mono (by decide)) pass <| pa1 <| pv 3) <|
      pss_one <| ps_ret <| pe_can cF (hr.mono (by decide)) pass0 <| pa_cons (pe_can cH hr pass0 <| pa_cons (pv 0) <| pa_cons (pv 1) <| pa1 <| pv 3) <| pa_cons (pe_can cQ (hr.mono (by decide)) pass0 <| pa_cons (pv 0) <| pa_cons (pe_bi call_len_seq B.len <| pa1 <| pv 1) <| pa1 <| pv 3) <| pa1 <| pv 2, ?_⟩
    refine ⟨_, rfl, _, rfl, _, _, rfl, .inr ⟨p, l, pl, rc, qs, true, rfl, W.wb, pl_good W.pp L n1 (by omega) pc, (fun e => nomatch e), fun _ H1 s1 => ?_⟩⟩
    refine ⟨_, rfl, _, true, rfl, Nds.good (s1 _ _ hnd) a1 a3 b0 b1, fun _ => ?_, fun e => nomatch e⟩
    refine ⟨_, rfl, _, true, rfl, isk_bl rg _ (by decide +kernel), fun _ => ?_, fun e => nomatch e⟩
    refine ⟨_, rfl, _, rfl, _, rfl, p, l, u, pl, rc, qs, ks, rg, rfl, W.same s1, LL.same s1 L, n1, n3, pc, fun d ad H2 TT => ?_⟩
    have s2 := s1.trans TT.same
    have L2 := LL.same s2 L
    refine ⟨_, rfl, _, rfl, u, _, rfl, .inl (SqL.of L2.1), ?_⟩
    rw [List.length_map]
    refine ⟨_, rfl, p, l, pl, ks.length, rc, qs, rg, rfl, W.same s2, rc1, rc2, n1, n3, fun pr zs H3 s3 npr PZ mem zl => ?_⟩
    have s03 := s2.trans s3
    have wn : (wts (ks.map (·.2))).Nodup := wtsN_nodup 0 _ fun p0 hp => by
      obtain ⟨r, hr2, rfl⟩ := List.mem_map.mp hp
      exact (pc r hr2).1.imp fun z => Int.ne_of_lt z
    refine ⟨_, rfl, d, pr, nd, a, b, grid ks.length pl, ad, _, zs, H1, rfl, TT.up s3, PZ, s03 _ _ hnd, fun k hk => ⟨few k hk, wn.sublist List.filter_sublist⟩, fun z hz => ?_, ⟨fun h1 h2 H' s' => ?_, fun k hk h t q H' s' n => ?_, fun h1 x y hz h t q r H' s' n => ?_⟩⟩
    · obtain ⟨x, y⟩ := z
      have := (mem x y).mp hz
      exact ⟨this.1, this.2.1⟩
    · exact told.non h1 (fun x hx y hy lt nr => h2 (x, y) ((mem x y).mpr ⟨hx, hy, lt, nr⟩)) H' (s03.trans s')
    · exact told.few k hk h t q H' (s03.trans s') (s03.free n)
    · obtain ⟨hx, hy, lt, nr⟩ := (mem x y).mp hz
      exact told.alike h1 x hx y hy lt nr h t q r H' (s03.trans s') (s03.free n)
end
end Kx
/-! Few hear a spot; what the hearers of a part of a plan are. -/
namespace Kx
open PySem PySem.Spec PyProof.Rows L2 Xa Xb Xc Xd Xs Xp Xm Xr Xl Xq Ya Yb Yc Yd Ye Yf Yr Zb Zi Zl Zn Zp Zq
theorem back_mod {a d n : Int} (a0 : 0 ≤ a) (an : a < n) : ((a + d).fmod n - d).fmod n = a := by
  rw [Int.fmod_eq_emod_of_nonneg _ (by omega), Int.fmod_eq_emod_of_nonneg _ (by omega), Int.sub_emod, Int.emod_emod, ← Int.sub_emod, Int.add_sub_cancel, Int.emod_eq_of_lt a0 an]
/-- a watcher that hears a spot, by a tuple of the web -/
theorem hear_by {ls : List (List Int)} {rg : Bool} {n : Int} {W : List (List Int)} {k w : List Int} (h : w ∈ hearL ls rg n W k) (two : ∀ w ∈ W, ∃ a b, w = [a, b]) : ∃ a b j d, w = [a, b] ∧ [a, b] ∈ W ∧ [b, j, d] ∈ ls ∧ 0 ≤ further rg n a d ∧ further rg n a d < n ∧ k = [further rg n a d, j] := by
  obtain ⟨hw, hb⟩ := List.mem_filter.mp h
  obtain ⟨a, b, rfl⟩ := two w hw
  obtain ⟨j, d, h1, h2, h3, h4⟩ := hrB_iff.mp hb
  exact ⟨a, b, j, d, rfl, hw, h1, h2, h3, h4⟩
theorem hear_few {pl : Nat} {ls : List (List Int)} {rg : Bool} {n : Int} {W : List (List Int)} (pp : pl = 1 ∨ pl = 2) (lk : ∀ l ∈ ls, Lnk pl l) (nd : W.Nodup) (two : ∀ w ∈ W, ∃ a b, w = [a, b] ∧ 0 ≤ a ∧ a < n) (k : List Int) : (hearL ls rg n W k).length ≤ 10 := by
  obtain ⟨x, hx⟩ : ∃ x : Int, x = k.headD 0 := ⟨_, rfl⟩
  refine nd_len (hearL ls rg n W k) (([-2, -1, 0, 1, 2] : List Int).flatMap fun d => [[if rg then (x - d).fmod n else x - d, 0], [if rg then (x - d).fmod n else x - d, 1]]) (nd.sublist List.filter_sublist) fun w hw => ?_
  obtain ⟨a, b, j, d, rfl, hW, hl, f0, f1, rfl⟩ := hear_by hw fun w h => let ⟨a, b, e, _⟩ := two w h; ⟨a, b, e⟩
  obtain ⟨a', b', e, a0, an⟩ := two _ hW
  injection e with e1 e
  injection e with e2 _
  subst e1 e2
  obtain ⟨i1, j1, d1, el, i0, i2, _, _, d0, d2⟩ := lk _ hl
  injection el with el1 el
  injection el with el2 el
  injection el with el3 _
  subst el1 el2 el3
  have ea : (if rg then (x - d).fmod n else x - d) = a := by
    rw [hx]
    show (if rg then (further rg n a d - d).fmod n else further rg n a d - d) = a
    unfold further
    cases rg
    · simp only [Bool.false_eq_true, if_false]
      omega
    · simp only [if_true]
      exact back_mod a0 an
  have hd : d = -2 ∨ d = -1 ∨ d = 0 ∨ d = 1 ∨ d = 2 := by omega
  have hb : b = 0 ∨ b = 1 := by omega
  refine List.mem_flatMap.mpr ⟨d, ?_, ?_⟩
  · rcases hd with rfl | rfl | rfl | rfl | rfl <;> simp
  · rw [ea]
    rcases hb with rfl | rfl <;> simp
/-- two rows behind one another -/
theorem wtsN_app : ∀ (t : Nat) (p q : List (List Int)), wtsN t (p ++ q) = wtsN t p ++ wtsN (t + p.length) q
  | t, [], q => by simp [wtsN]
  | t, x :: p, q => by
    rw [List.cons_append, wtsN, wtsN_app (t + 1) p q, wtsN, List.append_assoc, List.length_cons]
    have e : t + 1 + p.length = t + (p.length + 1) := by omega
    rw [e]
theorem wtsN_sh (s : Nat) : ∀ (t : Nat) (p : List (List Int)), wtsN (t + s) p = (wtsN t p).map fun k => match k with
    | [a, b] => [a + (s : Int), b]
    | k => k
  | _, [] => rfl
  | t, x :: p => by
    rw [wtsN, wtsN, List.map_append, show t + s + 1 = t + 1 + s by omega, wtsN_sh s (t + 1) p, List.map_map]
    congr 1
end Kx
/-! Functions called within a try, what leaves them may depend on the state. -/
namespace Zd
open L2 PySem PySem.Spec PyProof.Rows Xa Xb Xc Xp Xm
def tFnN (n j : Nat) (sp : Sp) (gV : List V → List V → List V) (E : L2.St → XK) (t tk : TA) : TE := fun σ H Q => t σ H fun vs G => tk σ G fun zs G2 => (vs.length = n ∧ zs.length = j) ∧ sp (gV vs zs) G2 Q (E σ)
def tFnS (sp : Sp) (dvs : List V) (E : L2.St → XK) (t : TA) : TE := fun σ H Q => t σ H fun vs G => sp (vs ++ dvs) G Q (E σ)
section
variable {X : Cx} {CX : CXT} {k n : Nat} {f : Addr} {fd : FuncData} {ps ks : List Str} {sp : Sp} {E : L2.St → XK} {x : Str} {p pos : Pos} {e : Expr} {es : List Expr} {kws : List Keyword} {t tk : TA} {g : List Value → List Value → List Value} {gV : List V → List V → List V} {ds : List Value} {dvs : List V}
/-- f(e, .., k = v, ..) -/
theorem pe_fnN (F : FnOk X.prog X.w X.K X.mg X.base CX k f fd ps sp) (hr : Room k X.A) (hg : Gl X x) (hm : X.mg x = some (.ref f)) (kp : PySem.W.keepIn X.K (.ref f) = true) (hb : KBn X.K fd ps n ks g gV) (hx : ∀ σ, PassesAt CX X σ (E σ)) (ha : PA X (e :: es) t) (hkw : PK X kws tk)
    (all : (backToKw pos (keywordEach kws X.env)).all (·.1.isSome) = true := by rfl) (eks : (backToKw pos (keywordEach kws X.env)).filterMap (·.1) = ks := by rfl) (db : (x == ("__debug__" : Str)) = false := by decide) (he : starEach (e :: es) X.env = (false, eval e X.env) :: starEach es X.env := by rfl)
    (hpl : ((backTo pos (starEach (e :: es) X.env)).any (·.1) || (backToKw pos (keywordEach kws X.env)).any (·.1.isNone)) = false := by rfl) :
    PE X (.Call (.Name x p) (e :: es) kws pos) (tFnN n ks.length sp gV E t tk) := by
  refine ⟨fun pns sh vs G Q I h => wpAny_Call_Name_kw (ld_glob I hg hm ?_ db)⟩
  refine (PySem.W.callWith_KW (h₀ := X.base) I.ok.mod.kin kp all (thn (ha.run pos pns sh vs G _ I h) fun us s1 ⟨xs, G1, I1, r, q⟩ => ?_) hpl he)
  refine thn (hkw.run pos pns s1 vs G1 _ I1 q) fun ws s2 ⟨zs, G2, I2, rz, ⟨l1, l2⟩, q2⟩ => ⟨I2.kIn, ?_⟩
  rw [eks]
  exact fin_call (ar := ⟨us, ks.zip ws⟩) F hr (hx vs) I2 (hb.to s2 us ws I2.kIn (r.length.symm.trans l1) (rz.length.symm.trans l2)) (hb.rel r rz) q2
/-- f(e, ..), the left ones by their defaults -/
theorem pe_fnS (F : FnOk X.prog X.w X.K X.mg X.base CX k f fd ps sp) (hr : Room k X.A) (hg : Gl X x) (hm : X.mg x = some (.ref f)) (kp : PySem.W.keepIn X.K (.ref f) = true) (hb : Binds X.K fd ps ds) (hd : Vals dvs ds) (hx : ∀ σ, PassesAt CX X σ (E σ)) (ha : PA X (e :: es) t)
    (db : (x == ("__debug__" : Str)) = false := by decide) (he : starEach (e :: es) X.env = (false, eval e X.env) :: starEach es X.env := by rfl) (hpl : (backTo pos (starEach es X.env)).any (·.1) = false := by rfl) :
    PE X (.Call (.Name x p) (e :: es) [] pos) (tFnS sp dvs E t) := by
  refine ⟨fun pns sh vs G Q I h => Call_ (ld_glob I hg hm ?_ db)⟩
  refine (PySem.W.callWith_K (h₀ := X.base) I.ok.mod.kin kp (thn (ha.run pos pns sh vs G _ I h) fun us s1 ⟨xs, G1, I1, r, q⟩ => ⟨I1.kIn, ?_⟩) he hpl)
  have r2 : Vals (xs ++ dvs) (us ++ ds) := r.append hd
  exact fin_call (ar := ⟨us, []⟩) F hr (hx vs) I1 (hb s1 us I1.kIn (by rw [← r2.length]; exact F.len _ _ _ _ q)) r2 q
end
end Zd
/-! is_good: plans and needs that fit. -/
namespace Kx
open PySem PySem.Spec PyProof.Rows L2 Xa Xb Xc Xd Xs Xp Xm Xr Xl Xq Ya Yb Yc Yd Ye Yf Yr Zb Zd Zi Zl Zn Zp Zq
abbrev sIsGood : Stmt := top 29
section
variable {P : Program} {w : World} {K : PySem.W.Frag} {mg : Str → Option Value} {base : Heap} {f C : Addr} {fd : FuncData}
def spGood (C : Addr) : Sp := fun xs H Q _ => ∃ (p l u nd : Addr) (pl : Nat) (rc a b : Int) (qs ks : List (Addr × List Int)) (rg : Bool), xs = [.ref p, .ref u, .ref nd, .bl rg] ∧ WebQ C H p l pl rc qs ∧ 1 ≤ rc ∧ rc ≤ 2 ∧ LL H u ks ∧ 1 ≤ ks.length ∧ ks.length ≤ 300 ∧ (∀ q ∈ ks, Pc pl q.2) ∧ H nd = some (.tup [.int a, .int b]) ∧
  1 ≤ a ∧ a ≤ 3 ∧ 0 ≤ b ∧ b ≤ 2 * a ∧ (∀ k ∈ grid ks.length pl, (hearL (qs.map (·.2)) rg ks.length (wts (ks.map (·.2))) k).length < 16) ∧
  ((∀ k ∈ grid ks.length pl, a ≤ ((hearL (qs.map (·.2)) rg ks.length (wts (ks.map (·.2))) k).length : Int)) → (∀ x ∈ grid ks.length pl, ∀ y ∈ grid ks.length pl, HT.lexLt x y = true → NearK ks.length (2 * rc) rg x y → b ≤ (symN (hearL (qs.map (·.2)) rg ks.length (wts (ks.map (·.2))) x) (hearL (qs.map (·.2)) rg ks.length (wts (ks.map (·.2))) y) : Int)) → ∀ H', Same H H' → Q (.bl true) H') ∧
  ∀ H', Same H H' → Q (.bl false) H'
theorem scIsGood : FnScope ["web", "plan", "needs", "ring"] ["web", "plan", "needs", "ring"] (defScope sIsGood) := ⟨rfl, rfl, rfl, by decide +kernel, rfl, by decide +kernel, by decide +kernel⟩
theorem ok_isgood {dvs : List V} {kws : List (Str × V)} (F : FunD K "is_good" "is_good" (defArgs sIsGood) (defBody sIsGood) (defScope sIsGood) dvs kws f fd) {fF : Addr} {fdF : FuncData} (oF : FnOk P w K mg base (L2.CX P w) 7 fF fdF ["web", "plan", "needs", "ring"] (spFault C)) (gF : mg "fault" = some (.ref fF))
    (kF : PySem.W.keepIn K (.ref fF) = true) (bF : KBn K fdF ["web", "plan", "needs", "ring"] 3 ["ring"] (fun us ws => us ++ ws) (fun vs zs => vs ++ zs)) : FnOk P w K mg base (L2.CX P w) 8 f fd ["web", "plan", "needs", "ring"] (spGood C) := by
  refine F.ok scIsGood (fun xs H Q E h => ?_) (fun cdv A outer s H vs Q E hr h => ?_)
  · obtain ⟨p, l, u, nd, pl, rc, a, b, qs, ks, rg, rfl, _⟩ := h
    rfl
  · obtain ⟨p, l, u, nd, pl, rc, a, b, qs, ks, rg, rfl, W, rc1, rc2, L, n1, n3, pc, hnd, a1, a3, b0, b1, few, yes, no⟩ := h
    refine ⟨_, pss_one <| ps_ret <| pe_cmpR op_isN (pe_fnN (E := fun _ => E0) oF hr rfl gF kF bF passAt0 (pa_cons (pv 0) <| pa_cons (pv 1) <| pa1 <| pv 2) (pk_cons (pv 3) pk_nil)) pe_non (nomark _), ?_⟩
    refine ⟨_, rfl, _, rfl, _, rfl, _, rfl, ⟨rfl, rfl⟩, p, l, u, nd, pl, rc, a, b, qs, ks, rg, rfl, W, rc1, rc2, L, n1, n3, pc, hnd, a1, a3, b0, b1, few, ⟨fun h1 h2 H' s' => ⟨rfl, yes h1 h2 H' s'⟩, fun k hk h t q H' s' n ht hq => ⟨rfl, no H' s'⟩, fun h1 x hx y hy lt nr h t q r H' s' n ht hq hr2 => ⟨rfl, no H' s'⟩⟩⟩
end
end Kx
/-! The law's own table. -/
namespace Kx
open PySem PySem.Spec PyProof.Rows L2 Xa Xb Xc Xd Xs Xp Xm Xr Xl Xq Ya Yb Yc Yd Ye Yf Yr Zb
abbrev sLWatch : Stmt := top 53
abbrev sLHear : Stmt := top 54
section
variable {P : Program} {w : World} {K : PySem.W.Frag} {mg : Str → Option Value} {base : Heap} {f : Addr} {fd : FuncData}
abbrev nLWatch : List Str := ["plan", "found", "at", "place"]
theorem scLWatch : FnScope nLWatch ["plan"] (defScope sLWatch) := ⟨rfl, rfl, rfl, by decide +kernel, rfl, by decide +kernel, by decide +kernel⟩
theorem can_lwatch (D : Dfn K mg "_law_watchers" sLWatch) (B : Bi3 mg) : CanG P w K mg base 1 "_law_watchers" ["plan"] spWatchers := by
  obtain ⟨f, fd, F, g⟩ := D.at_
  refine FnG.can (okG F scLWatch (fun xs H Q E h => ?_) (fun cdv A outer s H vs Q E hr hn h => ?_)) F g fun _ _ _ _ _ _ us hl => match us, hl with | [_], _ => rfl
  · obtain ⟨u, ks, rfl, _⟩ := h
    rfl
  · obtain ⟨u, ks, rfl, L, few, sh, q⟩ := h
    refine ⟨_, PSs.nox <| pss_cons (ps_set (i := 1) scLWatch.nd rfl (.inl rfl) <| pe_lst pa_nil) <|
      pss_cons (ps_for PassesOwn.never rfl (pi_range1 (by rfl) B.range <| pa1 <| pe_bi call_len_seq B.len <| pa1 <| pv 0) (pg_name (i := 2) scLWatch.nd rfl (.inr rfl)) <|
        pss_one <| ps_set (i := 1) scLWatch.nd rfl (.inl rfl) <| pe_op op_cat (pv 1) <| pe_lc (own := [("place", 3)]) (g := gName 3) (tt := tYes) rfl scLWatch.nd (pi_list <| pe_ix ix_list (pv 0) (pv 2) (fun _ _ => rfl)) (blkOk_by (own := [("place", 3)]) (N := nLWatch) (sc := defScope sLWatch) (by decide +kernel))
          (fun _ _ _ _ _ => pg_name (i := 3) scLWatch.nd rfl (Or.inl rfl)) (fun _ _ _ _ _ => pts_nil) (fun _ _ _ _ _ => pe_tup <| pa_cons (pv 2) <| pa1 <| pv 3)) <|
      pss_one <| ps_ret <| pv 1, ?_⟩
    refine ⟨(by show 0 ≤ sizeLine; decide), fun r0 nr0 => ?_⟩
    have kl : ((ks.map fun q => V.ref q.1).length : Int) = (ks.length : Int) := by rw [List.length_map]
    refine ⟨_, rfl, u, _, rfl, .inl (SqL.of (upd_same_as nr0 _ _ L.1)), ?_⟩
    rw [kl]
    refine ⟨_, rfl, by omega, by omega, for_range (lo := 0) (n := ks.length) (fun i σ H' => ∃ (r : Addr) (ws : List (Addr × List Int)) (v2 : Option V), σ = [some (.ref u), some (.ref r), v2, none] ∧ TL H' r ws ∧ ws.map (·.2) = wts ((ks.take i).map (·.2)) ∧ Same H H' ∧ H r = none)
      ⟨r0, [], none, rfl, ⟨upd_same, fun q hq => nomatch hq⟩, rfl, upd_same_as nr0, nr0⟩ ?_ ?_⟩
    · rintro i σ H' hi ⟨r, ws, v2, rfl, T, ew, sm, nr⟩
      have hi : i < ks.length := hi
      obtain ⟨k, hk⟩ : ∃ k, ks[i]? = some k := ⟨ks[i], by simp [hi]⟩
      have kin := List.mem_of_getElem? hk
      have L' := LL.same sm L
      have hkk := L'.2 k kin
      have hat : atI (ks.map fun q => V.ref q.1) (0 + (i : Nat) : Int) = some (.ref k.1) := by
        rw [Int.zero_add]
        exact atI_nat (by rw [List.getElem?_map, hk]; rfl)
      have shk := sh k kin
      have ln : ws.length ≤ 10 * 300 := by
        have h := congrArg List.length ew
        rw [List.length_map] at h
        have h2 := wts_len (m := 10) (ps := (ks.take i).map (·.2)) fun p hp => by
          obtain ⟨y, hy, rfl⟩ := List.mem_map.mp hp
          exact sh y (List.mem_of_mem_take hy)
        rw [List.length_map, List.length_take] at h2
        have : min i ks.length ≤ 300 := by omega
        have := Nat.mul_le_mul_left 10 this
        omega
      refine ⟨_, rfl, _, rfl, _, rfl, u, _, _, .ref k.1, rfl, rfl, SqL.of L'.1, hat, k.1, rfl, ⟨_, SqL.of hkk⟩, fun D nD => ?_⟩
      refine lc_list (K := K) (a := k.1) (xs := k.2.map V.int) (fun j H4 => ∃ zs, TL H4 D zs ∧ zs.map (·.2) = (k.2.take j).map (fun z => [(i : Int), z]) ∧ Same H' H4) ⟨[], ⟨upd_same, fun q hq => nomatch hq⟩, rfl, upd_same_as nD⟩ (fun j H4 _ ⟨_, _, _, s⟩ => SqL.of (s _ _ hkk)) ?_ ?_
      · rintro j y H4 hy ⟨zs, T4, e4, s4⟩
        obtain ⟨z, hz, rfl⟩ : ∃ z, k.2[j]? = some z ∧ y = .int z := by
          rw [List.getElem?_map] at hy
          cases e : k.2[j]? with
          | none =>
            rw [e] at hy
            cases hy
          | some z =>
            rw [e] at hy
            exact ⟨z, rfl, (Option.some.inj hy).symm⟩
        have zl : zs.length ≤ 10 := by
          have h := congrArg List.length e4
          rw [List.length_map, List.length_map, List.length_take] at h
          omega
        refine ⟨rfl, lc_yes2 ⟨_, rfl, _, rfl, (by show 2 ≤ sizeLine; decide), fun t nt => ?_⟩⟩
        simp only [Int.zero_add]
        have Dt : D ≠ t := ne_of_none T4.li nt
        refine ⟨_, by rw [upd_ne Dt]; exact T4.li, by rw [List.length_map]; exact small_ (by omega), zs ++ [(t, [(i : Int), z])], T4.put (l := [(i : Int), z]) nt, ?_, fun c o e => ?_⟩
        · rw [List.map_append, e4, List.take_add_one, hz]
          simp
        · rw [upd_ne (ne_of_none e nD)]
          exact upd_same_as nt _ _ (s4 _ _ e)
      · rintro H4 ⟨zs, T4, e4, s4⟩
        rw [List.length_map, List.take_length] at e4
        have zl : zs.length ≤ 10 := by
          have h := congrArg List.length e4
          rw [List.length_map, List.length_map] at h
          omega
        have TW := T.same s4
        refine ⟨r, D, _, _, rfl, rfl, TW.li, T4.li, by rw [List.length_map, List.length_map, sizeLine_eq]; omega, fun x nx => ?_⟩
        have s5 := upd_same_as (o := .lst ((ws.map fun q => V.ref q.1) ++ zs.map fun q => V.ref q.1)) nx
        refine ⟨x, ws ++ zs, _, rfl, ⟨by rw [upd_same, List.map_append], fun q hq => ?_⟩, ?_, sm.trans (s4.trans s5), (sm.trans s4).free nx⟩
        · rcases List.mem_append.mp hq with hq | hq
          · exact s5 _ _ (TW.tu q hq)
          · exact s5 _ _ (T4.tu q hq)
        · have e : ((ks.take i).map (·.2)).length = i := by
            rw [List.length_map, List.length_take]
            omega
          rw [List.map_append, ew, e4, List.take_add_one, hk]
          show _ = wts ((ks.take i ++ [k]).map (·.2))
          rw [List.map_append]
          show _ = wts ((ks.take i).map (·.2) ++ [k.2])
          rw [wts_snoc, e]
    · rintro σ H' ⟨r, ws, v2, rfl, T, ew, sm, nr⟩
      rw [List.take_length] at ew
      exact ⟨_, rfl, q r ws H' sm nr T ew⟩
end
end Kx
/-! The law's own table: hearers. -/
namespace Kx
open PySem PySem.Spec PyProof.Rows L2 Xa Xb Xc Xd Xs Xp Xm Xr Xl Xq Ya Yb Yc Yd Ye Yf Yr Zb
section
variable {P : Program} {w : World} {K : PySem.W.Frag} {mg : Str → Option Value} {base : Heap} {f : Addr} {fd : FuncData}
/-- the law's own web -/
structure PartQ (H : Hp) (tp la : Addr) (pl : Nat) (qs : List (Addr × List Int)) : Prop where
  tp : H tp = some (.tup [.int pl, .ref la])
  la : H la = some (.lst (qs.map fun q => V.ref q.1))
  tu : TupsAt H qs
  lk : ∀ q ∈ qs, Lnk pl q.2
  pp : pl = 1 ∨ pl = 2
  few : qs.length ≤ 20
theorem PartQ.same {H H' : Hp} {tp la : Addr} {pl : Nat} {qs : List (Addr × List Int)} (s : Same H H') (W : PartQ H tp la pl qs) : PartQ H' tp la pl qs := ⟨s _ _ W.tp, s _ _ W.la, fun q hq => s _ _ (W.tu q hq), W.lk, W.pp, W.few⟩
def spLHear : Sp := fun xs H Q _ => ∃ (tp la u : Addr) (pl : Nat) (qs ks : List (Addr × List Int)) (rg : Bool), xs = [.ref tp, .ref u, .bl rg] ∧ PartQ H tp la pl qs ∧ LL H u ks ∧ 1 ≤ ks.length ∧ ks.length ≤ 300 ∧ (∀ q ∈ ks, Pc pl q.2) ∧
  ∀ (d : Addr) (ad : List Int → Addr) (H' : Hp), Tab H d (grid ks.length pl) ad (hearL (qs.map (·.2)) rg ks.length (wts (ks.map (·.2)))) H' → Q (.ref d) H'
abbrev nLHear : List Str := ["parts", "plan", "rounded", "found", "piece", "place", "watcher", "spot"]
theorem scLHear : FnScope nLHear ["parts", "plan", "rounded"] (defScope sLHear) := ⟨rfl, rfl, rfl, by decide +kernel, rfl, by decide +kernel, by decide +kernel⟩
theorem can_lhear (D : Dfn K mg "_law_hearers" sLHear) (B : Bi3 mg) (cW : CanG P w K mg base 1 "_law_watchers" ["plan"] spWatchers) (cH : CanG P w K mg base 1 "_law_heard" ["parts", "many", "spot", "rounded"] spHeard) : CanG P w K mg base 2 "_law_hearers" ["parts", "plan", "rounded"] spLHear := by
  obtain ⟨f, fd, F, g⟩ := D.at_
  refine FnG.can (okG F scLHear (fun xs H Q E h => ?_) (fun cdv A outer s H vs Q E hr hn h => ?_)) F g fun _ _ _ _ _ _ us hl => match us, hl with | [_, _, _], _ => rfl
  · obtain ⟨tp, la, u, pl, qs, ks, rg, rfl, _⟩ := h
    rfl
  · obtain ⟨tp, la, u, pl, qs, ks, rg, rfl, W, L, n1, n3, pc, q⟩ := h
    have hu1 := Nat.lt_of_le_of_lt (Nat.add_le_add_left (show 1 ≤ 64 by decide) _) hr.units
    refine ⟨_, PSs.nox <| pss_cons (ps_set (i := 3) scLHear.nd rfl (.inl rfl) pe_dnewT) <|
      pss_cons (ps_for PassesOwn.never rfl (pi_range1 (by rfl) B.range <| pa1 <| pe_bi call_len_seq B.len <| pa1 <| pv 1) (pg_name (i := 4) scLHear.nd rfl (.inl rfl)) <|
        pss_one <| ps_for PassesOwn.never rfl (pi_range1 (by rfl) B.range <| pa1 <| pe_ix ix_tup (pv 0) pe_int (fun _ _ => rfl)) (pg_name (i := 5) scLHear.nd rfl (.inl rfl)) <|
          pss_one <| ps_dput hu1 (pv 3) (pe_tup <| pa_cons (pv 4) <| pa1 <| pv 5) (pe_lst pa_nil) rfl) <|
      pss_cons (ps_for PassesOwn.never rfl (pi_list <| pe_canG cW hr hn <| pa1 <| pv 1) (pg_name (i := 6) scLHear.nd rfl (.inl rfl)) <|
        pss_one <| ps_for PassesOwn.never rfl (pi_list <| pe_canG cH hr hn <| pa_cons (pv 0) <| pa_cons (pe_bi call_len_seq B.len <| pa1 <| pv 1) <| pa_cons (pv 6) <| pa1 <| pv 2) (pg_name (i := 7) scLHear.nd rfl (.inl rfl)) <|
          pss_one <| ps_expr <| pe_bm PySem.F.plainAttrs_list PySem.F.slot_list_append PySem.F.type_list_append mt_append (pe_dget hu1 (pv 3) (pv 7) (fun _ _ => rfl)) <| pa1 <| pv 6) <|
      pss_one <| ps_ret <| pv 3, ?_⟩
    have kl : ((ks.map fun q => V.ref q.1).length : Int) = (ks.length : Int) := by rw [List.length_map]
    have p10 : pl ≤ 10 := by have := W.pp; omega
    have gfew : (grid ks.length pl).length ≤ 3000 := by
      have h := wts_len (m := 10) (ps := List.replicate ks.length (rangeI pl)) fun p hp => by
        rw [List.eq_of_mem_replicate hp, rangeI, List.length_map, List.length_range]
        exact p10
      rw [List.length_replicate] at h
      exact Nat.le_trans h (Nat.mul_le_mul_left 10 n3)
    intro d nd
    have T0 : Tab H d (grid 0 pl) (fun _ => 0) (fun _ => []) (upd H d (.dT [])) := ⟨upd_same_as nd, upd_same, (fun k hk => nomatch hk), (fun k hk => nomatch hk), nd, fun k hk => nomatch hk⟩
    refine ⟨_, rfl, u, _, rfl, .inl (SqL.of (T0.same _ _ L.1)), ?_⟩
    rw [kl]
    refine ⟨_, rfl, by omega, by omega, for_range (lo := 0) (n := ks.length) (fun i σ H' => ∃ (ad : List Int → Addr) (v4 v5 : Option V), σ = [some (.ref tp), some (.ref u), some (.bl rg), some (.ref d), v4, v5, none, none] ∧ Tab H d (grid i pl) ad (fun _ => []) H')
      ⟨_, _, _, rfl, T0⟩ ?_ ?_⟩
    · rintro i σ H' hi ⟨ad, v4, v5, rfl, T⟩
      have hi : i < ks.length := hi
      have gi : (grid i pl).length ≤ 3000 := by
        have h := wts_len (m := 10) (ps := List.replicate i (rangeI pl)) fun p hp => by
          rw [List.eq_of_mem_replicate hp, rangeI, List.length_map, List.length_range]
          exact p10
        rw [List.length_replicate] at h
        exact Nat.le_trans h (by omega)
      refine ⟨_, rfl, tp, _, 0, .int pl, rfl, rfl, SqT.of (T.same _ _ W.tp), atI_nat (j := 0) rfl, _, rfl, by omega, by omega, for_range (lo := 0) (n := pl) (fun j σ H' => ∃ (ad : List Int → Addr) (v5 : Option V), σ = [some (.ref tp), some (.ref u), some (.bl rg), some (.ref d), some (.int (i : Int)), v5, none, none] ∧
        Tab H d (grid i pl ++ ((rangeI pl).take j).map fun z => [(i : Int), z]) ad (fun _ => []) H') ⟨ad, _, by rw [Int.zero_add]; rfl, by simpa using T⟩ ?_ ?_⟩
      · rintro j σ H4 hj ⟨ad, v5, rfl, T4⟩
        have hj : j < pl := hj
        have hz : (rangeI pl)[j]? = some (j : Int) := by
          rw [rangeI, List.getElem?_map, List.getElem?_range hj]
          rfl
        refine ⟨(by show 0 ≤ sizeLine; decide), fun a na => ⟨_, rfl, _, rfl, _, rfl, (by show 2 ≤ sizeLine; decide), fun t nt => ?_⟩⟩
        rw [Int.zero_add] at *
        have s2 := (upd_same_as (o := .lst ([] : List V)) na).trans (upd_same_as (o := .tup [V.int (i : Int), .int (j : Int)]) nt)
        have ha := upd_same_as (o := .tup [V.int (i : Int), .int (j : Int)]) nt _ _ (upd_same (H := H4) (a := a) (o := .lst ([] : List V)))
        have tk : ((rangeI pl).take (j + 1)).map (fun z => [(i : Int), z]) = ((rangeI pl).take j).map (fun z => [(i : Int), z]) ++ [[(i : Int), (j : Int)]] := by
          rw [List.take_add_one, hz, List.map_append]
          rfl
        have nk : [(i : Int), (j : Int)] ∉ grid i pl ++ ((rangeI pl).take j).map fun z => [(i : Int), z] := fun z => by
          rcases List.mem_append.mp z with z | z
          · obtain ⟨x, y, e, x0, x1, _⟩ := mem_grid z
            injection e with e _
            omega
          · obtain ⟨y, hy, e⟩ := List.mem_map.mp z
            injection e with _ e
            injection e with e _
            obtain ⟨m, hm, rfl⟩ : ∃ m, m < j ∧ y = (m : Int) := by
              obtain ⟨m, hm⟩ := List.mem_iff_getElem?.mp hy
              rw [List.getElem?_take] at hm
              split at hm
              · rename_i lt
                rw [rangeI, List.getElem?_map, List.getElem?_range (by omega)] at hm
                exact ⟨m, lt, (Option.some.inj hm).symm⟩
              · cases hm
            omega
        refine ⟨d, _, rfl, DPut.t (k := kI [(i : Int), (j : Int)]) (s2 _ _ T4.di) (by rw [kI_v]; exact upd_same) ?_, ?_⟩
        · rw [entsOf, List.length_map, List.length_append, List.length_map, List.length_take]
          exact small_ (by omega)
        · exact ⟨_, _, rfl, by rw [tk, ← List.append_assoc]; exact T4.key nk na s2 ha rfl⟩
      · rintro σ H4 ⟨ad, v5, rfl, T4⟩
        refine ⟨ad, _, _, rfl, ?_⟩
        have e : (rangeI pl).take pl = rangeI pl := List.take_of_length_le (by rw [rangeI, List.length_map, List.length_range]; exact Nat.le_refl _)
        rw [e] at T4
        rw [grid, List.replicate_succ', wts_snoc, List.length_replicate]
        exact T4
    rintro σ H2 ⟨ad, v4, v5, rfl, TT⟩
    have s02 := TT.same
    have L2 := L.same s02
    have W2 := W.same s02
    have pz : ∀ z, 0 ≤ z ∧ z < (pl : Int) → z = 0 ∨ z = 1 := fun z h => by have := W.pp; omega
    have short : ∀ q ∈ ks, q.2.length ≤ 10 := fun q hq => by
      have h := pc_len (by have := W.pp; omega) (pc q hq)
      omega
    refine ⟨_, rfl, u, ks, rfl, L2, n3, short, fun r2 ws H3 s3 nr2 T3 ew => ?_⟩
    have TT3 := TT.up s3
    have adr : ∀ k ∈ grid ks.length pl, ad k ≠ r2 := fun k hk => by
      obtain ⟨zs, y, _⟩ := TT.el k hk
      exact ne_of_none y.li nr2
    have wn : ws.length = (wts (ks.map (·.2))).length := by
      have h := congrArg List.length ew
      rw [List.length_map] at h
      exact h
    refine ⟨r2, rfl, ⟨_, SqL.of T3.li⟩, for_list (K := K) (a := r2) (xs := ws.map fun q => V.ref q.1) (fun i σ H' => ∃ v6 v7 : Option V, σ = [some (.ref tp), some (.ref u), some (.bl rg), some (.ref d), v4, v5, v6, v7] ∧ TL H' r2 ws ∧
      Tab H d (grid ks.length pl) ad (hearL (qs.map (·.2)) rg ks.length ((ws.take i).map (·.2))) H') ⟨_, _, rfl, T3, TT3⟩ (fun i σ H' _ ⟨_, _, _, y, _⟩ => SqL.of y.li) ?_ ?_⟩
    · rintro i x σ H4 hx ⟨v6, v7, rfl, TW, T4⟩
      obtain ⟨e, he, rfl⟩ := ref_get hx
      have ein := List.mem_of_getElem? he
      obtain ⟨i0, p0, b, hp0, hb, el⟩ := mem_wtsN (t := 0) (by rw [show wtsN 0 (ks.map (·.2)) = wts (ks.map (·.2)) from rfl, ← ew]; exact List.mem_map.mpr ⟨e, ein, rfl⟩)
      obtain ⟨q0, hq0, rfl⟩ : ∃ q0, ks[i0]? = some q0 ∧ p0 = q0.2 := by
        rw [List.getElem?_map] at hp0
        cases z : ks[i0]? with
        | none =>
          rw [z] at hp0
          cases hp0
        | some y =>
          rw [z] at hp0
          exact ⟨y, rfl, (Option.some.inj hp0).symm⟩
      have il := (List.getElem?_eq_some_iff.mp hq0).1
      obtain ⟨b0, b1⟩ := (pc q0 (List.mem_of_getElem? hq0)).2 b hb
      rw [Nat.zero_add] at el
      have W4 := W.same T4.same
      have hsp : H4 e.1 = some (.tup [.int (i0 : Int), .int b]) := by
        rw [TW.tu e ein, el]
        rfl
      refine ⟨_, rfl, _, rfl, u, _, rfl, .inl (SqL.of (T4.same _ _ L.1)), ?_⟩
      rw [kl]
      refine ⟨_, rfl, _, rfl, tp, la, e.1, pl, ks.length, i0, b, rg, qs, rfl, W4.tp, W4.la, W4.tu, W4.lk, W4.pp.imp (fun e => by rw [e]; rfl) (fun e => by rw [e]; rfl), W4.few, by omega, hsp, fun kt u2 H5 TO s5 nu2 hu2 tk2 => ?_⟩
      have TK : TL H5 u2 kt := ⟨hu2, tk2⟩
      have TW5 := TW.same s5
      have T5 := T4.up s5
      have adu : ∀ k ∈ grid ks.length pl, ad k ≠ u2 := fun k hk => by
        obtain ⟨zs, y, _⟩ := T4.el k hk
        exact ne_of_none y.li nu2
      refine ⟨u2, rfl, ⟨_, SqL.of TK.li⟩, for_list (K := K) (a := u2) (xs := kt.map fun q => V.ref q.1) (fun j σ H' => ∃ v7 : Option V, σ = [some (.ref tp), some (.ref u), some (.bl rg), some (.ref d), v4, v5, some (.ref e.1), v7] ∧ TL H' r2 ws ∧ TL H' u2 kt ∧
        Tab H d (grid ks.length pl) ad (fun k => hearL (qs.map (·.2)) rg ks.length ((ws.take i).map (·.2)) k ++ if k ∈ (kt.take j).map (·.2) then [e.2] else []) H') ⟨_, rfl, TW5, TK, T5.eq fun k => by simp⟩ (fun j σ H' _ ⟨_, _, _, y, _⟩ => SqL.of y.li) ?_ ?_⟩
      · rintro j y σ H6 hy ⟨v7, rfl, TW6, TK6, T6⟩
        obtain ⟨r, hr2, rfl⟩ := ref_get hy
        have rin := List.mem_of_getElem? hr2
        have hk : r.2 ∈ grid ks.length pl := by
          obtain ⟨j1, e1, hm, f0, f1, ek⟩ := (TO.mem r.2).mp (List.mem_map.mpr ⟨r, rin, rfl⟩)
          obtain ⟨y, hy2, ey⟩ := List.mem_map.mp hm
          obtain ⟨i2, j2, d2, el2, c1, c2, c3, c4, c5, c6⟩ := W.lk y hy2
          have ey : y.2 = [b, j1, e1] := ey
          rw [el2] at ey
          injection ey with e3 ey
          injection ey with e4 ey
          subst e4
          rw [ek]
          exact grid_mem f0 f1 (by omega) (by omega)
        obtain ⟨zs, TZ, ez⟩ := T6.el r.2 hk
        have nk : r.2 ∉ (kt.take j).map (·.2) := fun z => by
          have n2 := TO.nd.sublist ((List.take_sublist (j + 1) kt).map (·.2))
          rw [List.take_add_one, hr2, List.map_append] at n2
          exact (List.nodup_append.mp n2).2.2 _ z _ List.mem_cons_self rfl
        have zl : zs.length ≤ 4000 := by
          have h := congrArg List.length ez
          rw [List.length_map, if_neg nk, List.append_nil] at h
          have h2 := List.length_filter_le (fun w => hrB (qs.map (·.2)) rg ks.length w r.2) ((ws.take i).map (·.2))
          rw [List.length_map, List.length_take] at h2
          have h3 := wts_len (m := 10) (ps := ks.map (·.2)) fun p hp => by
            obtain ⟨y, hy, rfl⟩ := List.mem_map.mp hp
            exact short y hy
          rw [List.length_map] at h3
          have h4 : (hearL (qs.map (·.2)) rg ks.length ((ws.take i).map (·.2)) r.2).length ≤ min i ws.length := h2
          omega
        have dg : DGet H6 d (.ref r.1) (some (.ref (ad r.2))) := by
          have h := DGet.t (k := kI r.2) T6.di (by rw [kI_v]; exact TK6.tu r rin)
          rw [ents_val hk] at h
          exact h
        refine ⟨_, rfl, _, rfl, d, .ref (ad r.2), rfl, dg, .inl ⟨rfl, _, SqL.of TZ.li⟩, _, rfl, ad r.2, _, _, rfl, rfl, TZ.li, by rw [List.length_map]; exact small_ (by omega), _, rfl, TW6.off (adr _ hk) TZ.li, TK6.off (adu _ hk) TZ.li, (T6.put hk (TW6.tu e ein) TZ ez).eq fun x => ?_⟩
        by_cases xe : x = r.2
        · subst xe
          rw [if_pos rfl, if_neg nk, if_pos (by rw [List.take_add_one, hr2, List.map_append]; exact List.mem_append_right _ List.mem_cons_self), List.append_nil]
        · rw [if_neg xe]
          have e2 : x ∈ (kt.take (j + 1)).map (·.2) ↔ x ∈ (kt.take j).map (·.2) := by
            rw [List.take_add_one, hr2, List.map_append, List.mem_append]
            exact ⟨fun z => z.resolve_right fun z => xe (List.mem_singleton.mp z), .inl⟩
          by_cases c : x ∈ (kt.take j).map (·.2)
          · rw [if_pos c, if_pos (e2.mpr c)]
          · rw [if_neg c, if_neg fun z => c (e2.mp z)]
      · rintro σ H6 ⟨v7, rfl, TW6, TK6, T6⟩
        rw [List.length_map, List.take_length] at T6
        refine ⟨_, _, rfl, TW6, T6.eq fun k => ?_⟩
        rw [List.take_add_one, he, List.map_append]
        show _ = hearL (qs.map (·.2)) rg ks.length ((ws.take i).map (·.2) ++ [e.2]) k
        rw [hearL_snoc, el]
        have e2 : k ∈ kt.map (·.2) ↔ hrB (qs.map (·.2)) rg ks.length [(i0 : Int), b] k = true := (TO.mem k).trans hrB_iff.symm
        by_cases c : k ∈ kt.map (·.2)
        · rw [if_pos c, if_pos (e2.mp c)]
        · rw [if_neg c, if_neg fun z => c (e2.mpr z)]
    · rintro σ H6 ⟨v6, v7, rfl, TW6, T6⟩
      rw [List.length_map, List.take_length, ew] at T6
      exact ⟨_, rfl, q d ad H6 T6⟩
end
end Kx
/-! Own ground, part ZN: tuples and lists of tuples compared, as data. -/
namespace Zo
open PySem PySem.Spec PyProof.Rows L2 Xa Xb Xc Xp Xr Xl Xk Xt Xq Xu Zn
theorem ints_eqvA : ∀ a b : List Int, PyData.eqvAll (a.map .int) (b.map .int) = decide (a = b)
  | [], [] => by simp [PyData.eqvAll]
  | [], _ :: _ => by simp [PyData.eqvAll]
  | _ :: _, [] => by simp [PyData.eqvAll]
  | x :: a, y :: b => by
    have h := ints_eqvA a b
    have e : PyData.eqv (.int x) (.int y) = decide (x = y) := by
      simp [PyData.eqv]
      by_cases c : x = y <;> simp [c]
    rw [List.map_cons, List.map_cons, PyData.eqvAll, h, e]
    by_cases c : x = y <;> by_cases d : a = b <;> simp [c, d]
theorem tupD_eqv (a b : List Int) : PyData.eqv (tupD a) (tupD b) = decide (a = b) := by
  show PyData.eqv (.tuple _) (.tuple _) = _
  rw [PyData.eqv]
  exact ints_eqvA a b
theorem tups_eqvA : ∀ a b : List (List Int), PyData.eqvAll (a.map tupD) (b.map tupD) = decide (a = b)
  | [], [] => by simp [PyData.eqvAll]
  | [], _ :: _ => by simp [PyData.eqvAll]
  | _ :: _, [] => by simp [PyData.eqvAll]
  | x :: a, y :: b => by
    rw [List.map_cons, List.map_cons, PyData.eqvAll, tups_eqvA a b, tupD_eqv]
    by_cases c : x = y <;> by_cases d : a = b <;> simp [c, d]
theorem lisD_eqv (a b : List (List Int)) : PyData.eqv (lisD a) (lisD b) = decide (a = b) := by
  show PyData.eqv (.list _) (.list _) = _
  rw [PyData.eqv]
  exact tups_eqvA a b
theorem tupD_any (k : List Int) : ∀ ls : List (List Int), ((ls.map tupD).any fun z => PyData.eqv z (tupD k)) = decide (k ∈ ls)
  | [] => by simp
  | x :: ls => by
    rw [List.map_cons, List.any_cons, tupD_any k ls, tupD_eqv]
    by_cases c : x = k
    · simp [c]
    · have c' : ¬ k = x := fun e => c e.symm
      by_cases d : k ∈ ls <;> simp [c, c', d]
theorem tup_shaped (l : List Int) : SeqAt.shaped (tupD l) = true := by
  have h1 : (tupD l).canLay0 = true := by simp [tupD, PyData.canLay0, ints_lay]
  have h2 : (tupD l).depth ≤ 64 := by simp [tupD, PyData.depth, ints_depth]
  simp [SeqAt.shaped, h1, h2]
/-- data of lists: the lists in it are told by what stands -/
theorem lts_tups {H : Hp} : ∀ ws : List (Addr × List Int), (∀ q ∈ ws, H q.1 = some (.tup (q.2.map V.int))) → Lts H (ws.map fun q => V.ref q.1) (ws.map fun q => tupD q.2) []
  | [], _ => .nil
  | q :: ws, h => by
    have := Lts.cons (l1 := []) (l2 := []) (Lt.tup (h q List.mem_cons_self) (ints_lt0 q.2)) (lts_tups ws fun r hr => h r (List.mem_cons_of_mem _ hr))
    exact this
where ints_lt0 {H : Hp} : ∀ l : List Int, Lts H (l.map V.int) (l.map .int) []
  | [] => .nil
  | x :: l => .cons (l1 := []) (.int x) (ints_lt0 l)
theorem ints_lts0 {H : Hp} : ∀ l : List Int, Lts H (l.map V.int) (l.map .int) []
  | [] => .nil
  | x :: l => .cons (l1 := []) (.int x) (ints_lts0 l)
theorem lts_ints {H : Hp} : ∀ {xs : List V} (l : List Int) {ls : List Addr}, Lts H xs (l.map .int) ls → xs = l.map V.int
  | _, [], _, t => by cases t; rfl
  | _, x :: l, _, t => by
    cases t with
    | cons h t =>
      cases h
      rw [lts_ints l t]
      rfl
theorem lts_tupsI {H : Hp} : ∀ (ls : List (List Int)) {xs : List V} {as : List Addr}, Lts H xs (ls.map tupD) as → ∃ ws : List (Addr × List Int), xs = (ws.map fun q => V.ref q.1) ∧ (∀ q ∈ ws, H q.1 = some (.tup (q.2.map V.int))) ∧ ws.map (·.2) = ls
  | [], xs, as, t => by
    cases t
    exact ⟨[], rfl, (fun _ z => nomatch z), rfl⟩
  | l :: ls, xs, as, t => by
    rw [List.map_cons] at t
    generalize hd : tupD l = d at t
    cases t with
    | cons h t =>
      obtain ⟨ws, rfl, h1, h2⟩ := lts_tupsI ls t
      unfold tupD at hd
      cases h with
      | @tup a ys ds _ h t =>
        injection hd with hd
        subst hd
        have e := lts_ints l t
        subst e
        exact ⟨(a, l) :: ws, rfl, fun q hq => (List.mem_cons.mp hq).elim (fun e => by rw [e]; exact h) (h1 q), by rw [List.map_cons, h2]⟩
      | _ => cases hd
theorem good_tup (l : List Int) (n : l.length ≤ 3) (h : ∀ z ∈ l, z.natAbs < 10 ^ 30) : good1 (tupD l) = true := by
  have h1 := ints_showable l h
  have h2 := ints_short l h
  have h3 := ints_weight l h
  have h4 := ints_depth l
  have h5 : ∀ l : List Int, shAll (l.map .int) = true ∧ PyData.hasDictAll (l.map .int) = false := by
    intro l
    induction l with
    | nil => simp [shAll, PyData.hasDictAll]
    | cons x xs ih => simp [shAll, PyData.hasDictAll, shOk, PyData.hasDict, ih]
  have h6 : (tupD l).weight ≤ 400 := by simp only [tupD, PyData.weight]; omega
  have h7 : (tupD l).depth ≤ 5 := by simp only [tupD, PyData.depth]; omega
  simp [good1, h6, h7]
  simp [tupD, PyData.showable, PyData.leavesShort, shOk, PyData.hasDict, h1, h2, h5 l]
end Zo
/-! The law's unlike; lists of pairs brought into order. -/
namespace Kx
open PySem PySem.Spec PyProof.Rows L2 Xa Xb Xc Xd Xs Xp Xm Xr Xl Xk Xq Xt Xu Ya Yb Yc Yd Ye Yf Yj Yl Ym Yn Yo Yr Za Zb Zd Zi Zl Zn Zo
abbrev sUnl : Stmt := top 55
/-! ### order of pairs -/
theorem codeP {B x y x' y' : Int} (b1 : TS.Bd B [x, y]) (b2 : TS.Bd B [x', y']) (h : HT.lexLt [x, y] [x', y'] = true) : TS.code B [x, y] < TS.code B [x', y'] := by
  rw [lex2] at h
  rcases of_decide_eq_true h with lt | ⟨e, lt⟩
  · exact TS.code_lt rfl b1.tail b2.tail lt
  · subst e
    exact (TS.code_same (r := [y]) (q := [y']) rfl).mpr (TS.code_lt rfl b1.tail.tail b2.tail.tail lt)
theorem lex_or {x y x' y' : Int} (ne : [x, y] ≠ [x', y']) : HT.lexLt [x, y] [x', y'] = true ∨ HT.lexLt [x', y'] [x, y] = true := by
  rw [lex2, lex2, decide_eq_true_eq, decide_eq_true_eq]
  by_cases c : x = x'
  · subst c
    have : y ≠ y' := fun e => ne (by rw [e])
    omega
  · omega
def Two2 (B : Int) (k : List Int) : Prop := ∃ x y, k = [x, y] ∧ TS.Bd B [x, y]
theorem lex_of {B : Int} {k k' : List Int} (h1 : Two2 B k) (h2 : Two2 B k') (ne : k ≠ k') (h : TS.code B k ≤ TS.code B k') : HT.lexLt k k' = true := by
  obtain ⟨x, y, rfl, b1⟩ := h1
  obtain ⟨x', y', rfl, b2⟩ := h2
  refine (lex_or ne).resolve_right fun z => ?_
  have := codeP b2 b1 z
  omega
theorem asc_of_code {B : Int} {ls : List (List Int)} (two : ∀ k ∈ ls, Two2 B k) (nd : ls.Nodup) (h : ls.Pairwise fun x y => TS.code B x ≤ TS.code B y) : ls.Pairwise fun x y => HT.lexLt x y = true :=
  (List.Pairwise.and h nd).imp_of_mem fun ha hb z => lex_of (two _ ha) (two _ hb) z.2 z.1
theorem same_of {l1 l2 : List (List Int)} (p : l1.Perm l2) (h1 : l1.Pairwise fun x y => HT.lexLt x y = true) (h2 : l2.Pairwise fun x y => HT.lexLt x y = true) : l1 = l2 :=
  List.Perm.eq_of_pairwise (fun a b _ _ x y => by
    rw [lex_asym x] at y
    cases y) h1 h2 p
theorem asc_pair : ∀ {l : List (List Int)}, (∀ k ∈ l, ∃ x y, k = [x, y]) → ascT l = true → l.Pairwise fun x y => HT.lexLt x y = true
  | [], _, _ => .nil
  | [x], _, _ => List.pairwise_singleton _ _
  | x :: y :: r, two, h => by
    have h : (HT.lexLt x y && ascT (y :: r)) = true := h
    obtain ⟨h1, h2⟩ := He.ba h
    have ih := asc_pair (l := y :: r) (fun k hk => two k (List.mem_cons_of_mem _ hk)) h2
    refine List.pairwise_cons.mpr ⟨fun z hz => ?_, ih⟩
    rcases List.mem_cons.mp hz with rfl | hz
    · exact h1
    · have h3 := List.rel_of_pairwise_cons ih hz
      obtain ⟨a, b, rfl⟩ := two x (by simp)
      obtain ⟨c, d, rfl⟩ := two y (by simp)
      obtain ⟨e, f, rfl⟩ := two z (by simp [hz])
      rw [lex2, decide_eq_true_eq] at h1 h3 ⊢
      omega
section
variable {P : Program} {w : World} {K : PySem.W.Frag} {mg : Str → Option Value} {base : Heap} {f C : Addr} {fd : FuncData}
def spUnl : Sp := fun xs H Q _ => ∃ (a b : Addr) (zs ys : List (Addr × List Int)) (U : List (List Int)), xs = [.ref a, .ref b] ∧ TL H a zs ∧ TL H b ys ∧ U.length < 32 ∧ (Ks zs).Nodup ∧ (Ks ys).Nodup ∧ (∀ k ∈ Ks zs, k ∈ U) ∧ (∀ k ∈ Ks ys, k ∈ U) ∧ ∀ H', Same H H' → Q (.int (symN (Ks zs) (Ks ys) : Nat)) H'
abbrev nUnl : List Str := ["one", "other"]
theorem scUnl : FnScope nUnl ["one", "other"] (defScope sUnl) := ⟨rfl, rfl, rfl, by decide +kernel, rfl, by decide +kernel, by decide +kernel⟩
theorem can_unl (D : Dfn K mg "_law_unlike" sUnl) (B : Bi3 mg) : CanG P w K mg base 1 "_law_unlike" ["one", "other"] spUnl := by
  obtain ⟨f, fd, F, g⟩ := D.at_
  refine FnG.can (okG F scUnl (fun xs H Q E h => ?_) (fun cdv A outer s H vs Q E hr hn h => ?_)) F g fun _ _ _ _ _ _ us hl => match us, hl with | [_, _], _ => rfl
  · obtain ⟨a, b, zs, ys, U, rfl, _⟩ := h
    rfl
  · obtain ⟨a, b, zs, ys, U, rfl, Ta, Tb, fU, nz, ny, hz, hy, q⟩ := h
    have sub : ∀ {i j : Nat} {p q : Expr} (_ : 1 = 1), True := fun _ => trivial
    refine ⟨_, PSs.nox <| pss_one <| ps_ret <| pe_op op_add
      (pe_bi call_lenN B.len <| pa1 <| pe_op (r := rSet2 K P w fun a b => a && !b) (op_setSub hr.units) (pe_ty (r := rSetOfT K P w) (cr_setOfT rfl hr.units) B.set <| pa1 <| pv 0) (pe_ty (r := rSetOfT K P w) (cr_setOfT rfl hr.units) B.set <| pa1 <| pv 1))
      (pe_bi call_lenN B.len <| pa1 <| pe_op (r := rSet2 K P w fun a b => a && !b) (op_setSub hr.units) (pe_ty (r := rSetOfT K P w) (cr_setOfT rfl hr.units) B.set <| pa1 <| pv 1) (pe_ty (r := rSetOfT K P w) (cr_setOfT rfl hr.units) B.set <| pa1 <| pv 0)), ?_⟩
    have zlen : zs.length < 32 := by
      have h := nd_len (Ks zs) _ nz hz
      rw [List.length_map] at h
      omega
    have ylen : ys.length < 32 := by
      have h := nd_len (Ks ys) _ ny hy
      rw [List.length_map] at h
      omega
    refine ⟨_, rfl, a, zs, rfl, SqL.of Ta.li, fun r hr2 => SqT.of (Ta.tu r hr2), by omega, fun a1 L1 na1 sub1 all1 => ?_⟩
    have u1 := upd_same_as (o := SetTO P w a1 L1) na1
    refine ⟨_, rfl, b, ys, rfl, SqL.of (Tb.same u1).li, fun r hr2 => SqT.of ((Tb.same u1).tu r hr2), by omega, fun a2 L2 na2 sub2 all2 => ?_⟩
    have u2 := upd_same_as (o := SetTO P w a2 L2) na2
    have TW := two_of Ta Tb fU hz hy na1 sub1 na2 sub2 (K := K)
    refine ⟨a1, a2, L1, L2, _, rfl, rfl, TW, fun a3 l na3 nl l32 cl => ?_⟩
    have u3 := upd_same_as (o := SetNO a3 l.length) na3
    have s3 := u1.trans (u2.trans u3)
    have c1 : l.length = ((Ks zs).filter fun k => !decide (k ∈ Ks ys)).length := cnt_sub nz nl fun k' => by
      rw [cl k', decide_eq_decide.mpr (set_keys sub1 all1 k'), decide_eq_decide.mpr (set_keys sub2 all2 k')]
    refine ⟨a3, l.length, rfl, upd_same, by omega, ?_⟩
    have Ta' := Ta.same s3
    have Tb' := Tb.same s3
    generalize upd (upd (upd H a1 (SetTO P w a1 L1)) a2 (SetTO P w a2 L2)) a3 (SetNO a3 l.length) = H1 at Ta' Tb' s3 ⊢
    refine ⟨_, rfl, b, ys, rfl, SqL.of Tb'.li, fun r hr2 => SqT.of (Tb'.tu r hr2), by omega, fun b1 M1 nb1 tub1 bll1 => ?_⟩
    have v1 := upd_same_as (o := SetTO P w b1 M1) nb1
    refine ⟨_, rfl, a, zs, rfl, SqL.of (Ta'.same v1).li, fun r hr2 => SqT.of ((Ta'.same v1).tu r hr2), by omega, fun b2 M2 nb2 tub2 bll2 => ?_⟩
    have v2 := upd_same_as (o := SetTO P w b2 M2) nb2
    have TV := two_of Tb' Ta' fU hy hz nb1 tub1 nb2 tub2 (K := K)
    refine ⟨b1, b2, M1, M2, _, rfl, rfl, TV, fun b3 m nb3 nm m32 cm => ?_⟩
    have v3 := upd_same_as (o := SetNO b3 m.length) nb3
    have c2 : m.length = ((Ks ys).filter fun k => !decide (k ∈ Ks zs)).length := cnt_sub ny nm fun k' => by
      rw [cm k', decide_eq_decide.mpr (set_keys tub1 bll1 k'), decide_eq_decide.mpr (set_keys tub2 bll2 k')]
    refine ⟨b3, m.length, rfl, upd_same, by omega, _, _, rfl, rfl, ?_⟩
    have fin := q _ (s3.trans (v1.trans (v2.trans v3)))
    rw [symN, ← c1, ← c2, Int.natCast_add] at fin
    exact fin
end
end Kx
/-! What where and two tell, as data. -/
namespace Kx
open PySem PySem.Spec PyProof.Rows L2 Xa Xb Xc Xd Xs Xp Xm Xr Xl Xk Xq Xt Xu Ya Yb Yc Yd Ye Yf Yj Yl Ym Yn Yo Yr Za Zb Zd Zi Zl Zn Zo
theorem sh_ints : ∀ l : List Int, shAll (l.map PyData.int) = true
  | [] => rfl
  | x :: l => by
    rw [List.map_cons, shAll, sh_ints l]
    rfl
theorem sh_tups : ∀ ls : List (List Int), shAll (ls.map tupD) = true
  | [] => rfl
  | l :: ls => by
    rw [List.map_cons, shAll, sh_tups ls, Bool.and_true]
    show shAll (l.map PyData.int) = true
    exact sh_ints l
theorem repM_tl {K : PySem.W.Frag} {H : Hp} {r : Addr} {ws : List (Addr × List Int)} (T : TL H r ws) (s : Short (ws.map (·.2))) : RepM K H (.ref r) (lisD (ws.map (·.2))).shown := by
  obtain ⟨h1, _, h3, h4, h5⟩ := lis_in (K := K) T.li T.tu s
  have h6 : PyData.strOk (lisD (ws.map (·.2))).shown = true := shown_ok _ (by show shAll ((ws.map (·.2)).map tupD) = true; exact sh_tups _)
  exact ⟨_, _, h1, by simp [okM, h3, h4, h5, h6], rfl⟩
theorem pass00 {X : Cx} : Passes (L2.CX X.prog X.w) X E0 := fun _ _ _ _ _ _ _ ⟨_, _, _, _, _, _, _, _, _, _, _, _, q⟩ => False.elim q
theorem ne_shown (d : PyData) : (!decide (V.str d.shown = V.str d.shown)) = false := by simp
def rListOf2 (K : PySem.W.Frag) : List V → Hp → VK → Prop := fun xs H Q => ∃ p ys, xs = [.ref p] ∧ (SqL K H p ys ∨ SqT K H p ys) ∧ ∀ l, H l = none → Q (.ref l) (upd H l (.lst ys))
/-! ### lists of pairs -/
def prD (z : List Int × List Int) : PyData := .tuple [tupD z.1, tupD z.2]
def plD (zs : List (List Int × List Int)) : PyData := .list (zs.map prD)
theorem prD_eqv (z : List Int × List Int) : PyData.eqv (prD z) (prD z) = true := by
  show PyData.eqv (.tuple _) (.tuple _) = true
  rw [PyData.eqv, PyData.eqvAll, PyData.eqvAll, PyData.eqvAll, tupD_eqv, tupD_eqv]
  simp
theorem plD_eqvA : ∀ zs : List (List Int × List Int), PyData.eqvAll (zs.map prD) (zs.map prD) = true
  | [] => by simp [PyData.eqvAll]
  | z :: zs => by
    rw [List.map_cons, PyData.eqvAll, prD_eqv, plD_eqvA zs]
    rfl
theorem plD_eqv (zs : List (List Int × List Int)) : PyData.eqv (plD zs) (plD zs) = true := by
  show PyData.eqv (.list _) (.list _) = true
  rw [PyData.eqv]
  exact plD_eqvA zs
theorem prD_lay (z : List Int × List Int) : (prD z).canLay0 = true ∧ (prD z).depth ≤ 4 := by
  have h1 : ∀ l, (tupD l).canLay0 = true := fun l => by simp [tupD, PyData.canLay0, ints_lay]
  have h2 : ∀ l, (tupD l).depth ≤ 2 := fun l => by simp [tupD, PyData.depth, ints_depth]
  have a := h2 z.1
  have b := h2 z.2
  refine ⟨by simp [prD, PyData.canLay0, PyData.canLayAll0, h1], ?_⟩
  simp only [prD, PyData.depth, PyData.depthAll]
  omega
theorem prs_lay : ∀ zs : List (List Int × List Int), PyData.canLayAll0 (zs.map prD) = true ∧ PyData.depthAll (zs.map prD) ≤ 4
  | [] => by simp [PyData.canLayAll0, PyData.depthAll]
  | z :: zs => by
    have a := prD_lay z
    have b := prs_lay zs
    refine ⟨by simp [PyData.canLayAll0, a.1, b.1], ?_⟩
    simp only [List.map_cons, PyData.depthAll]
    omega
theorem plD_shaped (zs : List (List Int × List Int)) : SeqAt.shaped (plD zs) = true := by
  have a := prs_lay zs
  have h1 : (plD zs).canLay0 = true := by simp [plD, PyData.canLay0, a.1]
  have h2 : (plD zs).depth ≤ 64 := by
    simp only [plD, PyData.depth]
    omega
  simp [SeqAt.shaped, h1, h2]
def good3 (d : PyData) : Bool := d.showable && (PyData.leavesShort 32 d && (decide (d.depth ≤ 5) && (decide (d.weight ≤ 700) && PyData.strOk d.shown)))
theorem all_good3 : ∀ ds : List PyData, (∀ d ∈ ds, good3 d = true) → PyData.showableAll ds = true ∧ PyData.leavesShortAll 32 ds = true ∧ PyData.depthAll ds ≤ 5 ∧ PyData.weightAll ds ≤ 701 * ds.length ∧ ∀ t ∈ PyData.shownAll ds, PyData.strOk t = true
  | [], _ => by simp [PyData.showableAll, PyData.leavesShortAll, PyData.depthAll, PyData.weightAll, PyData.shownAll]
  | x :: xs, h => by
    have q := all_good3 xs fun d hd => h d (List.mem_cons_of_mem _ hd)
    have r := h x List.mem_cons_self
    simp only [good3, Bool.and_eq_true, decide_eq_true_eq] at r
    obtain ⟨r1, r2, r3, r4, r5⟩ := r
    obtain ⟨q1, q2, q3, q4, q5⟩ := q
    refine ⟨by simp [PyData.showableAll, r1, q1], by simp [PyData.leavesShortAll, r2, q2], ?_, ?_, fun t ht => ?_⟩
    · simp only [PyData.depthAll]
      omega
    · simp only [PyData.weightAll, List.length_cons]
      omega
    · simp only [PyData.shownAll] at ht
      rcases List.mem_cons.mp ht with rfl | ht
      · exact r5
      · exact q5 t ht
theorem okM_list3 (ds : List PyData) (h : ∀ d ∈ ds, good3 d = true) (n : ds.length ≤ 500) : okM (.list ds) = true := by
  obtain ⟨q1, q2, q3, q4, q5⟩ := all_good3 ds h
  have a := PyData.shown_le 32 (by decide) (.list ds) (by simpa [PyData.leavesShort] using q2)
  have e : PyData.strOk (PyData.list ds).shown = true := by
    simp only [PyData.shown]
    exact app_ok (textFrom_ok _ _ _ (ofStr_ok _) q5) (ofStr_ok _)
  have f : (PyData.list ds).depth ≤ 60 := by simp only [PyData.depth]; omega
  have k : (PyData.list ds).showable = true := by simpa [PyData.showable] using q1
  have b : (PyData.list ds).weight ≤ 701 * ds.length + 100 := by simp only [PyData.weight]; omega
  have c : (PyData.list ds).shown.length ≤ sizeLine := by
    have d : (32 + 2) * (PyData.list ds).weight ≤ 34 * (701 * ds.length + 100) := Nat.mul_le_mul (Nat.le_refl _) b
    rw [sizeLine_eq]
    omega
  simp [okM, e, f, k, c]
theorem good_pr {z : List Int × List Int} (n1 : z.1.length ≤ 3) (h1 : ∀ x ∈ z.1, x.natAbs < 10 ^ 30) (n2 : z.2.length ≤ 3) (h2 : ∀ x ∈ z.2, x.natAbs < 10 ^ 30) : good3 (prD z) = true := by
  have a1 := ints_showable z.1 h1
  have a2 := ints_short z.1 h1
  have a3 := ints_weight z.1 h1
  have b1 := ints_showable z.2 h2
  have b2 := ints_short z.2 h2
  have b3 := ints_weight z.2 h2
  have c := ints_depth z.1
  have d := ints_depth z.2
  have w : (prD z).weight ≤ 700 := by
    simp only [prD, tupD, PyData.weight, PyData.weightAll]
    omega
  have e : (prD z).depth ≤ 5 := by
    simp only [prD, tupD, PyData.depth, PyData.depthAll]
    omega
  have s : PyData.strOk (prD z).shown = true := shown_ok _ (by
    show (shAll [tupD z.1, tupD z.2]) = true
    exact sh_tups [z.1, z.2])
  simp [good3, w, e, s]
  simp [prD, tupD, PyData.showable, PyData.showableAll, PyData.leavesShort, PyData.leavesShortAll, a1, a2, b1, b2]
theorem dp_pairs {K : PySem.W.Frag} {H : Hp} : ∀ zs : List (Addr × (Addr × List Int) × (Addr × List Int)), (∀ z ∈ zs, H z.1 = some (.tup [.ref z.2.1.1, .ref z.2.2.1])) → (∀ z ∈ zs, H z.2.1.1 = some (.tup (z.2.1.2.map V.int))) → (∀ z ∈ zs, H z.2.2.1 = some (.tup (z.2.2.2.map V.int))) → DpAll K H (zs.map fun z => V.ref z.1) ((prs zs).map prD)
  | [], _, _, _ => .nil
  | z :: zs, h1, h2, h3 => .cons (.tup (SqT.of (h1 z List.mem_cons_self)) (.cons (.tup (SqT.of (h2 z List.mem_cons_self)) (dp_ints _)) (.cons (.tup (SqT.of (h3 z List.mem_cons_self)) (dp_ints _)) .nil)))
    (dp_pairs zs (fun y hy => h1 y (List.mem_cons_of_mem _ hy)) (fun y hy => h2 y (List.mem_cons_of_mem _ hy)) fun y hy => h3 y (List.mem_cons_of_mem _ hy))
theorem dp_pl {K : PySem.W.Frag} {H : Hp} {r : Addr} {zs : List (Addr × (Addr × List Int) × (Addr × List Int))} (T : PL H r zs) : Dp K H (.ref r) (plD (prs zs)) := .lst (SqL.of T.li) (dp_pairs zs T.pr T.e1 T.e2)
theorem lts_pairs {H : Hp} : ∀ zs : List (Addr × (Addr × List Int) × (Addr × List Int)), (∀ z ∈ zs, H z.1 = some (.tup [.ref z.2.1.1, .ref z.2.2.1])) → (∀ z ∈ zs, H z.2.1.1 = some (.tup (z.2.1.2.map V.int))) → (∀ z ∈ zs, H z.2.2.1 = some (.tup (z.2.2.2.map V.int))) → Lts H (zs.map fun z => V.ref z.1) ((prs zs).map prD) []
  | [], _, _, _ => .nil
  | z :: zs, h1, h2, h3 => by
    have t1 : Lt H (.ref z.2.1.1) (tupD z.2.1.2) [] := .tup (h2 z List.mem_cons_self) (ints_lts0 z.2.1.2)
    have t2 : Lt H (.ref z.2.2.1) (tupD z.2.2.2) [] := .tup (h3 z List.mem_cons_self) (ints_lts0 z.2.2.2)
    have t : Lts H [V.ref z.2.1.1, .ref z.2.2.1] [tupD z.2.1.2, tupD z.2.2.2] ([] ++ ([] ++ [])) := .cons t1 (.cons t2 .nil)
    exact .cons (l1 := []) (l2 := []) (.tup (h1 z List.mem_cons_self) t)
      (lts_pairs zs (fun y hy => h1 y (List.mem_cons_of_mem _ hy)) (fun y hy => h2 y (List.mem_cons_of_mem _ hy)) fun y hy => h3 y (List.mem_cons_of_mem _ hy))
theorem repM_pl {K : PySem.W.Frag} {H : Hp} {r : Addr} {zs : List (Addr × (Addr × List Int) × (Addr × List Int))} (T : PL H r zs) (n : (prs zs).length ≤ 500) (g : ∀ z ∈ prs zs, (z.1.length ≤ 3 ∧ ∀ x ∈ z.1, x.natAbs < 10 ^ 30) ∧ z.2.length ≤ 3 ∧ ∀ x ∈ z.2, x.natAbs < 10 ^ 30) : RepM K H (.ref r) (plD (prs zs)).shown :=
  lt_repM (.lst T.li (lts_pairs zs T.pr T.e1 T.e2)) (okM_list3 _ (fun d hd => by
    obtain ⟨z, hz, rfl⟩ := List.mem_map.mp hd
    obtain ⟨⟨a, b⟩, c, e⟩ := g z hz
    exact good_pr a b c e) (by rw [List.length_map]; exact n))
/-! ### lists -/
theorem perm_map_inv {α β : Type} {f : α → β} {ys l : List β} (p : l.Perm ys) : ∀ {ws : List α}, l = ws.map f → ∃ ss : List α, ss.Perm ws ∧ ys = ss.map f := by
  induction p with
  | nil =>
    intro ws e
    exact ⟨ws, List.Perm.refl _, e⟩
  | @cons x l1 l2 p ih =>
    intro ws e
    cases ws with
    | nil => cases e
    | cons w ws =>
      rw [List.map_cons] at e
      injection e with e1 e2
      obtain ⟨ss, q, rfl⟩ := ih e2
      exact ⟨w :: ss, q.cons w, by rw [List.map_cons, e1]⟩
  | swap x y l =>
    intro ws e
    match ws, e with
    | a :: b :: r, e =>
      rw [List.map_cons, List.map_cons] at e
      injection e with e1 e
      injection e with e2 e3
      exact ⟨b :: a :: r, List.Perm.swap a b r, by rw [List.map_cons, List.map_cons, e1, e2, e3]⟩
  | trans p1 p2 ih1 ih2 =>
    intro ws e
    obtain ⟨ss, q, e2⟩ := ih1 e
    obtain ⟨s2, q2, e3⟩ := ih2 e2
    exact ⟨s2, q2.trans q, e3⟩
theorem cutD (xs : List V) (i : Nat) (h : i ≤ xs.length) : cutV xs (some (i : Int)) none = xs.drop i := by
  unfold cutV HT.sIx
  dsimp only
  rw [if_neg (by omega), Int.toNat_natCast, Nat.min_eq_left h, List.take_of_length_le (by rw [List.length_drop]; omega)]
theorem dueL_fst {hd : List (List Int)} {hear : List Int → List (List Int)} : ∀ {g : List (List Int)} {z : List Int × List Int}, z ∈ dueL hd hear g → z.1 ∈ g ∧ z.2 ∈ g
  | a :: r, z, h => by
    have h : z ∈ ((r.filter fun b => quB hd (hear a) && (quB hd (hear b) && covB hd (hear a) (hear b))).map fun b => (a, b)) ++ dueL hd hear r := h
    rcases List.mem_append.mp h with h | h
    · obtain ⟨b, hb, rfl⟩ := List.mem_map.mp h
      exact ⟨List.mem_cons_self, List.mem_cons_of_mem _ (List.mem_filter.mp hb).1⟩
    · obtain ⟨h1, h2⟩ := dueL_fst h
      exact ⟨List.mem_cons_of_mem _ h1, List.mem_cons_of_mem _ h2⟩
theorem dueL_len {hd : List (List Int)} {hear : List Int → List (List Int)} : ∀ g : List (List Int), (dueL hd hear g).length ≤ g.length * g.length
  | [] => Nat.zero_le _
  | a :: r => by
    have ih := dueL_len (hd := hd) (hear := hear) r
    have h : (((r.filter fun b => quB hd (hear a) && (quB hd (hear b) && covB hd (hear a) (hear b))).map fun b => (a, b)) ++ dueL hd hear r).length ≤ (r.length + 1) * (r.length + 1) := by
      rw [List.length_append, List.length_map]
      have := List.length_filter_le (fun b => quB hd (hear a) && (quB hd (hear b) && covB hd (hear a) (hear b))) r
      rw [Nat.mul_add, Nat.add_mul]
      omega
    exact h
section
variable {P : Program} {w : World} {K : PySem.W.Frag} {mg : Str → Option Value} {base : Heap} {f C CN CH CW CP : Addr} {fd : FuncData}
/-- what holds of the web, the plan and the heard ones as the law has them -/
structure Fit (C : Addr) (H : Hp) (p l u : Addr) (pl : Nat) (rc : Int) (qs ks : List (Addr × List Int)) : Prop where
  W : WebQ C H p l pl rc qs
  L : LL H u ks
  n1 : 1 ≤ ks.length
  n9 : ks.length ≤ 9
  pc : ∀ q ∈ ks, Pc pl q.2
theorem Fit.same {H H' : Hp} {p l u : Addr} {pl : Nat} {rc : Int} {qs ks : List (Addr × List Int)} (s : Same H H') (F : Fit C H p l u pl rc qs ks) : Fit C H' p l u pl rc qs ks := ⟨F.W.same s, LL.same s F.L, F.n1, F.n9, F.pc⟩
theorem Fit.few {H : Hp} {p l u : Addr} {pl : Nat} {rc : Int} {qs ks : List (Addr × List Int)} (F : Fit C H p l u pl rc qs ks) : (wts (ks.map (·.2))).length < 32 := by
  have h := wts_len (m := 2) (ps := ks.map (·.2)) fun l hl => by
    obtain ⟨q, hq, rfl⟩ := List.mem_map.mp hl
    exact pc_len (by have := F.W.pp; omega) (F.pc q hq)
  rw [List.length_map] at h
  have := F.n9
  omega
abbrev hearK (qs ks : List (Addr × List Int)) (rg : Bool) : List Int → List (List Int) := hearL (qs.map (·.2)) rg ks.length (wts (ks.map (·.2)))
theorem Fit.plan {H : Hp} {p l u : Addr} {pl : Nat} {rc : Int} {qs ks : List (Addr × List Int)} (F : Fit C H p l u pl rc qs ks) : IsPl K H pl (.ref u) true := pl_good F.W.pp F.L F.n1 (by have := F.n9; omega) F.pc
theorem wtsN_asc : ∀ (t : Nat) (ps : List (List Int)), (∀ p ∈ ps, p.Pairwise (· < ·)) → (wtsN t ps).Pairwise fun x y => HT.lexLt x y = true
  | _, [], _ => .nil
  | t, p :: r, h => by
    refine List.pairwise_append.mpr ⟨?_, wtsN_asc (t + 1) r fun q hq => h q (List.mem_cons_of_mem _ hq), fun x hx y hy => ?_⟩
    · refine List.pairwise_map.mpr ((h p List.mem_cons_self).imp fun {a b} lt => ?_)
      rw [lex2]
      exact decide_eq_true (.inr ⟨rfl, lt⟩)
    · obtain ⟨z, _, rfl⟩ := List.mem_map.mp hx
      obtain ⟨i, _, z', _, _, rfl⟩ := mem_wtsN hy
      rw [lex2]
      exact decide_eq_true (.inl (by omega))
theorem grid_asc (n pl : Nat) : (grid n pl).Pairwise fun x y => HT.lexLt x y = true := wtsN_asc 0 _ fun p hp => by
  rw [List.eq_of_mem_replicate hp, rangeI]
  exact List.pairwise_map.mpr ((List.pairwise_lt_range).imp fun h => by omega)
theorem grid_len (n pl : Nat) (p2 : pl ≤ 2) : (grid n pl).length ≤ 2 * n := by
  have h := wts_len (m := 2) (ps := List.replicate n (rangeI pl)) fun p hp => by
    rw [List.eq_of_mem_replicate hp, rangeI, List.length_map, List.length_range]
    exact p2
  rw [List.length_replicate] at h
  exact h
end
end Kx
/-! The law's own fault. -/
namespace Kx
open PySem PySem.Spec PyProof.Rows L2 Xa Xb Xc Xd Xs Xp Xm Xr Xl Xq Ya Yb Yc Yd Ye Yf Yr Zb Zi Zl Zn
abbrev sDue : Stmt := top 56
section
variable {P : Program} {w : World} {K : PySem.W.Frag} {mg : Str → Option Value} {base : Heap} {f C : Addr} {fd : FuncData}
/-- all are heard by enough, and any two are unlike enough -/
def GoodB (g : List (List Int)) (hear : List Int → List (List Int)) (a b : Int) : Prop := (∀ k ∈ g, a ≤ ((hear k).length : Int)) ∧ ∀ x ∈ g, ∀ y ∈ g, HT.lexLt x y = true → b ≤ (symN (hear x) (hear y) : Int)
def spDue : Sp := fun xs H Q _ => ∃ (tp la u nd : Addr) (pl : Nat) (a b : Int) (qs ks : List (Addr × List Int)) (rg : Bool), xs = [.ref tp, .ref u, .ref nd, .bl rg] ∧ PartQ H tp la pl qs ∧ LL H u ks ∧ 1 ≤ ks.length ∧ ks.length ≤ 9 ∧ (∀ q ∈ ks, Pc pl q.2) ∧ H nd = some (.tup [.int a, .int b]) ∧
  (GoodB (grid ks.length pl) (hearK qs ks rg) a b → ∀ H', Same H H' → Q .non H') ∧ ∀ t xs H', Same H H' → H t = none → H' t = some (.tup xs) → Q (.ref t) H'
abbrev nDue : List Str := ["parts", "plan", "needs", "rounded", "heard", "spots_v", "spot", "at", "other", "piece", "place"]
theorem scDue : FnScope nDue ["parts", "plan", "needs", "rounded"] (defScope sDue) := ⟨rfl, rfl, rfl, by decide +kernel, rfl, by decide +kernel, by decide +kernel⟩
theorem can_due (D : Dfn K mg "_law_due_fault" sDue) (B : Bi3 mg) (cH : CanG P w K mg base 2 "_law_hearers" ["parts", "plan", "rounded"] spLHear) (cU : CanG P w K mg base 1 "_law_unlike" ["one", "other"] spUnl) : CanG P w K mg base 3 "_law_due_fault" ["parts", "plan", "needs", "rounded"] spDue := by
  obtain ⟨f, fd, F, g1⟩ := D.at_
  refine FnG.can (okG F scDue (fun xs H Q E h => ?_) (fun cdv A outer s H vs Q E hr hn h => ?_)) F g1 fun _ _ _ _ _ _ us hl => match us, hl with | [_, _, _, _], _ => rfl
  · obtain ⟨tp, la, u, nd, pl, a, b, qs, ks, rg, rfl, _⟩ := h
    rfl
  · obtain ⟨tp, la, u, nd, pl, a, b, qs, ks, rg, rfl, PQ, L, n1, n3, pc, hnd, yes, no⟩ := h
    have h1 := hr.mono (show 1 ≤ 2 by decide)
    have hu1 := Nat.lt_of_le_of_lt (Nat.add_le_add_left (show 1 ≤ 64 by decide) _) hr.units
    refine ⟨_, PSs.nox <| pss_cons (ps_set (i := 4) scDue.nd rfl (.inl rfl) <| pe_canG cH hr hn <| pa_cons (pv 0) <| pa_cons (pv 1) <| pa1 <| pv 3) <|
      pss_cons (ps_lock <| ps_set (i := 5) scDue.nd rfl (.inl rfl) <| pe_bi (cr_sortT (d := 2) (B := 64) (by decide)) B.sorted <| pa1 <| pe_lc (own := [("piece", 9), ("place", 10)]) (g := gTup K 2 (gCons (gName 9) (gCons (gName 10) gNil))) (tt := tYes) rfl scDue.nd (pi_keys <| pv 4)
          (blkOk_by (own := [("piece", 9), ("place", 10)]) (N := nDue) (sc := defScope sDue) (by decide +kernel)) (fun _ _ _ _ _ => pg_tup (by rfl) <| pgs_cons (pg_name (i := 9) scDue.nd rfl (Or.inl rfl)) <| pgs_cons (pg_name (i := 10) scDue.nd rfl (Or.inl rfl)) pgs_nil) (fun _ _ _ _ _ => pts_nil)
          (fun _ _ _ _ _ => pe_tup <| pa_cons (pv 9) <| pa1 <| pv 10)) <|
      pss_cons (ps_for PassesOwn.never rfl (pi_list <| pv 5) (pg_name (i := 6) scDue.nd rfl (.inl rfl)) <|
        pss_one <| ps_if (pt_cmpR op_lt (pe_bi call_len_seq B.len <| pa1 <| pe_dget hu1 (pv 4) (pv 6) (fun _ _ => rfl)) (pe_ix ix_tup (pv 2) pe_int (fun _ _ => rfl)) (nomark _)) (pss_one <| ps_ret <| pe_tup <| pa_cons pe_str <| pa1 <| pv 6) pss_nil) <|
      pss_cons (ps_for PassesOwn.never rfl (pi_range1 (by rfl) B.range <| pa1 <| pe_bi call_len_seq B.len <| pa1 <| pv 5) (pg_name (i := 7) scDue.nd rfl (.inl rfl)) <|
        pss_one <| ps_for PassesOwn.never rfl (pi_list <| pe_slice sl_list (pv 5) (po_some <| pe_op op_add (pv 7) pe_int) po_none) (pg_name (i := 8) scDue.nd rfl (.inl rfl)) <|
          pss_one <| ps_if (pt_cmpR op_lt (pe_canG cU h1 hn <| pa_cons (pe_dget hu1 (pv 4) (pe_ix ix_list (pv 5) (pv 7) (fun _ _ => rfl)) (fun _ _ => rfl)) <| pa1 <| pe_dget hu1 (pv 4) (pv 8) (fun _ _ => rfl)) (pe_ix ix_tup (pv 2) pe_int (fun _ _ => rfl)) (nomark _))
            (pss_one <| ps_ret <| pe_tup <| pa_cons pe_str <| pa_cons (pe_ix ix_list (pv 5) (pv 7) (fun _ _ => rfl)) <| pa1 <| pv 8) pss_nil) <|
      pss_one <| ps_ret pe_non, ?_⟩
    obtain ⟨g, hg⟩ : ∃ g, g = grid ks.length pl := ⟨_, rfl⟩
    obtain ⟨hear, hhear⟩ : ∃ hear, hear = hearK qs ks rg := ⟨_, rfl⟩
    rw [← hg, ← hhear] at yes
    have p2 : pl ≤ 2 := by have := PQ.pp; omega
    have gasc : g.Pairwise fun x y => HT.lexLt x y = true := by rw [hg]; exact grid_asc _ _
    have gnd : g.Nodup := by rw [hg]; exact grid_nodup _ _
    have glen : g.length ≤ 18 := by
      have h := grid_len ks.length pl p2
      rw [← hg] at h
      omega
    have gmem : ∀ k ∈ g, ∃ x z : Int, k = [x, z] ∧ 0 ≤ x ∧ x < 64 ∧ 0 ≤ z ∧ z < 64 := fun k hk => by
      rw [hg] at hk
      obtain ⟨x, z, e, x0, x1, z0, z1⟩ := mem_grid hk
      exact ⟨x, z, e, x0, by omega, z0, by omega⟩
    have gbd : ∀ k ∈ g, Two2 64 k := fun k hk => by
      obtain ⟨x, z, e, x0, x1, z0, z1⟩ := gmem k hk
      refine ⟨x, z, e, fun m hm => ?_⟩
      simp only [List.mem_cons, List.not_mem_nil, or_false] at hm
      rcases hm with rfl | rfl <;> omega
    have few : (wts (ks.map (·.2))).length < 32 := by
      have h := wts_len (m := 2) (ps := ks.map (·.2)) fun l hl => by
        obtain ⟨q, hq, rfl⟩ := List.mem_map.mp hl
        exact pc_len p2 (pc q hq)
      rw [List.length_map] at h
      omega
    have wn : (wts (ks.map (·.2))).Nodup := wtsN_nodup 0 _ fun p0 hp => by
      obtain ⟨r, hr2, rfl⟩ := List.mem_map.mp hp
      exact (pc r hr2).1.imp fun z => Int.ne_of_lt z
    have hrsub : ∀ k, ∀ k' ∈ hear k, k' ∈ wts (ks.map (·.2)) := fun k k' h => by
      rw [hhear] at h
      exact (List.mem_filter.mp h).1
    have hrnd : ∀ k, (hear k).Nodup := fun k => by
      rw [hhear]
      exact wn.sublist List.filter_sublist
    refine ⟨_, rfl, _, rfl, _, rfl, tp, la, u, pl, qs, ks, rg, rfl, PQ, L, n1, by omega, pc, fun d ad H1 TT1 => ?_⟩
    rw [← hg, show hearL (qs.map (·.2)) rg ks.length (wts (ks.map (·.2))) = hear from hhear.symm] at TT1
    -- the spots
    have dk : H1 d = some (.dT (entsOf g ad)) := TT1.di
    refine ⟨d, _, dk, trivial, fun od => ?_⟩
    have fz : (upd H1 d (.frz od (.dT (entsOf g ad)))) d = some (.frz od (.dT (entsOf g ad))) := upd_same
    have s4 : ∀ c o, H1 c = some o → c ≠ d → (upd H1 d (.frz od (.dT (entsOf g ad)))) c = some o := fun c o e n => by rw [upd_ne n]; exact e
    have nf4 : ∀ c, (upd H1 d (.frz od (.dT (entsOf g ad)))) c = none → H1 c = none := fun c e => by
      cases z : H1 c with
      | none => rfl
      | some o =>
        by_cases cd : c = d
        · rw [cd, fz] at e
          cases e
        · rw [s4 c o z cd] at e
          cases e
    have back : ∀ {H' : Hp}, Same (upd H1 d (.frz od (.dT (entsOf g ad)))) H' → Same H1 (upd H' d (.dT (entsOf g ad))) := fun {H'} sm c o e => by
      by_cases cd : c = d
      · rw [cd, upd_same]
        rw [cd, dk] at e
        exact e
      · rw [upd_ne cd]
        exact sm _ _ (s4 c o e cd)
    generalize upd H1 d (.frz od (.dT (entsOf g ad))) = H4 at fz s4 nf4 back ⊢
    refine ⟨_, rfl, d, od, rfl, .inr ⟨_, fz, fun D nD => ?_⟩⟩
    refine lc_it (walk_keysT (d := d) (o := od) (kvs := entsOf g ad)) (fun i H' => ∃ ws, TL H' D ws ∧ ws.map (·.2) = g.take i ∧ Same H4 H') ⟨[], ⟨upd_same, fun q hq => nomatch hq⟩, rfl, upd_same_as nD⟩ (fun i H' _ ⟨_, _, _, sm⟩ => sm _ _ fz) ?_ ?_
    · rintro i x H' H'' lt ⟨ws, Tw, ew, sm⟩ ⟨rfl, kk, vv, qa, hkv, rfl, hq⟩
      obtain ⟨k, hk, rfl, rfl⟩ : ∃ k, g[i]? = some k ∧ kk = kI k ∧ vv = .ref (ad k) := by
        rw [entsOf, List.getElem?_map] at hkv
        cases z : g[i]? with
        | none =>
          rw [z] at hkv
          cases hkv
        | some k =>
          rw [z] at hkv
          have e := Option.some.inj hkv
          exact ⟨k, rfl, (congrArg Prod.fst e).symm, (congrArg Prod.snd e).symm⟩
      rw [kI_v] at hq
      have kin := List.mem_of_getElem? hk
      obtain ⟨x, y, rfl, _⟩ := gmem k kin
      have il := (List.getElem?_eq_some_iff.mp hk).1
      refine ⟨qa, _, rfl, SqT.of (xs := [V.int x, V.int y]) hq, rfl, .int x, _, rfl, .int y, _, rfl, rfl, rfl, lc_yes2 ⟨_, rfl, _, rfl, (by show 2 ≤ sizeLine; decide), fun t nt => ?_⟩⟩
      have u1 := upd_same_as (o := .tup [V.int x, .int y]) nt
      refine ⟨_, (Tw.same u1).li, ?_, ws ++ [(t, [x, y])], Tw.put nt (l := [x, y]), ?_, fun c' o e => ?_⟩
      · rw [List.length_map]
        have h := congrArg List.length ew
        rw [List.length_map, List.length_take] at h
        exact small_ (by omega)
      · rw [List.map_append, ew, List.take_add_one, hk]
        rfl
      · rw [upd_ne (ne_of_none e nD)]
        exact u1 _ _ (sm _ _ e)
    rintro H5 ⟨ws, Tw, ew, sm⟩
    rw [entsOf, List.length_map, List.take_length] at ew
    have wl : ws.length ≤ 18 := by
      have h := congrArg List.length ew
      rw [List.length_map] at h
      omega
    have win : ∀ q ∈ ws, q.2 ∈ g := fun q hq => by
      rw [← ew]
      exact List.mem_map.mpr ⟨q, hq, rfl⟩
    refine ⟨D, _, rfl, SqL.of Tw.li, by rw [List.length_map]; omega, fun x hx => ?_, fun ys so pm pw nso => ?_⟩
    · obtain ⟨q, hq, rfl⟩ := List.mem_map.mp hx
      obtain ⟨x, y, e, bd⟩ := gbd _ (win q hq)
      exact ⟨q.2, ⟨q.1, rfl, SqT.of (Tw.tu q hq)⟩, by rw [e]; rfl, by rw [e]; exact bd⟩
    obtain ⟨ss, ps, rfl⟩ := perm_map_inv pm.symm rfl
    have sin : ∀ q ∈ ss, q ∈ ws := fun q hq => ps.mem_iff.mp hq
    have ssg : ∀ q ∈ ss, q.2 ∈ g := fun q hq => win q (sin q hq)
    have sl : ss.length = g.length := by rw [ps.length_eq, ← ew, List.length_map]
    have es : ss.map (·.2) = g := by
      have pk : (ss.map (·.2)).Perm g := by
        rw [← ew]
        exact ps.map _
      refine same_of pk (asc_of_code (B := 64) (fun k hk => gbd k (pk.mem_iff.mp hk)) (pk.nodup_iff.mpr gnd) ?_) gasc
      refine List.pairwise_map.mpr ((List.pairwise_map.mp pw).imp_of_mem fun {a b} ha hb z => z a.2 b.2 ⟨a.1, rfl, SqT.of (Tw.tu a (sin a ha))⟩ ⟨b.1, rfl, SqT.of (Tw.tu b (sin b hb))⟩)
    have u5 := upd_same_as (o := .lst (ss.map fun q => V.ref q.1)) nso
    have sm5 := sm.trans u5
    refine ⟨sm5 _ _ fz, ?_⟩
    have sB := back sm5
    have sod : so ≠ d := fun e => by
      rw [e] at nso
      rw [sm _ _ fz] at nso
      cases nso
    have TsB : TL (upd (upd H5 so (.lst (ss.map fun q => V.ref q.1))) d (.dT (entsOf g ad))) so ss := by
      refine ⟨by rw [upd_ne sod]; exact upd_same, fun q hq => ?_⟩
      have t := u5 _ _ (Tw.tu q (sin q hq))
      rw [upd_ne (ne_of t (sm5 _ _ fz) (by intro z; cases z))]
      exact t
    generalize upd (upd H5 so (.lst (ss.map fun q => V.ref q.1))) d (.dT (entsOf g ad)) = HB at sB TsB ⊢
    clear sm5 u5 nso sm Tw nf4 back s4 fz
    have TTB := TT1.up sB
    have sA := TT1.same.trans sB
    have ndB := sA _ _ hnd
    have dg : ∀ {H' : Hp} {q : Addr × List Int}, Same HB H' → q ∈ ss → DGet H' d (.ref q.1) (some (.ref (ad q.2))) ∧ ∃ zs, TL H' (ad q.2) zs ∧ Ks zs = hear q.2 := fun {H' q} b hq => by
      have T := TTB.up b
      have h := DGet.t (k := kI q.2) T.di (by rw [kI_v]; exact (TsB.same b).tu q hq)
      rw [ents_val (ssg q hq)] at h
      obtain ⟨zs, Tz, ez⟩ := T.el q.2 (ssg q hq)
      exact ⟨h, zs, Tz, ez⟩
    have at0 : ∀ (x y : V), atI [x, y] 0 = some x := fun x y => atI_nat (j := 0) rfl
    have at1 : ∀ (x y : V), atI [x, y] 1 = some y := fun x y => atI_nat (j := 1) rfl
    -- enough
    refine ⟨_, rfl, so, rfl, ⟨_, SqL.of TsB.li⟩, for_list (K := K) (a := so) (xs := ss.map fun q => V.ref q.1) (fun i σ H' => ∃ v6 : Option V, σ = [some (.ref tp), some (.ref u), some (.ref nd), some (.bl rg), some (.ref d), some (.ref so), v6, none, none, none, none] ∧ Same HB H' ∧ ∀ k ∈ g.take i, a ≤ ((hear k).length : Int))
      ⟨_, rfl, Same.refl _, fun k hk => by simp at hk⟩ (fun i σ H' _ ⟨_, _, s, _⟩ => SqL.of (s _ _ TsB.li)) ?_ ?_⟩
    · rintro i y σ H' hy ⟨v6, rfl, sm, good⟩
      obtain ⟨r, hr2, rfl⟩ := ref_get hy
      have rin := List.mem_of_getElem? hr2
      have gk : g[i]? = some r.2 := by rw [← es, List.getElem?_map, hr2] <;> rfl
      obtain ⟨h1, zs, Tz, ez⟩ := dg sm rin
      have el : ((zs.map fun q => V.ref q.1).length : Int) = ((hear r.2).length : Int) := by rw [List.length_map, ← ez, List.length_map]
      refine ⟨_, rfl, _, rfl, d, _, rfl, h1, ad r.2, _, rfl, .inl (SqL.of Tz.li), ?_⟩
      rw [el]
      refine ⟨_, rfl, nd, _, 0, .int a, rfl, rfl, SqT.of (sm _ _ ndB), at0 _ _, _, _, rfl, rfl, _, rfl, ?_⟩
      show if decide (((hear r.2).length : Int) < a) = true then _ else _
      refine lc_if (fun c => ?_) fun c => ?_
      · exact ⟨_, rfl, (by show 2 ≤ sizeLine; decide), fun t nt => no t _ _ (sA.trans (sm.trans (upd_same_as nt))) ((sA.trans sm).free nt) upd_same⟩
      · refine ⟨_, rfl, sm, fun k hk => ?_⟩
        rw [List.take_add_one, gk] at hk
        rcases List.mem_append.mp hk with hk | hk
        · exact good k hk
        · have hk : k = r.2 := by simpa using hk
          rw [hk]
          have := of_decide_eq_false c
          omega
    rintro σ H2 ⟨v6, rfl, s2, good⟩
    rw [List.length_map, sl, List.take_length] at good
    -- unlike enough
    have kl : ((ss.map fun q => V.ref q.1).length : Int) = (g.length : Int) := by rw [List.length_map, sl]
    have pick : ∀ {i : Nat} {k : List Int}, g[i]? = some k → ∃ r, ss[i]? = some r ∧ r.2 = k := fun {i k} h => by
      rw [← es, List.getElem?_map] at h
      cases e : ss[i]? with
      | none =>
        rw [e] at h
        cases h
      | some r =>
        rw [e] at h
        exact ⟨r, rfl, Option.some.inj h⟩
    refine ⟨_, rfl, so, _, rfl, .inl (SqL.of (s2 _ _ TsB.li)), ?_⟩
    rw [kl]
    refine ⟨_, rfl, by omega, by omega, for_range (lo := 0) (n := g.length) (fun i σ H' => ∃ v7 v8 : Option V, σ = [some (.ref tp), some (.ref u), some (.ref nd), some (.bl rg), some (.ref d), some (.ref so), v6, v7, v8, none, none] ∧ Same HB H' ∧ ∀ x ∈ g.take i, ∀ y ∈ g, HT.lexLt x y = true → b ≤ (symN (hear x) (hear y) : Int))
      ⟨_, _, rfl, s2, fun k hk => by simp at hk⟩ ?_ ?_⟩
    · rintro i σ H3 hi ⟨v7, v8, rfl, s3, far⟩
      have hi : i < g.length := hi
      obtain ⟨k1, hk1⟩ : ∃ k1, g[i]? = some k1 := ⟨_, List.getElem?_eq_getElem hi⟩
      obtain ⟨r1, hr1, er1⟩ := pick hk1
      have r1in := List.mem_of_getElem? hr1
      refine ⟨_, rfl, ⟨_, rfl, _, _, rfl, rfl, _, rfl, so, _, rfl, SqL.of (s3 _ _ TsB.li), fun Lp nLp => ?_⟩⟩
      have cut : cutV (ss.map fun q => V.ref q.1) (some (0 + (i : Int) + 1)) none = (ss.drop (i + 1)).map fun q => V.ref q.1 := by
        rw [show (0 + (i : Int) + 1) = ((i + 1 : Nat) : Int) by omega, cutD _ _ (by rw [List.length_map]; omega), List.map_drop]
      rw [cut]
      have u3 := upd_same_as (o := .lst ((ss.drop (i + 1)).map fun q => V.ref q.1)) nLp
      have hLp := upd_same (H := H3) (a := Lp) (o := .lst ((ss.drop (i + 1)).map fun q => V.ref q.1))
      have s4 := s3.trans u3
      generalize upd H3 Lp (.lst ((ss.drop (i + 1)).map fun q => V.ref q.1)) = H4 at hLp s4 ⊢
      refine ⟨Lp, rfl, ⟨_, SqL.of hLp⟩, for_list (K := K) (a := Lp) (xs := (ss.drop (i + 1)).map fun q => V.ref q.1) (fun j σ H' => ∃ v8 : Option V, σ = [some (.ref tp), some (.ref u), some (.ref nd), some (.bl rg), some (.ref d), some (.ref so), v6, some (.int (0 + (i : Int))), v8, none, none] ∧ Same H4 H' ∧ ∀ y ∈ (g.drop (i + 1)).take j, b ≤ (symN (hear k1) (hear y) : Int))
        ⟨_, rfl, Same.refl _, fun y hy => by simp at hy⟩ (fun j σ H' _ ⟨_, _, s, _⟩ => SqL.of (s _ _ hLp)) ?_ ?_⟩
      · rintro j y σ H5 hy ⟨v8, rfl, s5, near⟩
        obtain ⟨r2, hr2, rfl⟩ := ref_get hy
        have r2in := List.mem_of_mem_drop (List.mem_of_getElem? hr2)
        have hk2 : (g.drop (i + 1))[j]? = some r2.2 := by
          rw [← es, ← List.map_drop, List.getElem?_map, hr2] <;> rfl
        have s45 := s4.trans s5
        obtain ⟨dg1, z1, T1, e1⟩ := dg s45 r1in
        obtain ⟨dg2, z2, T2, e2⟩ := dg s45 r2in
        rw [er1] at dg1 T1 e1
        have atr : atI (ss.map fun q => V.ref q.1) (0 + (i : Int)) = some (.ref r1.1) := by
          rw [Int.zero_add]
          exact atI_nat (by rw [List.getElem?_map, hr1] <;> rfl)
        refine ⟨_, rfl, ⟨_, rfl, _, rfl, so, _, _, _, rfl, rfl, SqL.of (s45 _ _ TsB.li), atr, d, _, rfl, dg1, _, rfl, _, rfl, d, _, rfl, dg2, ad k1, ad r2.2, z1, z2, wts (ks.map (·.2)), rfl, T1, T2, few, by rw [e1]; exact hrnd _, by rw [e2]; exact hrnd _, by rw [e1]; exact hrsub _, by rw [e2]; exact hrsub _, fun H6 s6 => ?_⟩⟩
        rw [e1, e2]
        refine ⟨_, rfl, nd, _, 1, .int b, rfl, rfl, SqT.of (s6 _ _ (s45 _ _ ndB)), at1 _ _, _, _, rfl, rfl, _, rfl, ?_⟩
        show if decide (((symN (hear k1) (hear r2.2) : Nat) : Int) < b) = true then _ else _
        have s46 := s45.trans s6
        refine lc_if (fun c => ?_) fun c => ?_
        · exact ⟨_, rfl, _, rfl, so, _, _, _, rfl, rfl, SqL.of (s46 _ _ TsB.li), atr, _, rfl, (by show 3 ≤ sizeLine; decide), fun t nt => no t _ _ (sA.trans (s46.trans (upd_same_as nt))) ((sA.trans s46).free nt) upd_same⟩
        · refine ⟨_, rfl, s5.trans s6, fun y hy => ?_⟩
          rw [List.take_add_one, hk2] at hy
          rcases List.mem_append.mp hy with hy | hy
          · exact near y hy
          · have hy : y = r2.2 := by simpa using hy
            rw [hy]
            have := of_decide_eq_false c
            omega
      · rintro σ H5 ⟨v8, rfl, s5, near⟩
        refine ⟨_, _, rfl, s4.trans s5, fun x hx y hy lt => ?_⟩
        rw [List.take_add_one, hk1] at hx
        rcases List.mem_append.mp hx with hx | hx
        · exact far x hx y hy lt
        · have hx : x = k1 := by simpa using hx
          rw [hx] at lt ⊢
          rw [List.length_map, List.length_drop, sl, ← List.length_drop, List.take_length] at near
          refine near y ?_
          -- y stands behind
          obtain ⟨m, hm⟩ := List.mem_iff_getElem?.mp hy
          by_cases c : i < m
          · refine List.mem_iff_getElem?.mpr ⟨m - (i + 1), ?_⟩
            rw [List.getElem?_drop, show i + 1 + (m - (i + 1)) = m by omega]
            exact hm
          · have hm2 := (List.getElem?_eq_some_iff.mp hm)
            have hk2 := (List.getElem?_eq_some_iff.mp hk1)
            obtain ⟨ml, em⟩ := hm2
            obtain ⟨il, ei⟩ := hk2
            by_cases e : m = i
            · subst e
              rw [← em, ← ei, lex_irr] at lt
              cases lt
            · have h := List.pairwise_iff_getElem.mp gasc m i ml il (by omega)
              rw [em, ei] at h
              rw [lex_asym h] at lt
              cases lt
    · rintro σ H3 ⟨v7, v8, rfl, s3, far⟩
      rw [List.take_length] at far
      exact yes ⟨good, far⟩ H3 (sA.trans s3)
end
end Kx
/-! Drawn needs; what stands while the generator draws. -/
namespace Kx
open PySem PySem.Spec PyProof.Rows L2 Xa Xb Xc Xd Xs Xp Xm Xr Xl Xq Ya Yb Yc Yd Ye Yf Yr Zb Zi Zl Zn
abbrev sDrawNeeds : Stmt := top 57
theorem Gen.to {H H' : Hp} {g : Addr} {n : Nat} (e : ∀ o, H g = some o → H' g = some o) : Gen H g n → Gen H' g n := fun ⟨g0, g1, g2, h1, r⟩ => ⟨g0, g1, g2, e _ h1, r⟩
theorem Gen.up {H : Hp} {g : Addr} {n m : Nat} (h : n ≤ m) : Gen H g n → Gen H g m := fun ⟨g0, g1, g2, h1, h2, h3, h4, h5, h6, h7⟩ => ⟨g0, g1, g2, h1, h2, h3, h4, h5, h6, by omega⟩
theorem Gen.is {H : Hp} {g : Addr} {n : Nat} : Gen H g n → ∃ xs, H g = some (.lst xs) := fun ⟨_, _, _, h, _⟩ => ⟨_, h⟩
theorem Gen.ne {H : Hp} {g a : Addr} {n : Nat} (G : Gen H g n) (h : H a = none) : a ≠ g := fun e => by
  obtain ⟨_, _, _, z, _⟩ := G
  rw [e, z] at h
  cases h
theorem ButG.of {g : Addr} {H H' : Hp} (s : Same H H') : ButG g H H' := fun c o e _ => s c o e
theorem ButG.trans {g : Addr} {H H' H2 : Hp} (a : ButG g H H') (b : ButG g H' H2) : ButG g H H2 := fun c o e n => b c o (a c o e n) n
theorem ButG.eq {g : Addr} {H H' : Hp} (k : ∀ c, c ≠ g → H' c = H c) : ButG g H H' := fun c o e n => by rw [k c n]; exact e
theorem LL.butg {g u : Addr} {H H' : Hp} {ks : List (Addr × List Int)} (L : LL H u ks) (ne : u ≠ g) (nq : ∀ q ∈ ks, q.1 ≠ g) (b : ButG g H H') : LL H' u ks := ⟨b _ _ L.1 ne, fun q hq => b _ _ (L.2 q hq) (nq q hq)⟩
section
variable {P : Program} {w : World} {K : PySem.W.Frag} {mg : Str → Option Value} {base : Heap} {f C : Addr} {fd : FuncData}
def spDrawNeeds : Sp := fun xs H Q _ => ∃ (g : Addr) (n : Nat), xs = [.ref g] ∧ Gen H g n ∧ n ≤ 2 ^ 39 ∧ ∀ (t : Addr) (a b : Int) (H' : Hp), ButG g H H' → Gen H' g (n + 12) → H t = none → H' t = some (.tup [.int a, .int b]) → 1 ≤ a → a ≤ 3 → 0 ≤ b → b ≤ 2 * a → Q (.ref t) H'
abbrev nDrawNeeds : List Str := ["generator", "fewest"]
theorem scDrawNeeds : FnScope nDrawNeeds ["generator"] (defScope sDrawNeeds) := ⟨rfl, rfl, rfl, by decide +kernel, rfl, by decide +kernel, by decide +kernel⟩
theorem can_drawneeds (D : Dfn K mg "_law_needs" sDrawNeeds) (B : Bi3 mg) (cR : CanG P w K mg base 2 "_law_random" ["generator", "bound"] spRandom) : CanG P w K mg base 3 "_law_needs" ["generator"] spDrawNeeds := by
  obtain ⟨f, fd, F, g1⟩ := D.at_
  refine FnG.can (okG F scDrawNeeds (fun xs H Q E h => ?_) (fun cdv A outer s H vs Q E hr hn h => ?_)) F g1 fun _ _ _ _ _ _ us hl => match us, hl with | [_], _ => rfl
  · obtain ⟨g, n, rfl, _⟩ := h
    rfl
  · obtain ⟨g, n, rfl, G, nn, q⟩ := h
    refine ⟨_, PSs.nox <| pss_cons (ps_set (i := 1) scDrawNeeds.nd rfl (.inl rfl) <| pe_op op_add pe_int <| pe_ix ix_list (pe_lst <| pa_cons pe_int <| pa_cons pe_int <| pa_cons pe_int <| pa_cons pe_int <| pa1 pe_int) (pe_canG cR hr hn <| pa_cons (pv 0) <| pa1 pe_int) (fun _ _ => rfl)) <|
      pss_one <| ps_ret <| pe_tup <| pa_cons (pv 1) <| pa1 <| pe_ix ix_list (pe_lst <| pa_cons pe_int <| pa_cons pe_int <| pa1 <| pe_canG cR hr hn <| pa_cons (pv 0) <| pa1 <| pe_op op_add (pe_op op_mul pe_int (pv 1)) pe_int) (pe_canG cR hr hn <| pa_cons (pv 0) <| pa1 pe_int) (fun _ _ => rfl), ?_⟩
    refine ⟨(by show 5 ≤ sizeLine; decide), fun L nL => ?_⟩
    have u1 := upd_same_as (o := .lst [V.int 0, .int 0, .int 0, .int 1, .int 2]) nL
    have hL := upd_same (H := H) (a := L) (o := .lst [V.int 0, .int 0, .int 0, .int 1, .int 2])
    have G1 := (G.to (H' := upd H L (.lst [V.int 0, .int 0, .int 0, .int 1, .int 2])) fun o e => u1 _ _ e)
    have Lg := G.ne nL
    generalize upd H L (.lst [V.int 0, .int 0, .int 0, .int 1, .int 2]) = H1 at u1 hL G1 ⊢
    refine ⟨_, rfl, g, 5, _, rfl, by decide, by decide, G1, by omega, fun r H2 r0 r1 G2 k2 => ?_⟩
    have b2 : ButG g H H2 := (ButG.of u1).trans (ButG.eq k2)
    have hL2 : H2 L = some (.lst [V.int 0, .int 0, .int 0, .int 1, .int 2]) := by rw [k2 L Lg]; exact hL
    obtain ⟨t, att, t2⟩ : ∃ t : Int, atI [V.int 0, .int 0, .int 0, .int 1, .int 2] r = some (.int t) ∧ 0 ≤ t ∧ t ≤ 2 := by
      obtain ⟨m, rfl⟩ : ∃ m : Nat, r = m := ⟨r.toNat, by omega⟩
      have : m = 0 ∨ m = 1 ∨ m = 2 ∨ m = 3 ∨ m = 4 := by omega
      rcases this with rfl | rfl | rfl | rfl | rfl
      · exact ⟨0, atI_nat (j := 0) rfl, by decide⟩
      · exact ⟨0, atI_nat (j := 1) rfl, by decide⟩
      · exact ⟨0, atI_nat (j := 2) rfl, by decide⟩
      · exact ⟨1, atI_nat (j := 3) rfl, by decide⟩
      · exact ⟨2, atI_nat (j := 4) rfl, by decide⟩
    refine ⟨L, _, _, _, rfl, rfl, SqL.of hL2, att, _, _, rfl, rfl, ?_⟩
    refine ⟨_, rfl, _, rfl, _, rfl, _, _, rfl, rfl, .inl ⟨by decide, by decide⟩, _, _, rfl, rfl, g, 2 * (1 + t) + 1, _, rfl, by omega, by omega, G2, by omega, fun r3 H3 r30 r31 G3 k3 => ?_⟩
    have b3 := b2.trans (ButG.eq k3)
    refine ⟨(by show 3 ≤ sizeLine; decide), fun L2 nL2 => ?_⟩
    have u4 := upd_same_as (o := .lst [V.int 1, .int 1, .int r3]) nL2
    have hM := upd_same (H := H3) (a := L2) (o := .lst [V.int 1, .int 1, .int r3])
    have G4 := (G3.to (H' := upd H3 L2 (.lst [V.int 1, .int 1, .int r3])) fun o e => u4 _ _ e)
    have L2g := G3.ne nL2
    have b4 := b3.trans (ButG.of u4)
    generalize upd H3 L2 (.lst [V.int 1, .int 1, .int r3]) = H4 at u4 hM G4 b4 ⊢
    refine ⟨_, rfl, g, 3, _, rfl, by decide, by decide, G4, by omega, fun r5 H5 r50 r51 G5 k5 => ?_⟩
    have b5 := b4.trans (ButG.eq k5)
    have hM5 : H5 L2 = some (.lst [V.int 1, .int 1, .int r3]) := by rw [k5 L2 L2g]; exact hM
    obtain ⟨z, atz, z2⟩ : ∃ z : Int, atI [V.int 1, .int 1, .int r3] r5 = some (.int z) ∧ 0 ≤ z ∧ z ≤ 2 * (1 + t) := by
      obtain ⟨m, rfl⟩ : ∃ m : Nat, r5 = m := ⟨r5.toNat, by omega⟩
      have : m = 0 ∨ m = 1 ∨ m = 2 := by omega
      rcases this with rfl | rfl | rfl
      · exact ⟨1, atI_nat (j := 0) rfl, by omega, by omega⟩
      · exact ⟨1, atI_nat (j := 1) rfl, by omega, by omega⟩
      · exact ⟨r3, atI_nat (j := 2) rfl, by omega, by omega⟩
    refine ⟨L2, _, _, _, rfl, rfl, SqL.of hM5, atz, (by show 2 ≤ sizeLine; decide), fun a na => ?_⟩
    have u6 := upd_same_as (o := .tup [V.int (1 + t), .int z]) na
    refine q a (1 + t) z _ (b5.trans (ButG.of u6)) ((G5.to fun o e => u6 _ _ e).up (by omega)) ?_ upd_same (by omega) (by omega) (by omega) (by omega)
    cases e : H a with
    | none => rfl
    | some o =>
      have := b5 _ _ e (G5.ne na)
      rw [na] at this
      cases this
end
end Kx
/-! Good plans. -/
namespace Kx
open PySem PySem.Spec PyProof.Rows L2 Xa Xb Xc Xd Xs Xp Xm Xr Xl Xq Ya Yb Yc Yd Ye Yf Yr Zb Zi Zl Zn
abbrev sGoodP : Stmt := top 58
theorem fork2 {R : Addr → Hp → Prop} {G : Prop} (A : Addr → Hp → Prop) (h1 : (∀ a H6, A a H6 → R a H6) → G) (h2 : ∀ a H6, A a H6 → R a H6) : G := h1 h2
theorem op_isNt {X : Cx} : OpR X (compareOp .IsNot) (fun x y H Q => (x = .non ∨ ∃ t, x = .ref t) ∧ y = .non ∧ Q (.bl (!decide (x = .non))) H) := by
  rintro pns s σ H x y v u Q I rx ry ⟨hx, rfl, q⟩
  cases ry
  rcases hx with rfl | ⟨t, rfl⟩
  · cases rx
    show wpAny _ _ ((isSame .none .none) >>= fun z => pure (Value.bool (!z))) _ _ s
    exact wpAny_bind (wpAny_isSame_plain rfl (wpAny_pure (fin_bl I q (by decide))))
  · cases rx
    show wpAny _ _ ((isSame (.ref t) .none) >>= fun z => pure (Value.bool (!z))) _ _ s
    exact wpAny_bind (wpAny_isSame_plain rfl (wpAny_pure (fin_bl I q rfl)))
section
variable {P : Program} {w : World} {K : PySem.W.Frag} {mg : Str → Option Value} {base : Heap} {f C : Addr} {fd : FuncData}
def spGoodP : Sp := fun xs H Q _ => ∃ (g tp la nd : Addr) (pl many n : Nat) (a b : Int) (qs : List (Addr × List Int)) (rg : Bool), xs = [.ref g, .ref tp, .int many, .ref nd, .bl rg] ∧ Gen H g n ∧ n ≤ 2 ^ 39 ∧ PartQ H tp la pl qs ∧ la ≠ g ∧ 1 ≤ many ∧ many ≤ 9 ∧ H nd = some (.tup [.int a, .int b]) ∧
  ∀ (A : Addr) (ks : List (Addr × List Int)) (H' : Hp), ButG g H H' → Gen H' g (n + 200) → H A = none → LL H' A ks → (∀ q ∈ ks, H q.1 = none) → (∀ q ∈ ks, Pc pl q.2) → ks.length = many → Q (.ref A) H'
abbrev nGoodP : List Str := ["generator", "parts", "many", "needs", "rounded", "piece", "plan", "turn", "less", "some"]
theorem scGoodP : FnScope nGoodP ["generator", "parts", "many", "needs", "rounded"] (defScope sGoodP) := ⟨rfl, rfl, rfl, by decide +kernel, rfl, by decide +kernel, by decide +kernel⟩
theorem can_goodp (D : Dfn K mg "_law_good_plan" sGoodP) (B : Bi3 mg) (cR : CanG P w K mg base 2 "_law_random" ["generator", "bound"] spRandom) (cD : CanG P w K mg base 3 "_law_due_fault" ["parts", "plan", "needs", "rounded"] spDue) : CanG P w K mg base 4 "_law_good_plan" ["generator", "parts", "many", "needs", "rounded"] spGoodP := by
  obtain ⟨f, fd, F, g1⟩ := D.at_
  refine FnG.can (okG F scGoodP (fun xs H Q E h => ?_) (fun cdv A outer s H vs Q E hr hn h => ?_)) F g1 fun _ _ _ _ _ _ us hl => match us, hl with | [_, _, _, _, _], _ => rfl
  · obtain ⟨g, tp, la, nd, pl, many, n, a, b, qs, rg, rfl, _⟩ := h
    rfl
  · obtain ⟨g, tp, la, nd, pl, many, n, a, b, qs, rg, rfl, G, nn, PQ, lag, m1, m9, hnd, q⟩ := h
    have h2 := hr.mono (show 2 ≤ 3 by decide)
    refine ⟨_, PSs.nox <| pss_cons (ps_setLc (i := 6) (own := [("piece", 5)]) (g := gName 5) (tt := tYes) rfl scGoodP.nd rfl rfl (sw_true rfl rfl rfl (by decide +kernel)) (pi_range1 (by rfl) B.range <| pa1 <| pv 2) (blkOk_by (own := [("piece", 5)]) (N := nGoodP) (sc := defScope sGoodP) (by decide +kernel))
        (fun _ _ _ _ _ => pg_name (i := 5) scGoodP.nd rfl (Or.inl rfl)) (fun _ _ _ _ _ => pts_nil) (fun _ _ _ _ _ => pe_listRg rfl (by rfl) B.list <| prg_1 (by rfl) B.range <| pe_ix (r := rIxT K) ix_tup (pv 1) pe_int (fun _ _ => rfl))) <|
      pss_cons (ps_if (pt_cmpR op_isNt (pe_canG cD hr hn <| pa_cons (pv 1) <| pa_cons (pv 6) <| pa_cons (pv 3) <| pa1 <| pv 4) pe_non (nomark _)) (pss_one <| ps_ret <| pv 6) pss_nil) <|
      pss_cons (ps_for PassesOwn.never rfl (pi_range1 (by rfl) B.range <| pa1 <| pe_canG cR h2 hn <| pa_cons (pv 0) <| pa1 <| pe_op op_mul pe_int (pv 2)) (pg_name (i := 7) scGoodP.nd rfl (.inl rfl)) <|
        pss_cons (ps_set (i := 5) scGoodP.nd rfl (.inl rfl) <| pe_canG cR h2 hn <| pa_cons (pv 0) <| pa1 <| pv 2) <|
        pss_cons (ps_setLc (i := 8) (own := [("some", 9)]) (g := gName 9) (tt := tYes) rfl scGoodP.nd rfl rfl (sw_true rfl rfl rfl (by decide +kernel)) (pi_list <| pv 6) (blkOk_by (own := [("some", 9)]) (N := nGoodP) (sc := defScope sGoodP) (by decide +kernel))
          (fun _ _ _ _ _ => pg_name (i := 9) scGoodP.nd rfl (Or.inl rfl)) (fun _ _ _ _ _ => pts_nil) (fun _ _ _ _ _ => pe_ty (r := rListOf2 K) (show CallR _ (.type "list") (rListOf2 K) from call_list_of) B.list <| pa1 <| pv 9)) <|
        pss_cons (ps_asg (pe_ifExp (pt_cmpR op_eq (pe_canG cR h2 hn <| pa_cons (pv 0) <| pa1 pe_int) pe_int (nomark _)) (pe_slice sl_list (pe_ix ix_list (pv 8) (pv 5) (fun _ _ => rfl)) (po_some pe_int) po_none) (pe_slice sl_list (pe_ix ix_list (pv 8) (pv 5) (fun _ _ => rfl)) po_none (po_some <| pe_un un_neg pe_int))) (pg_sub (pv 8) (pv 5) set_list)) <|
        pss_one <| ps_if (pt_cmpR op_isN (pe_canG cD hr hn <| pa_cons (pv 1) <| pa_cons (pv 8) <| pa_cons (pv 3) <| pa1 <| pv 4) pe_non (nomark _)) (pss_one <| ps_set (i := 6) scGoodP.nd rfl (.inl rfl) <| pv 8) pss_nil) <|
      pss_one <| ps_ret <| pv 6, ?_⟩
    have at0 : ∀ (x y : V), atI [x, y] 0 = some x := fun x y => atI_nat (j := 0) rfl
    have p2 : pl ≤ 2 := by have := PQ.pp; omega
    obtain ⟨xg, hxg⟩ := G.is
    have pq : ∀ {H' : Hp}, ButG g H H' → PartQ H' tp la pl qs ∧ H' nd = some (.tup [.int a, .int b]) := fun {H'} k => by
      have kt : ∀ {c : Addr} {ys : List V}, H c = some (.tup ys) → H' c = some (.tup ys) := fun {c ys} e => k _ _ e (ne_of e hxg (by intro z; cases z))
      exact ⟨⟨kt PQ.tp, k _ _ PQ.la lag, fun q hq => kt (PQ.tu q hq), PQ.lk, PQ.pp, PQ.few⟩, kt hnd⟩
    have rpc : Pc pl (rangeI pl) := by
      refine ⟨List.pairwise_map.mpr (List.pairwise_lt_range.imp fun h => by omega), fun z hz => ?_⟩
      obtain ⟨i, hi, rfl⟩ := List.mem_map.mp hz
      have := List.mem_range.mp hi
      omega
    have rgE : rgV 0 (pl : Int) = (rangeI pl).map V.int := by
      rw [rangeI, List.map_map]
      show (List.range ((pl : Int) - 0).toNat).map (fun i => V.int (0 + (i : Nat))) = _
      rw [show ((pl : Int) - 0).toNat = pl by omega]
      exact List.map_congr_left fun i _ => by show V.int (0 + (i : Int)) = V.int (i : Int); rw [Int.zero_add]
    -- the full plan
    refine ⟨_, rfl, _, rfl, by omega, by omega, fun D nD => ?_⟩
    refine lc_range (lo := 0) (n := many) (fun j H' => ∃ ks, LL H' D ks ∧ Yf.New H D ks ∧ (∀ q ∈ ks, Pc pl q.2) ∧ ks.length = j ∧ Same H H') ⟨[], ⟨upd_same, fun q hq => nomatch hq⟩, New.nil, (fun q hq => nomatch hq), rfl, upd_same_as nD⟩ ?_ ?_
    · rintro j H' hj ⟨ks, L2, N2, pc2, l2, sm⟩
      refine ⟨rfl, lc_yes2 ⟨_, rfl, tp, _, 0, .int pl, rfl, rfl, SqT.of (sm _ _ PQ.tp), at0 _ _, pl, rfl, RgOk.of_le (by omega) (by omega) (by omega) (by omega), fun e ne => ?_⟩⟩
      rw [rgE]
      obtain ⟨k1, k2, k3⟩ := ll_more (H3 := upd H' e (.lst ((rangeI pl).map V.int))) L2 N2 (fun c o e _ => sm c o e) (upd_same_as ne) ne upd_same
      refine ⟨_, k1, by rw [List.length_map]; exact small_ (by omega), ks ++ [(e, rangeI pl)], k2, k3, fun q hq => ?_, by rw [List.length_append, l2]; rfl, fun c o ec => ?_⟩
      · rcases List.mem_append.mp hq with hq | hq
        · exact pc2 q hq
        · rw [List.mem_singleton.mp hq]
          exact rpc
      · rw [upd_ne (ne_of_none ec nD)]
        exact upd_same_as ne _ _ (sm _ _ ec)
    rintro H1 ⟨ks, L1, N1, pc1, l1, s1⟩
    have b1 : ButG g H H1 := ButG.of s1
    have G1 := G.to (s1 g)
    obtain ⟨PQ1, nd1⟩ := pq b1
    refine ⟨_, rfl, _, rfl, _, rfl, _, rfl, tp, la, D, nd, pl, a, b, qs, ks, rg, rfl, PQ1, L1, by omega, by omega, pc1, nd1, fun _ H2 s2 => ?_, fun t xs H2 s2 nt ht => ?_⟩
    case refine_2 =>
      exact ⟨.inr ⟨t, rfl⟩, rfl, _, rfl, iteT ⟨_, rfl, q D ks H2 (ButG.of (s1.trans s2)) ((G1.to (s2 g)).up (by omega)) nD (LL.same s2 L1) (fun q hq => (N1.1 q hq).1) pc1 l1⟩⟩
    refine ⟨.inl rfl, rfl, _, rfl, iteF ?_⟩
    have G2 := G1.to (s2 g)
    refine ⟨_, rfl, _, rfl, _, _, rfl, rfl, .inl ⟨by decide, by decide⟩, g, 2 * (many : Int), n, rfl, by omega, by omega, G2, by omega, fun r H3 r0 r1 G3 k3 => ?_⟩
    have b3 : ButG g H H3 := (ButG.of (s1.trans s2)).trans (ButG.eq k3)
    have Dg := G.ne nD
    have kg : ∀ q ∈ ks, q.1 ≠ g := fun q hq => G.ne (N1.1 q hq).1
    refine ⟨_, rfl, by omega, by omega, for_range (lo := 0) (n := r.toNat) (fun i σ H' => ∃ (v5 v7 v8 : Option V) (A : Addr) (kp : List (Addr × List Int)), σ = [some (.ref g), some (.ref tp), some (.int many), some (.ref nd), some (.bl rg), v5, some (.ref A), v7, v8, none] ∧ ButG g H H' ∧ Gen H' g (n + 4 + 8 * i) ∧ H A = none ∧ LL H' A kp ∧ (∀ q ∈ kp, H q.1 = none) ∧ (∀ q ∈ kp, Pc pl q.2) ∧ kp.length = many)
      ⟨_, _, _, D, ks, rfl, b3, G3, nD, LL.butg (LL.same s2 L1) Dg kg (ButG.eq k3), fun q hq => (N1.1 q hq).1, pc1, l1⟩ ?_ ?_⟩
    · rintro i σ H4 hi ⟨v5, v7, v8, A, kp, rfl, b4, G4, nA, LA, nkp, pcA, lA⟩
      have hi : i < r.toNat := hi
      have Ag := G.ne nA
      have kpg : ∀ q ∈ kp, q.1 ≠ g := fun q hq => G.ne (nkp q hq)
      refine ⟨_, rfl, _, rfl, g, many, _, rfl, by omega, by omega, G4, by omega, fun r5 H5 r50 r51 G5 k5 => ?_⟩
      have b5 := b4.trans (ButG.eq k5)
      have L5 := LL.butg LA Ag kpg (ButG.eq k5)
      refine ⟨_, rfl, A, rfl, ⟨_, SqL.of L5.1⟩, fun D2 nD2 => ?_⟩
      have D2g := G5.ne nD2
      refine lc_list (K := K) (a := A) (xs := kp.map fun q => V.ref q.1) (fun k H' => ∃ kg, LL H' D2 kg ∧ Yf.New H5 D2 kg ∧ kg.map (·.2) = (kp.take k).map (·.2) ∧ Same H5 H') ⟨[], ⟨upd_same, fun q hq => nomatch hq⟩, New.nil, rfl, upd_same_as nD2⟩ (fun k H' _ ⟨_, _, _, _, s⟩ => SqL.of (s _ _ L5.1)) ?_ ?_
      · rintro k y H' hy ⟨kg, L6, N6, e6, sm6⟩
        obtain ⟨q0, hq0, rfl⟩ := ref_get hy
        have kl := (List.getElem?_eq_some_iff.mp hq0).1
        have hrr := sm6 _ _ (L5.2 q0 (List.mem_of_getElem? hq0))
        have ln : kg.length = k := by
          have := congrArg List.length e6
          rw [List.length_map, List.length_map, List.length_take] at this
          omega
        refine ⟨rfl, lc_yes2 ⟨_, rfl, q0.1, _, rfl, .inl (SqL.of hrr), fun e ne => ?_⟩⟩
        obtain ⟨m1, m2, m3⟩ := ll_more (H3 := upd H' e (.lst (q0.2.map V.int))) L6 N6 (fun c o e _ => sm6 c o e) (upd_same_as ne) ne upd_same
        refine ⟨_, m1, by rw [List.length_map]; exact small_ (by omega), kg ++ [(e, q0.2)], m2, m3, by rw [List.map_append, e6, List.take_add_one, hq0, List.map_append] <;> rfl, fun c o ec => ?_⟩
        rw [upd_ne (ne_of_none ec nD2)]
        exact upd_same_as ne _ _ (sm6 _ _ ec)
      rintro H6 ⟨kg, L6, N6, e6, s6⟩
      rw [List.length_map, List.take_length] at e6
      have gl : kg.length = many := by
        have := congrArg List.length e6
        rw [List.length_map, List.length_map] at this
        omega
      have pcg : ∀ q ∈ kg, Pc pl q.2 := fun q hq => by
        have h : q.2 ∈ kp.map (·.2) := by rw [← e6]; exact List.mem_map.mpr ⟨q, hq, rfl⟩
        obtain ⟨y, hy, e⟩ := List.mem_map.mp h
        rw [← e]
        exact pcA y hy
      have b6 := b5.trans (ButG.of s6)
      have G6 := G5.to (s6 g)
      have kgg : ∀ q ∈ kg, q.1 ≠ g := fun q hq => G5.ne (N6.1 q hq).1
      have old : ∀ {c : Addr} {X : Hp}, ButG g H X → c ≠ g → X c = none → H c = none := fun {c X} bb cg e => by
        cases z : H c with
        | none => rfl
        | some o =>
          rw [bb _ _ z cg] at e
          cases e
      obtain ⟨m, rfl⟩ : ∃ m : Nat, r5 = m := ⟨r5.toNat, by omega⟩
      have ml : m < kg.length := by omega
      obtain ⟨km, hkm⟩ : ∃ km, kg[m]? = some km := ⟨_, List.getElem?_eq_getElem ml⟩
      have kmin := List.mem_of_getElem? hkm
      have atm : atI (kg.map fun q => V.ref q.1) (m : Int) = some (.ref km.1) := atI_nat (by rw [List.getElem?_map, hkm] <;> rfl)
      refine ⟨_, rfl, g, 2, _, rfl, by decide, by decide, G6, by omega, fun r7 H7 r70 r71 G7 k7 => ⟨rfl, _, rfl, ?_⟩⟩
      have L7 := LL.butg L6 D2g kgg (ButG.eq k7)
      have b7 := b6.trans (ButG.eq k7)
      have hm7 := L7.2 km kmin
      apply fork2 (fun x H8 => ∃ l : List Int, H8 x = some (.lst (l.map V.int)) ∧ Pc pl l ∧ H7 x = none ∧ Same H7 H8)
      · intro rest
        show if decide (V.int r7 = V.int 0) = true then _ else _
        refine lc_if (fun c => ?_) fun c => ?_
        · refine ⟨_, rfl, _, rfl, D2, _, _, _, rfl, rfl, SqL.of L7.1, atm, _, rfl, km.1, _, rfl, SqL.of hm7, fun x nx => ?_⟩
          rw [cut1, ← List.map_drop]
          have hx := upd_same (H := H7) (a := x) (o := .lst ((km.2.drop 1).map V.int))
          have ux := upd_same_as (o := .lst ((km.2.drop 1).map V.int)) nx
          generalize upd H7 x (.lst ((km.2.drop 1).map V.int)) = H8 at hx ux ⊢
          exact rest x H8 ⟨km.2.drop 1, hx, ⟨(pcg km kmin).1.sublist (List.drop_sublist _ _), fun z hz => (pcg km kmin).2 z (List.mem_of_mem_drop hz)⟩, nx, ux⟩
        · refine ⟨_, rfl, _, rfl, D2, _, _, _, rfl, rfl, SqL.of L7.1, atm, _, rfl, _, rfl, km.1, _, rfl, SqL.of hm7, fun x nx => ?_⟩
          obtain ⟨l', hl', sub⟩ : ∃ l' : List Int, cutV (km.2.map V.int) none (some (-1)) = l'.map V.int ∧ l'.Sublist km.2 := by
            unfold cutV
            rw [← List.map_drop, ← List.map_take]
            exact ⟨_, rfl, (List.take_sublist _ _).trans (List.drop_sublist _ _)⟩
          rw [hl']
          have hx := upd_same (H := H7) (a := x) (o := .lst (l'.map V.int))
          have ux := upd_same_as (o := .lst (l'.map V.int)) nx
          generalize upd H7 x (.lst (l'.map V.int)) = H8 at hx ux ⊢
          exact rest x H8 ⟨l', hx, ⟨(pcg km kmin).1.sublist sub, fun z hz => (pcg km kmin).2 z (sub.subset hz)⟩, nx, ux⟩
      rintro x H8 ⟨l', hx, pcx, nx, s8⟩
      have L8 := LL.same s8 L7
      have xg := G7.ne nx
      have xD : x ≠ D2 := fun e => by
        rw [e, L7.1] at nx
        cases nx
      refine ⟨_, rfl, _, rfl, D2, _, m, m, rfl, rfl, L8.1, (by rw [List.length_map]; unfold ixN; simp [ml]), ?_⟩
      have L9 : LL (upd H8 D2 (.lst ((kg.map fun q => V.ref q.1).set m (.ref x)))) D2 (kg.set m (x, l')) := by
        refine ⟨by rw [upd_same, List.map_set], fun q hq => ?_⟩
        rcases List.mem_or_eq_of_mem_set hq with hq | rfl
        · rw [upd_ne (N6.1 q hq).2]
          exact L8.2 q hq
        · rw [upd_ne xD]
          exact hx
      have nD2H : H D2 = none := old b5 D2g nD2
      have L8A := LL.same s8 (LL.butg (LL.same s6 L5) Ag kpg (ButG.eq k7))
      have L9A : LL (upd H8 D2 (.lst ((kg.map fun q => V.ref q.1).set m (.ref x)))) A kp := ⟨by rw [upd_ne (ne_of_none L5.1 nD2)]; exact L8A.1, fun q hq => by rw [upd_ne (ne_of_none (L5.2 q hq) nD2)]; exact L8A.2 q hq⟩
      have b9 : ButG g H (upd H8 D2 (.lst ((kg.map fun q => V.ref q.1).set m (.ref x)))) := fun c o e ne => by
        rw [upd_ne (ne_of_none e nD2H)]
        exact s8 _ _ (b7 _ _ e ne)
      have G9 := ((G7.to (s8 g)).to (H' := upd H8 D2 (.lst ((kg.map fun q => V.ref q.1).set m (.ref x)))) fun o e => by rw [upd_ne (Ne.symm D2g)]; exact e)
      generalize upd H8 D2 (.lst ((kg.map fun q => V.ref q.1).set m (.ref x))) = H9 at L9 b9 G9 L9A ⊢
      have pc9 : ∀ q ∈ kg.set m (x, l'), Pc pl q.2 := fun q hq => by
        rcases List.mem_or_eq_of_mem_set hq with hq | rfl
        · exact pcg q hq
        · exact pcx
      have n9 : ∀ q ∈ kg.set m (x, l'), H q.1 = none := fun q hq => by
        rcases List.mem_or_eq_of_mem_set hq with hq | rfl
        · exact old b5 (kgg q hq) (N6.1 q hq).1
        · exact old b7 xg nx
      have l9 : (kg.set m (x, l')).length = many := by rw [List.length_set]; exact gl
      obtain ⟨PQ9, nd9⟩ := pq b9
      refine ⟨_, rfl, _, rfl, _, rfl, _, rfl, tp, la, D2, nd, pl, a, b, qs, kg.set m (x, l'), rg, rfl, PQ9, L9, by omega, by omega, pc9, nd9, fun _ H10 s10 => ?_, fun t xs H10 s10 nt ht => ?_⟩
      · exact ⟨rfl, _, rfl, iteT ⟨_, rfl, _, _, _, D2, _, rfl, b9.trans (ButG.of s10), (G9.to (s10 g)).up (by omega), nD2H, LL.same s10 L9, n9, pc9, l9⟩⟩
      · have G10 := (G9.to (s10 g)).up (show n + 4 + 8 * i + 4 + 4 ≤ n + 4 + 8 * (i + 1) by omega)
        refine ⟨rfl, _, rfl, iteF ⟨_, _, _, A, kp, rfl, b9.trans (ButG.of s10), G10, nA, ?_, nkp, pcA, lA⟩⟩
        exact LL.same s10 L9A
    · rintro σ H4 ⟨v5, v7, v8, A, kp, rfl, b4, G4, nA, LA, nkp, pcA, lA⟩
      exact ⟨_, rfl, q A kp H4 b4 (G4.up (by omega)) nA LA nkp pcA lA⟩
end
end Kx
/-! Faults that straddle. -/
namespace Kx
open PySem PySem.Spec PyProof.Rows L2 Xa Xb Xc Xd Xs Xp Xm Xr Xl Xq Ya Yb Yc Yd Ye Yf Yr Zb Zi Zl Zn
abbrev sStrad : Stmt := top 59
section
variable {P : Program} {w : World} {K : PySem.W.Frag} {mg : Str → Option Value} {base : Heap} {f C : Addr} {fd : FuncData}
def spStrad : Sp := fun xs H Q _ => ∃ (t q r : Addr) (many rc x i y j : Int), xs = [.ref t, .int many, .int rc] ∧ H t = some (.tup [.str "alike", .ref q, .ref r]) ∧ H q = some (.tup [.int x, .int i]) ∧ H r = some (.tup [.int y, .int j]) ∧ x < many ∧ many ≤ y ∧ y - x ≤ 2 * rc ∧ rc ≤ 2 ∧ 1 ≤ rc ∧ Q (.bl true) H
theorem scStrad : FnScope ["told", "many", "reach"] ["told", "many", "reach"] (defScope sStrad) := ⟨rfl, rfl, rfl, by decide +kernel, rfl, by decide +kernel, by decide +kernel⟩
theorem can_strad (D : Dfn K mg "_law_straddles" sStrad) (B : Bi3 mg) : CanG P w K mg base 1 "_law_straddles" ["told", "many", "reach"] spStrad := by
  obtain ⟨f, fd, F, g1⟩ := D.at_
  refine FnG.can (okG F scStrad (fun xs H Q E h => ?_) (fun cdv A outer s H vs Q E hr hn h => ?_)) F g1 fun _ _ _ _ _ _ us hl => match us, hl with | [_, _, _], _ => rfl
  · obtain ⟨t, q, r, many, rc, x, i, y, j, rfl, _⟩ := h
    rfl
  · obtain ⟨t, q, r, many, rc, x, i, y, j, rfl, ht, hq, hr2, h1, h2, h3, h4, h5, done⟩ := h
    refine ⟨_, PSs.nox <| pss_one <| ps_ret <| pe_and (pe_cmpR op_eq (pe_ix ix_tup (pv 0) pe_int (fun _ _ => rfl)) pe_str (nomark _)) <|
      pe_and (pe_chain op_lt op_le (pe_ix ix_tup (pe_ix ix_tup (pv 0) pe_int (fun _ _ => rfl)) pe_int (fun _ _ => rfl)) (pv 1) (pe_ix ix_tup (pe_ix ix_tup (pv 0) pe_int (fun _ _ => rfl)) pe_int (fun _ _ => rfl))) <|
      pe_one <| pe_cmpR op_le (pe_op op_sub (pe_ix ix_tup (pe_ix ix_tup (pv 0) pe_int (fun _ _ => rfl)) pe_int (fun _ _ => rfl)) (pe_ix ix_tup (pe_ix ix_tup (pv 0) pe_int (fun _ _ => rfl)) pe_int (fun _ _ => rfl))) (pe_op op_mul pe_int (pv 2)) (nomark _), ?_⟩
    have a0 : atI [V.str "alike", .ref q, .ref r] 0 = some (.str "alike") := atI_nat (j := 0) rfl
    have a1 : atI [V.str "alike", .ref q, .ref r] 1 = some (.ref q) := atI_nat (j := 1) rfl
    have a2 : atI [V.str "alike", .ref q, .ref r] 2 = some (.ref r) := atI_nat (j := 2) rfl
    have b0 : ∀ u v : V, atI [u, v] 0 = some u := fun u v => atI_nat (j := 0) rfl
    refine ⟨_, rfl, t, _, 0, .str "alike", rfl, rfl, SqT.of ht, a0, rfl, _, rfl, ?_⟩
    show if decide (V.str "alike" = V.str "alike") = true then _ else _
    rw [decide_eq_true rfl]
    refine iteT ?_
    refine ⟨_, rfl, t, _, 1, .ref q, rfl, rfl, SqT.of ht, a1, q, _, 0, .int x, rfl, rfl, SqT.of hq, b0 _ _, _, rfl, _, _, rfl, rfl, _, rfl, ?_⟩
    rw [decide_eq_true h1]
    refine iteT ?_
    refine ⟨_, rfl, t, _, 2, .ref r, rfl, rfl, SqT.of ht, a2, r, _, 0, .int y, rfl, rfl, SqT.of hr2, b0 _ _, _, _, rfl, rfl, _, rfl, ?_⟩
    rw [decide_eq_true h2]
    refine iteT ?_
    refine ⟨_, rfl, t, _, 2, .ref r, rfl, rfl, SqT.of ht, a2, r, _, 0, .int y, rfl, rfl, SqT.of hr2, b0 _ _, _, rfl, t, _, 1, .ref q, rfl, rfl, SqT.of ht, a1, q, _, 0, .int x, rfl, rfl, SqT.of hq, b0 _ _, _, _, rfl, rfl, _, rfl, _, _, rfl, rfl, .inl ⟨by decide, by decide⟩, _, _, rfl, rfl, ?_⟩
    show Q (.bl (decide (y - x ≤ 2 * rc))) H
    rw [decide_eq_true h3]
    exact done
end
end Kx
/-! Two rows behind one another: who hears what. -/
namespace Kx
open PySem PySem.Spec PyProof.Rows L2 Xa Xb Xc Xd Xs Xp Xm Xr Xl Xq Ya Yb Yc Yd Ye Yf Yr Zb Zi Zl Zn
theorem symN_app {A B C D : List (List Int)} (hA : ∀ k ∈ A, k ∉ D) (hB : ∀ k ∈ B, k ∉ C) : symN A B ≤ symN (A ++ C) (B ++ D) := by
  have e1 : A.filter (fun k => !decide (k ∈ B ++ D)) = A.filter fun k => !decide (k ∈ B) := List.filter_congr fun k hk => by
    have := hA k hk
    simp [List.mem_append, this]
  have e2 : B.filter (fun k => !decide (k ∈ A ++ C)) = B.filter fun k => !decide (k ∈ A) := List.filter_congr fun k hk => by
    have := hB k hk
    simp [List.mem_append, this]
  unfold symN
  rw [List.filter_append, List.filter_append, List.length_append, List.length_append, e1, e2]
  omega
theorem symN_app2 {A B C D : List (List Int)} (hC : ∀ k ∈ C, k ∉ B) (hD : ∀ k ∈ D, k ∉ A) : symN C D ≤ symN (A ++ C) (B ++ D) := by
  have e1 : C.filter (fun k => !decide (k ∈ B ++ D)) = C.filter fun k => !decide (k ∈ D) := List.filter_congr fun k hk => by
    have := hC k hk
    simp [List.mem_append, this]
  have e2 : D.filter (fun k => !decide (k ∈ A ++ C)) = D.filter fun k => !decide (k ∈ C) := List.filter_congr fun k hk => by
    have := hD k hk
    simp [List.mem_append, this]
  unfold symN
  rw [List.filter_append, List.filter_append, List.length_append, List.length_append, e1, e2]
  omega
theorem hr_row {ls : List (List Int)} {N M a b x y : Int} (x0 : 0 ≤ x) (xN : x < N) (xM : x < M) : hrB ls false N [a, b] [x, y] = hrB ls false M [a, b] [x, y] := by
  rw [Bool.eq_iff_iff, hrB_iff, hrB_iff]
  unfold Hear further
  simp only [Bool.false_eq_true, if_false]
  constructor
  · rintro ⟨j, d, h, _, _, e⟩
    injection e with e1 e2
    exact ⟨j, d, h, by omega, by omega, by rw [← e1]; injection e2 with e2 _; rw [e2]⟩
  · rintro ⟨j, d, h, _, _, e⟩
    injection e with e1 e2
    exact ⟨j, d, h, by omega, by omega, by rw [← e1]; injection e2 with e2 _; rw [e2]⟩
theorem hr_shift {ls : List (List Int)} {N M a b x y s : Int} (x0 : 0 ≤ x) (xM : x < M) (s0 : 0 ≤ x + s) (sN : x + s < N) : hrB ls false N [a + s, b] [x + s, y] = hrB ls false M [a, b] [x, y] := by
  rw [Bool.eq_iff_iff, hrB_iff, hrB_iff]
  unfold Hear further
  simp only [Bool.false_eq_true, if_false]
  constructor
  · rintro ⟨j, d, h, _, _, e⟩
    injection e with e1 e2
    injection e2 with e2 _
    have e3 : x = a + d := by omega
    exact ⟨j, d, h, by omega, by omega, by rw [e3, e2]⟩
  · rintro ⟨j, d, h, _, _, e⟩
    injection e with e1 e2
    injection e2 with e2 _
    have e3 : x + s = a + s + d := by omega
    exact ⟨j, d, h, by omega, by omega, by rw [e3, e2]⟩
theorem hearL_app (ls : List (List Int)) (rg : Bool) (n : Int) (W W' : List (List Int)) (k : List Int) : hearL ls rg n (W ++ W') k = hearL ls rg n W k ++ hearL ls rg n W' k := List.filter_append W W'
/-- the watchers of a later part -/
def shW (s : Int) : List Int → List Int
  | [a, b] => [a + s, b]
  | k => k
theorem wts_app (p q : List (List Int)) : wts (p ++ q) = wts p ++ (wts q).map (shW p.length) := by
  unfold wts
  rw [wtsN_app, wtsN_sh p.length 0 q]
  congr 1
/-- in a spot of the first part: its own hearers, then those of the later part -/
theorem hear_one {ls : List (List Int)} {p q : List (List Int)} {x y : Int} (x0 : 0 ≤ x) (xp : x < p.length) : hearL ls false ((p ++ q).length : Nat) (wts (p ++ q)) [x, y] = hearL ls false p.length (wts p) [x, y] ++ hearL ls false ((p ++ q).length : Nat) ((wts q).map (shW p.length)) [x, y] := by
  rw [wts_app, hearL_app]
  congr 1
  refine List.filter_congr fun w hw => ?_
  obtain ⟨i, z, r, rfl, _⟩ := wts_is hw
  exact hr_row x0 (by rw [List.length_append]; omega) xp
/-- in a spot of the later part -/
theorem hear_two {ls : List (List Int)} {p q : List (List Int)} {x y : Int} (x0 : 0 ≤ x) (xq : x < q.length) : hearL ls false ((p ++ q).length : Nat) (wts (p ++ q)) [x + p.length, y] = hearL ls false ((p ++ q).length : Nat) (wts p) [x + p.length, y] ++ (hearL ls false q.length (wts q) [x, y]).map (shW p.length) := by
  rw [wts_app, hearL_app]
  congr 1
  unfold hearL
  rw [List.filter_map]
  congr 1
  refine List.filter_congr fun w hw => ?_
  obtain ⟨i, z, r, rfl, _⟩ := wts_is hw
  exact hr_shift (s := p.length) x0 xq (by omega) (by rw [List.length_append]; omega)
/-- no watcher is in both parts -/
theorem parts_apart {p q : List (List Int)} {k : List Int} (h1 : k ∈ wts p) (h2 : k ∈ (wts q).map (shW p.length)) : False := by
  obtain ⟨i, z, r, rfl, il, _⟩ := wts_is h1
  obtain ⟨k2, hk2, e⟩ := List.mem_map.mp h2
  obtain ⟨i2, z2, r2, rfl, _⟩ := wts_is hk2
  have e : ([(i2 : Int) + p.length, z2] : List Int) = [(i : Int), z] := e
  injection e with e1 _
  omega
end Kx
/-! Two rows behind one another: no fewer hear, and no fewer differ. -/
namespace Kx
open PySem PySem.Spec PyProof.Rows L2 Xa Xb Xc Xd Xs Xp Xm Xr Xl Xq Ya Yb Yc Yd Ye Yf Yr Zb Zi Zl Zn
theorem shW_inj {s : Int} {k k' : List Int} (h : ∃ a b, k = [a, b]) (h' : ∃ a b, k' = [a, b]) (e : shW s k = shW s k') : k = k' := by
  obtain ⟨a, b, rfl⟩ := h
  obtain ⟨c, d, rfl⟩ := h'
  have e : ([a + s, b] : List Int) = [c + s, d] := e
  injection e with e1 e2
  injection e2 with e2 _
  have : a = c := by omega
  rw [this, e2]
theorem symN_map {s : Int} {A B : List (List Int)} (hA : ∀ k ∈ A, ∃ a b, k = [a, b]) (hB : ∀ k ∈ B, ∃ a b, k = [a, b]) : symN (A.map (shW s)) (B.map (shW s)) = symN A B := by
  have key : ∀ {X Y : List (List Int)}, (∀ k ∈ X, ∃ a b, k = [a, b]) → (∀ k ∈ Y, ∃ a b, k = [a, b]) → ((X.map (shW s)).filter fun k => !decide (k ∈ Y.map (shW s))).length = (X.filter fun k => !decide (k ∈ Y)).length := fun {X Y} hX hY => by
    rw [List.filter_map, List.length_map]
    congr 1
    refine List.filter_congr fun k hk => ?_
    show (!decide (shW s k ∈ Y.map (shW s))) = !decide (k ∈ Y)
    congr 1
    refine decide_eq_decide.mpr ⟨fun h => ?_, fun h => List.mem_map.mpr ⟨k, h, rfl⟩⟩
    obtain ⟨k', h', e⟩ := List.mem_map.mp h
    rw [← shW_inj (hY k' h') (hX k hk) e]
    exact h'
  unfold symN
  rw [key hA hB, key hB hA]
theorem hear_two_of {ls : List (List Int)} {rg : Bool} {n : Int} {p : List (List Int)} {k : List Int} : ∀ w ∈ hearL ls rg n (wts p) k, ∃ a b, w = [a, b] := fun w hw => by
  obtain ⟨i, z, r, rfl, _⟩ := wts_is (List.mem_filter.mp hw).1
  exact ⟨_, _, rfl⟩
section
variable {ls : List (List Int)} {p q : List (List Int)} {pl : Nat}
theorem sym_one {k1 k2 : List Int} (h1 : k1 ∈ grid p.length pl) (h2 : k2 ∈ grid p.length pl) : symN (hearL ls false p.length (wts p) k1) (hearL ls false p.length (wts p) k2) ≤ symN (hearL ls false ((p ++ q).length : Nat) (wts (p ++ q)) k1) (hearL ls false ((p ++ q).length : Nat) (wts (p ++ q)) k2) := by
  obtain ⟨x, y, rfl, x0, x1, _⟩ := mem_grid h1
  obtain ⟨u, v, rfl, u0, u1, _⟩ := mem_grid h2
  rw [hear_one x0 x1, hear_one u0 u1]
  exact symN_app (fun k a b => parts_apart (List.mem_filter.mp a).1 (List.mem_filter.mp b).1) fun k a b => parts_apart (List.mem_filter.mp a).1 (List.mem_filter.mp b).1
theorem len_one {k : List Int} (h : k ∈ grid p.length pl) : (hearL ls false p.length (wts p) k).length ≤ (hearL ls false ((p ++ q).length : Nat) (wts (p ++ q)) k).length := by
  obtain ⟨x, y, rfl, x0, x1, _⟩ := mem_grid h
  rw [hear_one x0 x1, List.length_append]
  omega
theorem sym_two {x y u v : Int} (h1 : [x, y] ∈ grid q.length pl) (h2 : [u, v] ∈ grid q.length pl) : symN (hearL ls false q.length (wts q) [x, y]) (hearL ls false q.length (wts q) [u, v]) ≤ symN (hearL ls false ((p ++ q).length : Nat) (wts (p ++ q)) [x + p.length, y]) (hearL ls false ((p ++ q).length : Nat) (wts (p ++ q)) [u + p.length, v]) := by
  obtain ⟨x', y', e, x0, x1, _⟩ := mem_grid h1
  obtain ⟨u', v', e', u0, u1, _⟩ := mem_grid h2
  injection e with e _
  injection e' with e' _
  subst e e'
  rw [hear_two x0 x1, hear_two u0 u1, ← symN_map (s := (p.length : Nat)) hear_two_of hear_two_of]
  have mem : ∀ {z w : Int} {k : List Int}, k ∈ (hearL ls false q.length (wts q) [z, w]).map (shW p.length) → k ∈ (wts q).map (shW p.length) := fun h => by
    obtain ⟨k2, h2, e⟩ := List.mem_map.mp h
    exact List.mem_map.mpr ⟨k2, (List.mem_filter.mp h2).1, e⟩
  exact symN_app2 (fun k a b => parts_apart (List.mem_filter.mp b).1 (mem a)) fun k a b => parts_apart (List.mem_filter.mp b).1 (mem a)
theorem len_two {x y : Int} (h : [x, y] ∈ grid q.length pl) : (hearL ls false q.length (wts q) [x, y]).length ≤ (hearL ls false ((p ++ q).length : Nat) (wts (p ++ q)) [x + p.length, y]).length := by
  obtain ⟨x', y', e, x0, x1, _⟩ := mem_grid h
  injection e with e _
  subst e
  rw [hear_two x0 x1, List.length_append, List.length_map]
  omega
/-- a spot of the whole is one of the first part or one of the later part -/
theorem grid_parts {k : List Int} (h : k ∈ grid (p ++ q).length pl) : k ∈ grid p.length pl ∨ ∃ x y : Int, k = [x + p.length, y] ∧ [x, y] ∈ grid q.length pl := by
  obtain ⟨x, y, rfl, x0, x1, y0, y1⟩ := mem_grid h
  rw [List.length_append] at x1
  by_cases c : x < p.length
  · exact .inl (grid_mem x0 c y0 y1)
  · exact .inr ⟨x - p.length, y, by rw [Int.sub_add_cancel], grid_mem (by omega) (by omega) y0 y1⟩
/-- the fault of a whole that is made of two good ones -/
theorem whole_few {a b : Int} (G1 : GoodB (grid p.length pl) (hearL ls false p.length (wts p)) a b) (G2 : GoodB (grid q.length pl) (hearL ls false q.length (wts q)) a b) : ∀ k ∈ grid (p ++ q).length pl, a ≤ ((hearL ls false ((p ++ q).length : Nat) (wts (p ++ q)) k).length : Int) := fun k hk => by
  rcases grid_parts hk with h | ⟨x, y, rfl, h⟩
  · have := G1.1 k h
    have := len_one (ls := ls) (q := q) h
    omega
  · have := G2.1 _ h
    have := len_two (ls := ls) (p := p) h
    omega
theorem whole_alike {a b : Int} (G1 : GoodB (grid p.length pl) (hearL ls false p.length (wts p)) a b) (G2 : GoodB (grid q.length pl) (hearL ls false q.length (wts q)) a b) {x i y j : Int} (h1 : [x, i] ∈ grid (p ++ q).length pl) (h2 : [y, j] ∈ grid (p ++ q).length pl) (lt : HT.lexLt [x, i] [y, j] = true)
    (few : (symN (hearL ls false ((p ++ q).length : Nat) (wts (p ++ q)) [x, i]) (hearL ls false ((p ++ q).length : Nat) (wts (p ++ q)) [y, j]) : Int) < b) : x < p.length ∧ (p.length : Int) ≤ y := by
  have ord := lt
  rw [lex2, decide_eq_true_eq] at ord
  rcases grid_parts h1 with a1 | ⟨x1, i1, e1, a1⟩
  · rcases grid_parts h2 with a2 | ⟨x2, i2, e2, a2⟩
    · have := G1.2 _ a1 _ a2 lt
      have := sym_one (ls := ls) (q := q) a1 a2
      omega
    · obtain ⟨x', i', e, x0, x1, _⟩ := mem_grid a1
      obtain ⟨y', j', e', y0, y1, _⟩ := mem_grid a2
      injection e with e _
      injection e' with e' _
      injection e2 with e2 _
      omega
  · obtain ⟨x', i', e, x0, x1', _⟩ := mem_grid a1
    injection e with e _
    injection e1 with e1 e1'
    injection e1' with e1' _
    rcases grid_parts h2 with a2 | ⟨x2, i2, e2, a2⟩
    · obtain ⟨y', j', e', y0, y1, _⟩ := mem_grid a2
      injection e' with e' _
      omega
    · injection e2 with e2 e2'
      injection e2' with e2' _
      subst e1 e1' e2 e2'
      have lt2 : HT.lexLt [x1, i] [x2, j] = true := by
        rw [lex2, decide_eq_true_eq]
        omega
      have := G2.2 _ a1 _ a2 lt2
      have := sym_two (ls := ls) (p := p) a1 a2
      omega
end
end Kx
/-! A row closed to a ring. -/
namespace Kx
open PySem PySem.Spec PyProof.Rows L2 Xa Xb Xc Xd Xs Xp Xm Xr Xl Xq Ya Yb Yc Yd Ye Yf Yr Zb Zi Zl Zn
theorem mod_cases {z y n : Int} (h : z.fmod n = y) (n0 : 0 < n) (lo : -n ≤ z) (hi : z < 2 * n) : z = y ∨ z = y + n ∨ z = y - n := by
  rw [Int.fmod_eq_emod_of_nonneg _ (by omega)] at h
  by_cases c1 : z < 0
  · have e : (z + n) % n = z % n := by simp
    rw [Int.emod_eq_of_lt (by omega) (by omega)] at e
    omega
  · by_cases c2 : z < n
    · rw [Int.emod_eq_of_lt (by omega) c2] at h
      omega
    · have e : (z - n) % n = z % n := by simp
      rw [Int.emod_eq_of_lt (by omega) (by omega)] at e
      omega
theorem symN_filter {W : List (List Int)} (nd : W.Nodup) (f g : List Int → Bool) : symN (W.filter f) (W.filter g) = W.countP fun k => f k != g k := by
  rw [List.countP_eq_length_filter]
  refine (cnt_xor (nd.sublist List.filter_sublist) (nd.sublist List.filter_sublist) (nd.sublist List.filter_sublist) fun k => ?_).symm
  rw [List.mem_filter]
  by_cases c : k ∈ W
  · simp [List.mem_filter, c]
  · simp [List.mem_filter, c]
section
variable {ls : List (List Int)} {p : List (List Int)} {rc : Int}
/-- row and ring: what is heard in the row is heard in the ring -/
theorem row_ring {a b x y n : Int} (x0 : 0 ≤ x) (xn : x < n) (h : hrB ls false n [a, b] [x, y] = true) : hrB ls true n [a, b] [x, y] = true := by
  obtain ⟨j, d, hl, f0, f1, e⟩ := hrB_iff.mp h
  unfold further at f0 f1 e
  simp only [Bool.false_eq_true, if_false] at f0 f1 e
  injection e with e1 e2
  have m : (a + d).fmod n = x := by
    rw [Int.fmod_eq_emod_of_nonneg _ (by omega), Int.emod_eq_of_lt (by omega) (by omega)]
    exact e1.symm
  refine hrB_iff.mpr ⟨j, d, hl, ?_, ?_, ?_⟩
  · show 0 ≤ (if true = true then (a + d).fmod n else a + d)
    rw [if_pos rfl, m]
    exact x0
  · show (if true = true then (a + d).fmod n else a + d) < n
    rw [if_pos rfl, m]
    exact xn
  · show [x, y] = [(if true = true then (a + d).fmod n else a + d), j]
    rw [if_pos rfl, m]
    injection e2 with e2 _
    rw [e2]
theorem ring_one {a b x i y j n : Int} (far : ∀ l ∈ ls, ∀ u v d, l = [u, v, d] → d ≤ rc ∧ -d ≤ rc) (a0 : 0 ≤ a) (an : a < n) (rc0 : 1 ≤ rc) (big : 2 * rc < n) (y0 : 0 ≤ y) (yn : y < n) (apart : x - y < n - 2 * rc) (apart2 : y - x < n - 2 * rc) (h1 : hrB ls false n [a, b] [x, i] = true) (h2 : hrB ls false n [a, b] [y, j] = false) : hrB ls true n [a, b] [y, j] = false := by
  rw [← Bool.not_eq_true]
  intro hr
  obtain ⟨j1, d1, hl1, _, _, e1⟩ := hrB_iff.mp h1
  unfold further at e1
  simp only [Bool.false_eq_true, if_false] at e1
  injection e1 with e1 _
  obtain ⟨j2, d2, hl2, _, _, e2⟩ := hrB_iff.mp hr
  unfold further at e2
  simp only [if_true] at e2
  injection e2 with e2 e3
  injection e3 with e3 _
  have r1 := far _ hl1 _ _ _ rfl
  have r2 := far _ hl2 _ _ _ rfl
  rcases mod_cases e2.symm (by omega) (by omega) (by omega) with m | m | m
  · have : hrB ls false n [a, b] [y, j] = true := hrB_iff.mpr ⟨j2, d2, hl2, by
      show 0 ≤ a + d2
      omega, by
      show a + d2 < n
      omega, by
      show [y, j] = [a + d2, j2]
      rw [m, e3]⟩
    rw [h2] at this
    cases this
  · omega
  · omega
theorem ring_sym {x i y j : Int} (far : ∀ l ∈ ls, ∀ u v d, l = [u, v, d] → d ≤ rc ∧ -d ≤ rc) (nd : (wts p).Nodup) (rc0 : 1 ≤ rc) (big : 2 * rc < p.length) (x0 : 0 ≤ x) (xn : x < p.length) (y0 : 0 ≤ y) (yn : y < p.length) (xy : x ≤ y) (apart : y - x < p.length - 2 * rc) :
    symN (hearL ls false p.length (wts p) [x, i]) (hearL ls false p.length (wts p) [y, j]) ≤ symN (hearL ls true p.length (wts p) [x, i]) (hearL ls true p.length (wts p) [y, j]) := by
  unfold hearL
  rw [symN_filter nd, symN_filter nd]
  refine List.countP_mono_left fun w hw h => ?_
  obtain ⟨u, z, r, rfl, il, _⟩ := wts_is hw
  have a0 : (0 : Int) ≤ (u : Int) := by omega
  have an : (u : Int) < p.length := by omega
  cases c1 : hrB ls false p.length [(u : Int), z] [x, i] with
  | true =>
    cases c2 : hrB ls false p.length [(u : Int), z] [y, j] with
    | true =>
      rw [c1, c2] at h
      cases h
    | false =>
      rw [row_ring x0 xn c1, ring_one far a0 an rc0 big y0 yn (by omega) apart c1 c2]
      rfl
  | false =>
    cases c2 : hrB ls false p.length [(u : Int), z] [y, j] with
    | true =>
      rw [row_ring y0 yn c2, ring_one far a0 an rc0 big x0 xn apart (by omega) c2 c1]
      rfl
    | false =>
      rw [c1, c2] at h
      cases h
theorem ring_len {x i : Int} (x0 : 0 ≤ x) (xn : x < p.length) : (hearL ls false p.length (wts p) [x, i]).length ≤ (hearL ls true p.length (wts p) [x, i]).length := by
  unfold hearL
  rw [← List.countP_eq_length_filter, ← List.countP_eq_length_filter]
  refine List.countP_mono_left fun w hw h => ?_
  obtain ⟨u, z, r, rfl, il, _⟩ := wts_is hw
  exact row_ring x0 xn h
end
end Kx
/-! The law's rings. -/
namespace Kx
open PySem PySem.Spec PyProof.Rows L2 Xa Xb Xc Xd Xs Xp Xm Xr Xl Xq Ya Yb Yc Yd Ye Yf Yr Zb Zd Zi Zl Zn
abbrev sRingR : Stmt := top 61
section
variable {P : Program} {w : World} {K : PySem.W.Frag} {mg : Str → Option Value} {base : Heap} {f C : Addr} {fd : FuncData}
/-- fault as the law calls it -/
structure FaultK (P : Program) (w : World) (K : PySem.W.Frag) (mg : Str → Option Value) (base : Heap) (C : Addr) : Prop where
  at_ : ∃ (fF : Addr) (fdF : FuncData) (ds : List Value), FnOk P w K mg base (L2.CX P w) 7 fF fdF ["web", "plan", "needs", "ring"] (spFault C) ∧ mg "fault" = some (.ref fF) ∧ PySem.W.keepIn K (.ref fF) = true ∧ KBn K fdF ["web", "plan", "needs", "ring"] 3 ["ring"] (fun us ws => us ++ ws) (fun vs zs => vs ++ zs) ∧
    Binds K fdF ["web", "plan", "needs", "ring"] ds ∧ Vals [V.bl false] ds
/-- what the web's tuples reach -/
def Far (rc : Int) (ls : List (List Int)) : Prop := ∀ l ∈ ls, ∀ u v d, l = [u, v, d] → d ≤ rc ∧ -d ≤ rc
def spRingR (C : Addr) : Sp := fun xs H Q _ => ∃ (p l u nd : Addr) (pl : Nat) (rc a b : Int) (qs ks : List (Addr × List Int)), xs = [.ref p, .ref u, .ref nd] ∧ WebQ C H p l pl rc qs ∧ 1 ≤ rc ∧ rc ≤ 2 ∧ Far rc (qs.map (·.2)) ∧ LL H u ks ∧ 1 ≤ ks.length ∧ ks.length ≤ 9 ∧ (∀ q ∈ ks, Pc pl q.2) ∧ H nd = some (.tup [.int a, .int b]) ∧
  1 ≤ a ∧ a ≤ 3 ∧ 0 ≤ b ∧ b ≤ 2 * a ∧ GoodB (grid ks.length pl) (hearK qs ks false) a b ∧ ∀ H', Same H H' → Q (.bl true) H'
abbrev nRingR : List Str := ["web", "plan", "needs", "told", "far"]
theorem scRingR : FnScope nRingR ["web", "plan", "needs"] (defScope sRingR) := ⟨rfl, rfl, rfl, by decide +kernel, rfl, by decide +kernel, by decide +kernel⟩
theorem can_ringr (D : Dfn K mg "_law_ring_right" sRingR) (B : Bi3 mg) (T : WTxt K mg C) (HK : FaultK P w K mg base C) : CanG P w K mg base 8 "_law_ring_right" ["web", "plan", "needs"] (spRingR C) := by
  obtain ⟨f, fd, F, g1⟩ := D.at_
  obtain ⟨fF, fdF, ds, oF, gF, kF, bF, _, _⟩ := HK
  refine FnG.can (okG F scRingR (fun xs H Q E h => ?_) (fun cdv A outer s H vs Q E hr hn h => ?_)) F g1 fun _ _ _ _ _ _ us hl => match us, hl with | [_, _, _], _ => rfl
  · obtain ⟨p, l, u, nd, pl, rc, a, b, qs, ks, rfl, _⟩ := h
    rfl
  · obtain ⟨p, l, u, nd, pl, rc, a, b, qs, ks, rfl, W, rc1, rc2, far, L, n1, n9, pc, hnd, a1, a3, b0, b1, good, q⟩ := h
    refine ⟨_, PSs.nox <| pss_cons (ps_if (pt_cmpR op_lt (pe_bi call_len_seq B.len <| pa1 <| pv 1) (pe_op op_add (pe_op op_mul pe_int (pe_fld (pv 0) rfl)) pe_int) (nomark _)) (pss_one <| ps_ret pe_bl) pss_nil) <|
      pss_cons (ps_set (i := 3) scRingR.nd rfl (.inl rfl) <| pe_fnN (E := fun _ => E0) oF hr rfl gF kF bF passAt0 (pa_cons (pv 0) <| pa_cons (pv 1) <| pa1 <| pv 2) (pk_cons pe_bl pk_nil)) <|
      pss_cons (ps_if (pt_cmpR op_isN (pv 3) pe_non (nomark _)) (pss_one <| ps_ret pe_bl) pss_nil) <|
      pss_cons (ps_set (i := 4) scRingR.nd rfl (.inl rfl) <| pe_ifExp (pt_cmpR op_eq (pe_ix ix_tup (pv 3) pe_int (fun _ _ => rfl)) pe_str (nomark _)) (pe_op op_sub (pe_ix ix_tup (pe_ix ix_tup (pv 3) pe_int (fun _ _ => rfl)) pe_int (fun _ _ => rfl)) (pe_ix ix_tup (pe_ix ix_tup (pv 3) pe_int (fun _ _ => rfl)) pe_int (fun _ _ => rfl))) pe_int) <|
      pss_one <| ps_ret <| pe_and (pe_cmpR op_eq (pe_ix ix_tup (pv 3) pe_int (fun _ _ => rfl)) pe_str (nomark _)) <| pe_one <| pe_cmpR op_le (pe_op op_sub (pe_bi call_len_seq B.len <| pa1 <| pv 1) (pv 4)) (pe_op op_mul pe_int (pe_fld (pv 0) rfl)) (nomark _), ?_⟩
    obtain ⟨dx, ob⟩ := W.wb.ob
    refine ⟨_, rfl, u, _, rfl, .inl (SqL.of L.1), ?_⟩
    rw [List.length_map]
    refine ⟨_, rfl, p, C, dx, _, .int rc, rfl, ob, T.cl, T.nR, rfl, _, _, rfl, rfl, .inl ⟨by decide, by decide⟩, _, _, rfl, rfl, _, _, rfl, rfl, _, rfl, ?_⟩
    show if decide ((ks.length : Int) < 4 * rc + 1) = true then _ else _
    refine lc_if (fun c => q H (Same.refl H)) fun c => ?_
    have big : 4 * rc + 1 ≤ (ks.length : Int) := by
      have := of_decide_eq_false c
      omega
    have wn : (wts (ks.map (·.2))).Nodup := wtsN_nodup 0 _ fun p0 hp => by
      obtain ⟨r, hr2, rfl⟩ := List.mem_map.mp hp
      exact (pc r hr2).1.imp fun z => Int.ne_of_lt z
    have two : ∀ w ∈ wts (ks.map (·.2)), ∃ a b, w = [a, b] ∧ 0 ≤ a ∧ a < (ks.length : Int) := fun w hw => by
      obtain ⟨i, z, r, rfl, il, _⟩ := wts_is hw
      rw [List.length_map] at il
      exact ⟨_, _, rfl, by omega, by omega⟩
    have lk : ∀ l ∈ qs.map (·.2), Lnk pl l := fun l hl => by
      obtain ⟨q, hq, rfl⟩ := List.mem_map.mp hl
      exact W.lk q hq
    have kl : (ks.map (·.2)).length = ks.length := List.length_map ..
    refine ⟨_, rfl, _, rfl, _, rfl, ⟨rfl, rfl⟩, p, l, u, nd, pl, rc, a, b, qs, ks, true, rfl, W, rc1, rc2, L, n1, by omega, pc, hnd, a1, a3, b0, b1, fun k _ => Nat.lt_of_le_of_lt (hear_few W.pp lk wn two k) (by decide), ⟨fun _ _ H1 s1 => ?_, fun k hk few t qa H1 s1 nt ht hq => ?_, fun _ x hx y hy lt _ few t qa qb H1 s1 nt ht hq hr2 => ?_⟩⟩
    · exact ⟨_, rfl, rfl, _, rfl, iteT (q H1 s1)⟩
    · exfalso
      obtain ⟨x, i, rfl, x0, xn, _⟩ := mem_grid hk
      have h1 := good.1 _ hk
      have h2 := ring_len (ls := qs.map (·.2)) (p := ks.map (·.2)) (i := i) x0 (by rw [kl]; exact xn)
      rw [kl] at h2
      have h1 : a ≤ ((hearL (qs.map (·.2)) false ks.length (wts (ks.map (·.2))) [x, i]).length : Int) := h1
      omega
    · obtain ⟨x1, i, rfl, x0, xn, _⟩ := mem_grid hx
      obtain ⟨y1, j, rfl, y0, yn, _⟩ := mem_grid hy
      have ord := lt
      rw [lex2, decide_eq_true_eq] at ord
      have close : (ks.length : Int) - (y1 - x1) ≤ 2 * rc := by
        refine Classical.byContradiction fun no => ?_
        have h1 := good.2 _ hx _ hy lt
        have h2 := ring_sym (rc := rc) (ls := qs.map fun x : Addr × List Int => x.2) (p := ks.map fun x : Addr × List Int => x.2) (i := i) (j := j) far wn rc1 (by rw [kl]; omega) x0 (by rw [kl]; exact xn) y0 (by rw [kl]; exact yn) (by omega) (by rw [kl]; omega)
        rw [kl] at h2
        have h1 : b ≤ (symN (hearL (qs.map (·.2)) false ks.length (wts (ks.map (·.2))) [x1, i]) (hearL (qs.map (·.2)) false ks.length (wts (ks.map (·.2))) [y1, j]) : Int) := h1
        omega
      have c0 : atI [V.str "alike", .ref qa, .ref qb] 0 = some (.str "alike") := atI_nat (j := 0) rfl
      have c1 : atI [V.str "alike", .ref qa, .ref qb] 1 = some (.ref qa) := atI_nat (j := 1) rfl
      have c2 : atI [V.str "alike", .ref qa, .ref qb] 2 = some (.ref qb) := atI_nat (j := 2) rfl
      have e0 : ∀ u v : V, atI [u, v] 0 = some u := fun u v => atI_nat (j := 0) rfl
      refine ⟨_, rfl, rfl, _, rfl, iteF ?_⟩
      refine ⟨_, rfl, t, _, 0, .str "alike", rfl, rfl, SqT.of ht, c0, rfl, _, rfl, ?_⟩
      show if decide (V.str "alike" = V.str "alike") = true then _ else _
      rw [decide_eq_true rfl]
      refine iteT ?_
      refine ⟨_, rfl, t, _, 2, .ref qb, rfl, rfl, SqT.of ht, c2, qb, _, 0, .int y1, rfl, rfl, SqT.of hr2, e0 _ _, _, rfl, t, _, 1, .ref qa, rfl, rfl, SqT.of ht, c1, qa, _, 0, .int x1, rfl, rfl, SqT.of hq, e0 _ _, _, _, rfl, rfl, ?_⟩
      refine ⟨_, rfl, t, _, 0, .str "alike", rfl, rfl, SqT.of ht, c0, rfl, _, rfl, ?_⟩
      show if decide (V.str "alike" = V.str "alike") = true then _ else _
      rw [decide_eq_true rfl]
      refine iteT ?_
      have L1 := LL.same s1 L
      refine ⟨_, rfl, u, _, rfl, .inl (SqL.of L1.1), ?_⟩
      rw [List.length_map]
      refine ⟨_, rfl, _, _, rfl, rfl, _, rfl, p, C, dx, _, .int rc, rfl, s1 _ _ ob, T.cl, T.nR, rfl, _, _, rfl, rfl, .inl ⟨by decide, by decide⟩, _, _, rfl, rfl, ?_⟩
      show Q (.bl (decide ((ks.length : Int) - (y1 - x1) ≤ 2 * rc))) H1
      rw [decide_eq_true close]
      exact q H1 s1
end
end Kx
/-! The hearers of a whole, by its parts; hearers and where as the law asks them. -/
namespace Kx
open PySem PySem.Spec PyProof.Rows L2 Xa Xb Xc Xd Xs Xp Xm Xr Xl Xq Ya Yb Yc Yd Ye Yf Yr Zb Zd Zi Zl Zn
theorem symN_comm (a b : List (List Int)) : symN a b = symN b a := by
  unfold symN
  exact Nat.add_comm _ _
theorem symN_self (a : List (List Int)) : symN a a = 0 := by
  unfold symN
  have e : a.filter (fun k => !decide (k ∈ a)) = [] := List.filter_eq_nil_iff.mpr fun k hk => by simp [hk]
  rw [e]
  rfl
theorem filter_all {α : Type} {f : α → Bool} {l : List α} (h : ∀ k ∈ l, f k = true) : l.filter f = l := List.filter_eq_self.mpr h
theorem filter_none {α : Type} {f : α → Bool} {l : List α} (h : ∀ k ∈ l, f k = false) : l.filter f = [] := List.filter_eq_nil_iff.mpr fun k hk => by simp [h k hk]
section
variable {ls : List (List Int)} {p q : List (List Int)} {pl : Nat}
theorem own_one {x y : Int} (x0 : 0 ≤ x) (xp : x < p.length) : (hearL ls false ((p ++ q).length : Nat) (wts (p ++ q)) [x, y]).filter (fun k => decide (k.headD 0 < (p.length : Int))) = hearL ls false p.length (wts p) [x, y] := by
  rw [hear_one x0 xp, List.filter_append, filter_all, filter_none, List.append_nil]
  · intro k hk
    obtain ⟨k2, hk2, rfl⟩ := List.mem_map.mp (List.mem_filter.mp hk).1
    obtain ⟨i, z, r, rfl, _⟩ := wts_is hk2
    show decide ((i : Int) + (p.length : Nat) < p.length) = false
    exact decide_eq_false (by omega)
  · intro k hk
    obtain ⟨i, z, r, rfl, il, _⟩ := wts_is (List.mem_filter.mp hk).1
    show decide ((i : Int) < p.length) = true
    exact decide_eq_true (by omega)
theorem own_two {x y : Int} (x0 : 0 ≤ x) (xq : x < q.length) : (hearL ls false ((p ++ q).length : Nat) (wts (p ++ q)) [x + p.length, y]).filter (fun k => decide ((p.length : Int) ≤ k.headD 0)) = (hearL ls false q.length (wts q) [x, y]).map (shW p.length) := by
  rw [hear_two x0 xq, List.filter_append, filter_none, filter_all, List.nil_append]
  · intro k hk
    obtain ⟨k2, hk2, rfl⟩ := List.mem_map.mp hk
    obtain ⟨i, z, r, rfl, _⟩ := wts_is (List.mem_filter.mp hk2).1
    show decide ((p.length : Int) ≤ (i : Int) + (p.length : Nat)) = true
    exact decide_eq_true (by omega)
  · intro k hk
    obtain ⟨i, z, r, rfl, il, _⟩ := wts_is (List.mem_filter.mp hk).1
    show decide ((p.length : Int) ≤ (i : Int)) = false
    exact decide_eq_false (by omega)
theorem only_one {α : Type} [DecidableEq α] {l : List α} {a : α} (nd : l.Nodup) (h : ∀ k ∈ l, k = a) (m : a ∈ l) : l = [a] := by
  match l, nd, h, m with
  | [b], _, h, _ => rw [h b List.mem_cons_self]
  | b :: c :: r, nd, h, _ =>
    exfalso
    have e1 := h b List.mem_cons_self
    have e2 := h c (List.mem_cons_of_mem _ List.mem_cons_self)
    rw [e1, e2] at nd
    exact (List.nodup_cons.mp nd).1 List.mem_cons_self
theorem lex_tri {x y u v : Int} (ne : ¬ (x = u ∧ y = v)) : HT.lexLt [x, y] [u, v] = true ∨ HT.lexLt [u, v] [x, y] = true := by
  rw [lex2, lex2, decide_eq_true_eq, decide_eq_true_eq]
  omega
/-- the spots near to the hearers of a spot: of its own part itself alone -/
theorem near_one {a b : Int} (b1 : 1 ≤ b) (G1 : GoodB (grid p.length pl) (hearL ls false p.length (wts p)) a b) (G2 : GoodB (grid q.length pl) (hearL ls false q.length (wts q)) a b) {x y : Int} (hk : [x, y] ∈ grid (p ++ q).length pl) :
    ((grid (p ++ q).length pl).filter fun k => decide ((symN (hearL ls false ((p ++ q).length : Nat) (wts (p ++ q)) k) (hearL ls false ((p ++ q).length : Nat) (wts (p ++ q)) [x, y]) : Int) ≤ 0)).filter (fun k => decide (decide (k.headD 0 < (p.length : Int)) = decide (x < (p.length : Int)))) = [[x, y]] := by
  refine only_one (((grid_nodup _ _).sublist List.filter_sublist).sublist List.filter_sublist) (fun k h => ?_) ?_
  · obtain ⟨h1, h2⟩ := List.mem_filter.mp h
    obtain ⟨h3, h4⟩ := List.mem_filter.mp h1
    have h4 := of_decide_eq_true h4
    have h2 := of_decide_eq_true h2
    obtain ⟨u, v, rfl, u0, u1, v0, v1⟩ := mem_grid h3
    obtain ⟨x', y', e, x0, x1, y0, y1⟩ := mem_grid hk
    injection e with e1 e
    injection e with e2 _
    subst e1 e2
    have h2 : decide (u < (p.length : Int)) = decide (x < (p.length : Int)) := h2
    have h2 := decide_eq_decide.mp h2
    refine Classical.byContradiction fun no => ?_
    have ne : ¬ (u = x ∧ v = y) := fun e => no (by rw [e.1, e.2])
    rw [List.length_append] at u1 x1
    by_cases c : x < (p.length : Int)
    · have gx : [x, y] ∈ grid p.length pl := grid_mem x0 c y0 y1
      have gu : [u, v] ∈ grid p.length pl := grid_mem u0 (h2.mpr c) v0 v1
      have s1 := sym_one (ls := ls) (q := q) gu gx
      rcases lex_tri ne with l | l
      · have := G1.2 _ gu _ gx l
        omega
      · have := G1.2 _ gx _ gu l
        rw [symN_comm] at this
        omega
    · have c2 : ¬ u < (p.length : Int) := fun z => c (h2.mp z)
      have gx : [x - p.length, y] ∈ grid q.length pl := grid_mem (by omega) (by omega) y0 y1
      have gu : [u - p.length, v] ∈ grid q.length pl := grid_mem (by omega) (by omega) v0 v1
      have s1 := sym_two (ls := ls) (p := p) gu gx
      rw [Int.sub_add_cancel, Int.sub_add_cancel] at s1
      rcases lex_tri (x := u - p.length) (y := v) (u := x - p.length) (v := y) (fun e => ne ⟨by omega, e.2⟩) with l | l
      · have := G2.2 _ gu _ gx l
        omega
      · have := G2.2 _ gx _ gu l
        rw [symN_comm] at this
        omega
  · refine List.mem_filter.mpr ⟨List.mem_filter.mpr ⟨hk, ?_⟩, decide_eq_true rfl⟩
    rw [symN_self]
    exact decide_eq_true (by decide)
end
theorem at_nil {R : List V → Hp → Prop} {σ : L2.St} {H : Hp} (h : R [] H) : tNil σ H R := h
theorem fork {R : Hp → Prop} {G : Prop} (H5 : Hp) (h1 : (∀ H6, Same H5 H6 → R H6) → G) (h2 : ∀ H6, Same H5 H6 → R H6) : G := h1 h2
theorem fork0 {R : Hp → Prop} {G : Prop} (A : Hp → Prop) (h1 : (∀ H6, A H6 → R H6) → G) (h2 : ∀ H6, A H6 → R H6) : G := h1 h2
theorem forkV {R : Option V → Hp → Prop} {G : Prop} (A : Option V → Hp → Prop) (h1 : (∀ x H6, A x H6 → R x H6) → G) (h2 : ∀ x H6, A x H6 → R x H6) : G := h1 h2
theorem fork3 {R : Addr → Addr → Hp → Prop} {G : Prop} (A : Addr → Addr → Hp → Prop) (h1 : (∀ a b H6, A a b H6 → R a b H6) → G) (h2 : ∀ a b H6, A a b H6 → R a b H6) : G := h1 h2
theorem tl_put {H : Hp} {D : Addr} {oz : List (Addr × List Int)} {q : Addr × List Int} (T : TL H D oz) (h : H q.1 = some (.tup (q.2.map V.int))) : TL (upd H D (.lst ((oz.map fun q => V.ref q.1) ++ [.ref q.1]))) D (oz ++ [q]) := by
  refine ⟨by rw [upd_same, List.map_append] <;> rfl, fun r hr2 => ?_⟩
  rcases List.mem_append.mp hr2 with y | y
  · have t := T.tu r y
    rw [upd_ne (ne_of t T.li (by intro z; cases z))]
    exact t
  · rw [List.mem_singleton.mp y, upd_ne (ne_of h T.li (by intro z; cases z))]
    exact h
theorem take_all {ws : List (Addr × List Int)} : (Ks ws).take ws.length = Ks ws := List.take_of_length_le (by rw [List.length_map]; exact Nat.le_refl _)
theorem ks_app {a : List (Addr × List Int)} {q : Addr × List Int} : Ks (a ++ [q]) = Ks a ++ [q.2] := List.map_append
theorem flt_next {α : Type} {f : α → Bool} {xs : List α} {k : Nat} {x : α} (h : xs[k]? = some x) : (xs.take (k + 1)).filter f = (xs.take k).filter f ++ if f x = true then [x] else [] := by
  rw [List.take_add_one, h, List.filter_append]
  congr 1
  show List.filter f [x] = _
  rw [List.filter_cons]
  rfl
section
variable {qs ks ms : List (Addr × List Int)} {pl : Nat}
theorem own_oneK {x y : Int} (x0 : 0 ≤ x) (xp : x < ks.length) : (hearK qs (ks ++ ms) false [x, y]).filter (fun k => decide (k.headD 0 < (ks.length : Int))) = hearK qs ks false [x, y] := by
  have h := own_one (ls := qs.map (·.2)) (p := ks.map (·.2)) (q := ms.map (·.2)) (y := y) x0 (by rw [List.length_map]; exact xp)
  rw [← List.map_append, List.length_map, List.length_map] at h
  exact h
theorem own_twoK {x y : Int} (x0 : (ks.length : Int) ≤ x) (xp : x < ((ks ++ ms).length : Nat)) : (hearK qs (ks ++ ms) false [x, y]).filter (fun k => decide ((ks.length : Int) ≤ k.headD 0)) = (hearK qs ms false [x - ks.length, y]).map (shW ks.length) := by
  rw [List.length_append] at xp
  have h := own_two (ls := qs.map (·.2)) (p := ks.map (·.2)) (q := ms.map (·.2)) (x := x - ks.length) (y := y) (by omega) (by rw [List.length_map]; omega)
  rw [← List.map_append, List.length_map, List.length_map, List.length_map, Int.sub_add_cancel] at h
  exact h
theorem near_oneK {a b : Int} (b1 : 1 ≤ b) (G1 : GoodB (grid ks.length pl) (hearK qs ks false) a b) (G2 : GoodB (grid ms.length pl) (hearK qs ms false) a b) {x y : Int} (hk : [x, y] ∈ grid (ks ++ ms).length pl) :
    ((grid (ks ++ ms).length pl).filter fun k => decide ((symN (hearK qs (ks ++ ms) false k) (hearK qs (ks ++ ms) false [x, y]) : Int) ≤ 0)).filter (fun k => decide (decide (k.headD 0 < (ks.length : Int)) = decide (x < (ks.length : Int)))) = [[x, y]] := by
  have h := near_one (ls := qs.map (·.2)) (p := ks.map (·.2)) (q := ms.map (·.2)) (pl := pl) (a := a) (b := b) (x := x) (y := y) b1 (by rw [List.length_map]; exact G1) (by rw [List.length_map]; exact G2) (by rw [← List.map_append, List.length_map]; exact hk)
  rw [← List.map_append, List.length_map, List.length_map] at h
  exact h
theorem GoodB.cnt {g : List (List Int)} {hear : List Int → List (List Int)} {a : Int} (h : ∀ k ∈ g, a ≤ ((hear k).length : Int)) : GoodB g hear a 0 := ⟨h, fun _ _ _ _ _ => by omega⟩
theorem whole_fewK {a : Int} (G1 : GoodB (grid ks.length pl) (hearK qs ks false) a 0) (G2 : GoodB (grid ms.length pl) (hearK qs ms false) a 0) : GoodB (grid (ks ++ ms).length pl) (hearK qs (ks ++ ms) false) a 0 := by
  refine GoodB.cnt fun k hk => ?_
  have h1 := whole_few (ls := qs.map (·.2)) (p := ks.map (·.2)) (q := ms.map (·.2)) (pl := pl) (a := a) (b := 0) (by rw [List.length_map]; exact G1) (by rw [List.length_map]; exact G2) k (by rw [← List.map_append, List.length_map]; exact hk)
  rw [← List.map_append, List.length_map] at h1
  exact h1
theorem pcs_nodup (pc : ∀ q ∈ ks, Pc pl q.2) : (wts (ks.map (·.2))).Nodup := wtsN_nodup 0 _ fun p0 hp => by
  obtain ⟨r, hr2, rfl⟩ := List.mem_map.mp hp
  exact (pc r hr2).1.imp fun z => Int.ne_of_lt z
theorem few_hear {C : Addr} {H : Hp} {p l : Addr} {rc : Int} (W : WebQ C H p l pl rc qs) (pc : ∀ q ∈ ks, Pc pl q.2) (rg : Bool) (k : List Int) : (hearK qs ks rg k).length ≤ 10 := by
  refine hear_few W.pp (fun l hl => ?_) (pcs_nodup pc) (fun w hw => ?_) k
  · obtain ⟨q, hq, rfl⟩ := List.mem_map.mp hl
    exact W.lk q hq
  · obtain ⟨i, z, r, rfl, il, _⟩ := wts_is hw
    rw [List.length_map] at il
    exact ⟨_, _, rfl, by omega, by omega⟩
end
section
variable {K : PySem.W.Frag} {C CN CH CS CW CP : Addr}
theorem hear_asc {ls : List (List Int)} {rg : Bool} {n : Int} {ps : List (List Int)} (pc : ∀ p ∈ ps, p.Pairwise (· < ·)) (k : List Int) : ascT (hearL ls rg n (wts ps) k) = true := ascT_of ((wtsN_asc 0 ps pc).sublist List.filter_sublist)
theorem hearers_yes {H : Hp} {Q : VK} {E : XK} {p l u t : Addr} {pl : Nat} {rc x y : Int} {qs ks : List (Addr × List Int)} (W : WebQ C H p l pl rc qs) (L : LL H u ks) (n1 : 1 ≤ ks.length) (n3 : ks.length ≤ 300) (pc : ∀ q ∈ ks, Pc pl q.2) (ht : H t = some (.tup [.int x, .int y])) (hg : [x, y] ∈ grid ks.length pl)
    (q : ∀ (r : Addr) (ws : List (Addr × List Int)) (H' : Hp), Same H H' → H r = none → TL H' r ws → ws.map (·.2) = hearK qs ks false [x, y] → Q (.ref r) H') : spHearers K C CN CS CW CP [.ref p, .ref u, .ref t, .bl false] H Q E := by
  have sp := Spot.two (K := K) (n := (ks.length : Int)) (pl := (pl : Int)) ht (.is x) (.is y)
  obtain ⟨x', y', e, x0, x1, y0, y1⟩ := mem_grid hg
  injection e with e1 e
  injection e with e2 _
  subst e1 e2
  rw [inR_t (by omega) (by omega), inR_t (by omega) (by omega)] at sp
  exact ⟨_, _, _, _, rfl, .inr ⟨p, l, pl, rc, qs, true, rfl, W, pl_good W.pp L n1 n3 pc, (fun e => nomatch e), fun _ => ⟨u, ks, true, rfl, L, n1, n3, pc, sp, (fun e => nomatch e), fun _ => ⟨true, isk_bl false _ (by decide +kernel), (fun e => nomatch e), fun _ => ⟨false, t, x, y, rfl, rfl, ht, hg, q⟩⟩⟩⟩⟩
theorem where_few {H : Hp} {Q : VK} {E : XK} {p l u a : Addr} {pl : Nat} {rc : Int} {qs ks hs : List (Addr × List Int)} (W : WebQ C H p l pl rc qs) (L : LL H u ks) (n1 : 1 ≤ ks.length) (n3 : ks.length ≤ 300) (pc : ∀ q ∈ ks, Pc pl q.2) (T : TL H a hs) (nd : (Ks hs).Nodup) (sub : ∀ k ∈ Ks hs, k ∈ wts (ks.map (·.2))) (asc : ascT (Ks hs) = true)
    (len : hs.length ≤ 10) (fewB : ∀ k ∈ grid ks.length pl, (hearK qs ks false k).length ≤ 10)
    (q : ∀ (r : Addr) (ws : List (Addr × List Int)) (H' : Hp), Same H H' → H r = none → TL H' r ws → ws.map (·.2) = (grid ks.length pl).filter (fun k => decide ((symN (hearK qs ks false k) (Ks hs) : Int) ≤ 0)) → Q (.ref r) H') :
    spWhere K C CN CH CW CP [.ref p, .ref u, .ref a, .int 0, .bl false] H Q E := by
  have g := Hd.good (K := K) (ps := ks.map (·.2)) (pl := pl) T (fun q hq => sub _ (List.mem_map.mpr ⟨q, hq, rfl⟩)) (by omega)
  rw [show hs.map (·.2) = Ks hs from rfl, asc] at g
  have i3 : Xp.inR (some 0) 0 3 = true := inR_t (by decide) (by decide)
  exact ⟨_, _, _, _, _, rfl, .inr ⟨p, l, pl, rc, qs, true, rfl, W, pl_good W.pp L n1 n3 pc, (fun e => nomatch e), fun _ => ⟨u, ks, true, rfl, L, n1, n3, pc, g, (fun e => nomatch e), fun _ => ⟨_, .is 0, (fun e => by rw [i3] at e; cases e), fun _ => ⟨true, isk_bl false _ (by decide +kernel), (fun e => nomatch e), fun _ => ⟨false, a, 0, hs, rfl, rfl, rfl, T, nd, sub, fun k hk => by have h : (hearL (qs.map (·.2)) false ks.length (wts (ks.map (·.2))) k).length ≤ 10 := fewB k hk; omega, q⟩⟩⟩⟩⟩⟩
end
end Kx
/-! The law's hearers of a whole. -/
namespace Kx
open PySem PySem.Spec PyProof.Rows L2 Xa Xb Xc Xd Xs Xp Xm Xr Xl Xq Ya Yb Yc Yd Ye Yf Yr Zb Zd Zi Zl Zn
abbrev sHearR : Stmt := top 60
section
variable {P : Program} {w : World} {K : PySem.W.Frag} {mg : Str → Option Value} {base : Heap} {f C CN CH CS CW CP : Addr} {fd : FuncData}
/-- hearers and where as the law calls them: no keywords -/
structure HearW (P : Program) (w : World) (K : PySem.W.Frag) (mg : Str → Option Value) (base : Heap) (C CN CH CS CW CP : Addr) : Prop where
  he : ∃ (fH : Addr) (fdH : FuncData) (ds : List Value), FnOk P w K mg base (L2.CX P w) 7 fH fdH ["web", "plan", "spot", "ring"] (spHearers K C CN CS CW CP) ∧ mg "hearers" = some (.ref fH) ∧ PySem.W.keepIn K (.ref fH) = true ∧ Binds K fdH ["web", "plan", "spot", "ring"] ds ∧ Vals [V.bl false] ds
  wh : ∃ (fW : Addr) (fdW : FuncData) (ds : List Value), FnOk P w K mg base (L2.CX P w) 7 fW fdW ["web", "plan", "heard", "lies", "ring"] (spWhere K C CN CH CW CP) ∧ mg "where" = some (.ref fW) ∧ PySem.W.keepIn K (.ref fW) = true ∧ Binds K fdW ["web", "plan", "heard", "lies", "ring"] ds ∧ Vals [V.int 0, V.bl false] ds
def spHearR (C : Addr) : Sp := fun xs H Q _ => ∃ (g p l tp la u v : Addr) (pl n : Nat) (rc a b : Int) (qs ks ms : List (Addr × List Int)), xs = [.ref g, .ref p, .ref tp, .ref u, .ref v] ∧ Gen H g n ∧ n ≤ 2 ^ 39 ∧ WebQ C H p l pl rc qs ∧ l ≠ g ∧ H tp = some (.tup [.int pl, .ref la]) ∧ LL H u ks ∧ LL H v ms ∧ u ≠ g ∧ v ≠ g ∧ (∀ q ∈ ks, q.1 ≠ g) ∧ (∀ q ∈ ms, q.1 ≠ g) ∧
  1 ≤ ks.length ∧ ks.length ≤ 9 ∧ 1 ≤ ms.length ∧ ms.length ≤ 9 ∧ (∀ q ∈ ks, Pc pl q.2) ∧ (∀ q ∈ ms, Pc pl q.2) ∧ 1 ≤ b ∧ GoodB (grid ks.length pl) (hearK qs ks false) a b ∧ GoodB (grid ms.length pl) (hearK qs ms false) a b ∧ ∀ H', ButG g H H' → Gen H' g (n + 40) → Q (.bl true) H'
abbrev nHearR : List Str := ["generator", "web", "parts", "one", "other", "whole", "many", "turn", "spot", "told", "due", "own", "found", "near", "watcher", "piece", "place", "some"]
theorem scHearR : FnScope nHearR ["generator", "web", "parts", "one", "other"] (defScope sHearR) := ⟨rfl, rfl, rfl, by decide +kernel, rfl, by decide +kernel, by decide +kernel⟩
theorem can_hearr (D : Dfn K mg "_law_hearers_right" sHearR) (B : Bi3 mg) (HK : HearW P w K mg base C CN CH CS CW CP) (cR : CanG P w K mg base 2 "_law_random" ["generator", "bound"] spRandom) : CanG P w K mg base 8 "_law_hearers_right" ["generator", "web", "parts", "one", "other"] (spHearR C) := by
  obtain ⟨f, fd, F, g1⟩ := D.at_
  obtain ⟨⟨fH, fdH, ds, oH, gH, kH, bH, dH⟩, ⟨fW, fdW, ds2, oW, gW, kW, bW, dW⟩⟩ := HK
  refine FnG.can (okG F scHearR (fun xs H Q E h => ?_) (fun cdv A outer s H vs Q E hr hn h => ?_)) F g1 fun _ _ _ _ _ _ us hl => match us, hl with | [_, _, _, _, _], _ => rfl
  · obtain ⟨g, p, l, tp, la, u, v, pl, n, rc, a, b, qs, ks, ms, rfl, _⟩ := h
    rfl
  · obtain ⟨g, p, l, tp, la, u, v, pl, n, rc, a, b, qs, ks, ms, rfl, G, nn, W, lg, htp, L, M, ug, vg, kg, mg2, n1, n9, m1, m9, pcK, pcM, b1, good1, good2, q⟩ := h
    have h2 := hr.mono (show 2 ≤ 7 by decide)
    refine ⟨_, PSs.nox <| pss_cons (ps_asg (pe_tup <| pa_cons (pe_op op_cat (pv 3) (pv 4)) <| pa1 <| pe_bi call_len_seq B.len <| pa1 <| pv 3) <| pg_tup (by rfl) <| pgs_cons (pg_name (i := 5) scHearR.nd rfl (.inl rfl)) <| pgs_cons (pg_name (i := 6) scHearR.nd rfl (.inr rfl)) pgs_nil) <|
      pss_cons (ps_for PassesOwn.never rfl (pi_range1 (by rfl) B.range <| pa1 pe_int) (pg_name (i := 7) scHearR.nd rfl (.inl rfl)) <|
        pss_cons (ps_set (i := 8) scHearR.nd rfl (.inr rfl) <| pe_tup <| pa_cons (pe_canG cR h2 hn <| pa_cons (pv 0) <| pa1 <| pe_bi call_len_seq B.len <| pa1 <| pv 5) <| pa1 <| pe_canG cR h2 hn <| pa_cons (pv 0) <| pa1 <| pe_ix ix_tup (pv 2) pe_int (fun _ _ => rfl)) <|
        pss_cons (ps_set (i := 9) scHearR.nd rfl (.inl rfl) <| pe_fnS (E := fun _ => E0) (dvs := [.bl false]) oH hr rfl gH kH bH dH passAt0 (pa_cons (pv 1) <| pa_cons (pv 5) <| pa1 <| pv 8)) <|
        pss_cons (ps_if (pt_cmpR op_lt (pe_ix ix_tup (pv 8) pe_int (fun _ _ => rfl)) (pv 6) (nomark _))
          (pss_cons (ps_set (i := 10) scHearR.nd rfl (.inl rfl) <| pe_fnS (E := fun _ => E0) (dvs := [.bl false]) oH hr rfl gH kH bH dH passAt0 (pa_cons (pv 1) <| pa_cons (pv 3) <| pa1 <| pv 8)) <|
           pss_one <| ps_setLc (i := 11) (own := [("watcher", 14)]) (g := gName 14) rfl scHearR.nd rfl rfl (sw_true rfl rfl rfl (by decide +kernel)) (pi_list <| pv 9) (blkOk_by (own := [("watcher", 14)]) (N := nHearR) (sc := defScope sHearR) (by decide +kernel)) (fun _ _ _ _ _ => pg_name (i := 14) scHearR.nd rfl (Or.inl rfl))
             (fun _ _ _ _ _ => pts_one <| pt_cmpR op_lt (pe_ix (r := rIxT K) ix_tup (pv 14) pe_int (fun _ _ => rfl)) (pv 6) (nomark _)) (fun _ _ _ _ _ => pv 14))
          (pss_cons (ps_setLc (i := 10) (own := [("piece", 15), ("place", 16)]) (g := gTup K 2 (gCons (gName 15) (gCons (gName 16) gNil))) (tt := tYes) rfl scHearR.nd rfl rfl (sw_true rfl rfl rfl (by decide +kernel))
              (pi_list <| pe_fnS (E := fun _ => E0) (dvs := [.bl false]) oH hr rfl gH kH bH dH passAt0 (pa_cons (pv 1) <| pa_cons (pv 4) <| pa1 <| pe_tup <| pa_cons (pe_op op_sub (pe_ix ix_tup (pv 8) pe_int (fun _ _ => rfl)) (pv 6)) <| pa1 <| pe_ix ix_tup (pv 8) pe_int (fun _ _ => rfl)))
              (blkOk_by (own := [("piece", 15), ("place", 16)]) (N := nHearR) (sc := defScope sHearR) (by decide +kernel)) (fun _ _ _ _ _ => pg_tup (by rfl) <| pgs_cons (pg_name (i := 15) scHearR.nd rfl (Or.inl rfl)) <| pgs_cons (pg_name (i := 16) scHearR.nd rfl (Or.inl rfl)) pgs_nil) (fun _ _ _ _ _ => pts_nil)
              (fun _ _ _ _ _ => pe_tup <| pa_cons (pe_op op_add (pv 15) (pv 6)) <| pa1 <| pv 16)) <|
           pss_one <| ps_setLc (i := 11) (own := [("watcher", 14)]) (g := gName 14) rfl scHearR.nd rfl rfl (sw_true rfl rfl rfl (by decide +kernel)) (pi_list <| pv 9) (blkOk_by (own := [("watcher", 14)]) (N := nHearR) (sc := defScope sHearR) (by decide +kernel)) (fun _ _ _ _ _ => pg_name (i := 14) scHearR.nd rfl (Or.inl rfl))
             (fun _ _ _ _ _ => pts_one <| pt_cmpR op_ge (pe_ix (r := rIxT K) ix_tup (pv 14) pe_int (fun _ _ => rfl)) (pv 6) (nomark _)) (fun _ _ _ _ _ => pv 14))) <|
        pss_cons (ps_if (pt_cmpR (op_neD hr.units) (pv 11) (pv 10) (nomark _)) (pss_one <| ps_ret pe_bl) pss_nil) <|
        pss_cons (ps_set (i := 12) scHearR.nd rfl (.inl rfl) <| pe_fnS (E := fun _ => E0) (dvs := [.int 0, .bl false]) oW hr rfl gW kW bW dW passAt0 (pa_cons (pv 1) <| pa_cons (pv 5) <| pa1 <| pv 9)) <|
        pss_cons (ps_setLc (i := 13) (own := [("some", 17)]) (g := gName 17) rfl scHearR.nd rfl rfl (sw_true rfl rfl rfl (by decide +kernel)) (pi_list <| pv 12) (blkOk_by (own := [("some", 17)]) (N := nHearR) (sc := defScope sHearR) (by decide +kernel)) (fun _ _ _ _ _ => pg_name (i := 17) scHearR.nd rfl (Or.inl rfl))
          (fun _ _ _ _ _ => pts_one <| pt_cmpR op_eq (pe_cmpR op_lt (pe_ix (r := rIxT K) ix_tup (pv 17) pe_int (fun _ _ => rfl)) (pv 6) (nomark _)) (pe_cmpR op_lt (pe_ix (r := rIxT K) ix_tup (pv 8) pe_int (fun _ _ => rfl)) (pv 6) (nomark _)) (nomark _)) (fun _ _ _ _ _ => pv 17)) <|
        pss_one <| ps_if (pt_cmpR (op_neD hr.units) (pv 13) (pe_lst <| pa1 <| pv 8) (nomark _)) (pss_one <| ps_ret pe_bl) pss_nil) <|
      pss_one <| ps_ret pe_bl, ?_⟩
    have at0 : ∀ (x y : V), atI [x, y] 0 = some x := fun x y => atI_nat (j := 0) rfl
    have at1 : ∀ (x y : V), atI [x, y] 1 = some y := fun x y => atI_nat (j := 1) rfl
    have wl : (ks ++ ms).length = ks.length + ms.length := List.length_append
    obtain ⟨xg, hxg⟩ := G.is
    refine ⟨_, rfl, _, rfl, u, v, _, _, rfl, rfl, L.1, M.1, (by rw [List.length_map, List.length_map]; exact Nat.le_of_lt (small_ (by omega))), fun wA nw => ?_⟩
    refine ⟨_, rfl, u, _, rfl, .inl (SqL.of (upd_same_as nw _ _ L.1)), ?_⟩
    rw [List.length_map, ← List.map_append]
    refine ⟨(by show 2 ≤ sizeLine; decide), fun t0 nt0 => ⟨t0, _, rfl, SqT.of upd_same, rfl, ?_⟩⟩
    have Ww : LL (upd H wA (.lst ((ks ++ ms).map fun q => V.ref q.1))) wA (ks ++ ms) := ⟨upd_same, fun q hq => upd_same_as nw _ _ ((List.mem_append.mp hq).elim (L.2 q) (M.2 q))⟩
    have s0 : Same H (upd (upd H wA (.lst ((ks ++ ms).map fun q => V.ref q.1))) t0 (.tup [V.ref wA, .int ks.length])) := (upd_same_as nw).trans (upd_same_as nt0)
    have Lw := LL.same (upd_same_as (o := .tup [V.ref wA, .int ks.length]) nt0) Ww
    have wg := G.ne nw
    generalize upd (upd H wA (.lst ((ks ++ ms).map fun q => V.ref q.1))) t0 (.tup [V.ref wA, .int ks.length]) = H0 at s0 Lw ⊢
    have G0 := G.to (s0 g)
    have wgq : ∀ q ∈ ks ++ ms, q.1 ≠ g := fun q hq => (List.mem_append.mp hq).elim (kg q) (mg2 q)
    have pcW : ∀ q ∈ ks ++ ms, Pc pl q.2 := fun q hq => (List.mem_append.mp hq).elim (pcK q) (pcM q)
    have all : ∀ {H' : Hp}, ButG g H0 H' → WebQ C H' p l pl rc qs ∧ LL H' u ks ∧ LL H' v ms ∧ LL H' wA (ks ++ ms) ∧ H' tp = some (.tup [.int pl, .ref la]) := fun {H'} b9 => by
      have k := (ButG.of s0).trans b9
      have kt : ∀ {c : Addr} {o : HO}, H c = some o → (∀ xs, o ≠ .lst xs) → H' c = some o := fun {c o} e n => k c o e fun z => by
        rw [z, hxg] at e
        exact n _ (Option.some.inj e).symm
      obtain ⟨dx, ob⟩ := W.wb.ob
      exact ⟨⟨⟨⟨dx, kt ob (fun _ z => nomatch z)⟩, k _ _ W.wb.li lg, fun q hq => kt (W.wb.tu q hq) (fun _ z => nomatch z)⟩, W.lk, W.pp, W.few⟩, LL.butg L ug kg k, LL.butg M vg mg2 k, LL.butg Lw wg wgq b9, kt htp (fun _ z => nomatch z)⟩
    refine ⟨_, _, rfl, _, _, rfl, rfl, _, rfl, by decide, by decide, for_range (lo := 0) (n := 3) (fun i σ H' => ∃ v7 v8 v9 v10 v11 v12 v13 : Option V, σ = [some (.ref g), some (.ref p), some (.ref tp), some (.ref u), some (.ref v), some (.ref wA), some (.int ks.length), v7, v8, v9, v10, v11, v12, v13, none, none, none, none] ∧ ButG g H0 H' ∧ Gen H' g (n + 8 * i))
      ⟨_, _, _, _, _, _, _, rfl, (fun _ _ e _ => e), G0⟩ ?_ ?_⟩
    · rintro i σ H1 hi ⟨v7, v8, v9, v10, v11, v12, v13, rfl, b1', G1⟩
      have hi : i < 3 := hi
      obtain ⟨W1, L1, M1, Lw1, htp1⟩ := all b1'
      refine ⟨_, rfl, _, rfl, wA, _, rfl, .inl (SqL.of Lw1.1), ?_⟩
      rw [List.length_map]
      refine ⟨g, ((ks ++ ms).length : Nat), _, rfl, by omega, by omega, G1, by omega, fun x H2 x0 x1 G2 k2 => ?_⟩
      have b2 := b1'.trans (ButG.eq k2)
      obtain ⟨W2, L2', M2, Lw2, htp2⟩ := all b2
      refine ⟨_, rfl, _, rfl, tp, _, 0, .int pl, rfl, rfl, SqT.of htp2, at0 _ _, ?_⟩
      have pp := W2.pp
      refine ⟨g, (pl : Nat), _, rfl, by omega, by omega, G2, by omega, fun y H3 y0 y1 G3 k3 => ?_⟩
      have b3 := b2.trans (ButG.eq k3)
      refine ⟨(by show 2 ≤ sizeLine; decide), fun ts nts => ?_⟩
      have s4 := upd_same_as (o := .tup [V.int x, .int y]) nts
      have hts := upd_same (H := H3) (a := ts) (o := .tup [V.int x, .int y])
      have b4 := b3.trans (ButG.of s4)
      have G4 := G3.to (s4 g)
      generalize upd H3 ts (.tup [V.int x, .int y]) = H4 at s4 hts b4 G4 ⊢
      obtain ⟨W4, L4, M4, Lw4, htp4⟩ := all b4
      have hk : [x, y] ∈ grid (ks ++ ms).length pl := grid_mem x0 x1 y0 y1
      refine ⟨_, rfl, _, rfl, _, rfl, ?_⟩
      refine at_nil ?_
      refine hearers_yes W4 Lw4 (by omega) (by omega) pcW hts hk fun told ws H5 s5 n5 T5 e5 => ?_
      have s4T := hts
      have hts5 := s5 _ _ hts
      obtain ⟨W5, L5, M5, Lw5, htp5⟩ := all (b4.trans (ButG.of s5))
      have wtwo : ∀ q ∈ ws, ∃ a b, q.2 = [a, b] := fun q hq => by
        have h : q.2 ∈ Ks ws := List.mem_map.mpr ⟨q, hq, rfl⟩
        rw [show Ks ws = _ from e5] at h
        obtain ⟨i, z, r, e, _⟩ := wts_is (List.mem_filter.mp h).1
        exact ⟨_, _, e⟩
      have wfew : ws.length ≤ 10 := by
        have h := few_hear W5 pcW false [x, y]
        rw [← e5, List.length_map] at h
        exact h
      have wnd : (Ks ws).Nodup := by
        rw [show Ks ws = _ from e5]
        exact (pcs_nodup pcW).sublist List.filter_sublist
      have wsub : ∀ k ∈ Ks ws, k ∈ wts ((ks ++ ms).map (·.2)) := fun k h => by
        rw [show Ks ws = _ from e5] at h
        exact (List.mem_filter.mp h).1
      have wasc : ascT (Ks ws) = true := by
        rw [show Ks ws = _ from e5]
        refine hear_asc (fun p hp => ?_) _
        obtain ⟨q, hq, rfl⟩ := List.mem_map.mp hp
        exact (pcW q hq).1
      apply fork3 (fun d o H6 => ∃ dz oz : List (Addr × List Int), TL H6 d dz ∧ TL H6 o oz ∧ Ks dz = Ks oz ∧ Same H5 H6)
      · intro rest
        refine ⟨_, rfl, ts, _, 0, .int x, rfl, rfl, SqT.of hts5, at0 _ _, _, rfl, _, _, rfl, rfl, _, rfl, ?_⟩
        show if decide (x < (ks.length : Int)) = true then _ else _
        refine lc_if (fun c => ?_) fun c => ?_
        · have c := of_decide_eq_true c
          refine ⟨_, rfl, _, rfl, _, rfl, ?_⟩
          refine at_nil ?_
          refine hearers_yes W5 L5 (by omega) (by omega) pcK hts5 (grid_mem x0 c y0 y1) fun d dz H6 s6 n6 T6 e6 => ?_
          refine ⟨_, rfl, told, rfl, ⟨_, SqL.of (s6 _ _ T5.li)⟩, fun D nD => ?_⟩
          refine lc_list (K := K) (a := told) (xs := ws.map fun q => V.ref q.1) (fun k H' => ∃ oz, TL H' D oz ∧ Ks oz = ((Ks ws).take k).filter (fun k => decide (k.headD 0 < (ks.length : Int))) ∧ Same H6 H') ⟨[], ⟨upd_same, fun q hq => nomatch hq⟩, rfl, upd_same_as nD⟩ (fun k H' _ ⟨_, _, _, s⟩ => SqL.of (s _ _ (s6 _ _ T5.li))) ?_ ?_
          · rintro k z H' hz ⟨oz, To, eo, so⟩
            obtain ⟨q0, hq0, rfl⟩ := ref_get hz
            have qin := List.mem_of_getElem? hq0
            have ht := so _ _ (s6 _ _ (T5.tu q0 qin))
            obtain ⟨a', b', eq⟩ := wtwo q0 qin
            rw [eq] at ht
            have nxt : (Ks ws).take (k + 1) = (Ks ws).take k ++ [q0.2] := by rw [List.take_add_one, List.getElem?_map, hq0] <;> rfl
            refine ⟨rfl, _, rfl, q0.1, _, 0, .int a', rfl, rfl, SqT.of ht, at0 _ _, _, rfl, _, _, rfl, rfl, _, rfl, ?_⟩
            show if decide (a' < (ks.length : Int)) = true then _ else _
            have kk : (Ks ws)[k]? = some q0.2 := by rw [List.getElem?_map, hq0] <;> rfl
            have nf : ((Ks ws).take (k + 1)).filter (fun k => decide (k.headD 0 < (ks.length : Int))) = _ := flt_next (f := fun k : List Int => decide (k.headD 0 < (ks.length : Int))) kk
            have hf : decide (q0.2.headD 0 < (ks.length : Int)) = decide (a' < (ks.length : Int)) := by rw [eq] <;> rfl
            rw [hf] at nf
            refine lc_if (fun c2 => ?_) fun c2 => ?_
            · refine ⟨_, rfl, _, To.li, ?_, oz ++ [q0], tl_put To (so _ _ (s6 _ _ (T5.tu q0 qin))), ?_, fun c' o e => ?_⟩
              · have h := congrArg List.length eo
                rw [List.length_map] at h
                have h2 := List.length_filter_le (fun k : List Int => decide (k.headD 0 < (ks.length : Int))) ((Ks ws).take k)
                rw [List.length_take, List.length_map] at h2
                rw [List.length_map]
                exact small_ (by omega)
              · rw [nf, c2, ks_app, eo]
                rfl
              · rw [upd_ne (ne_of_none e nD)]
                exact so _ _ e
            · refine ⟨oz, To, ?_, so⟩
              rw [nf, c2, eo]
              simp
          rintro H7 ⟨oz, To, eo, so⟩
          rw [List.length_map, take_all, show Ks ws = _ from e5, own_oneK x0 c] at eo
          exact rest d D H7 ⟨dz, oz, T6.same so, To, by rw [eo]; exact e6, s6.trans so⟩
        · have c := of_decide_eq_false c
          have xhi : x < ((ks ++ ms).length : Nat) := x1
          refine ⟨_, rfl, _, rfl, _, rfl, ts, _, 0, .int x, rfl, rfl, SqT.of hts5, at0 _ _, _, rfl, _, _, rfl, rfl, ?_⟩
          refine ⟨_, rfl, ts, _, 1, .int y, rfl, rfl, SqT.of hts5, at1 _ _, ?_⟩
          refine ⟨(by show 2 ≤ sizeLine; decide), fun t2 nt2 => ?_⟩
          have s56 := upd_same_as (o := .tup [V.int (x - ks.length), .int y]) nt2
          have ht2 := upd_same (H := H5) (a := t2) (o := .tup [V.int (x - ks.length), .int y])
          have T6 := T5.same s56
          generalize upd H5 t2 (.tup [V.int (x - ks.length), .int y]) = H6 at s56 ht2 T6 ⊢
          have M6 := LL.same s56 M5
          refine at_nil ?_
          refine hearers_yes (W5.same s56) M6 (by omega) (by omega) pcM ht2 (grid_mem (by omega) (by omega) y0 y1) fun h hz H7 s7 n7 T7 e7 => ?_
          refine ⟨h, rfl, ⟨_, SqL.of T7.li⟩, fun d nd => ?_⟩
          have htwo : ∀ q ∈ hz, ∃ a b, q.2 = [a, b] := fun q hq => by
            have h : q.2 ∈ Ks hz := List.mem_map.mpr ⟨q, hq, rfl⟩
            rw [show Ks hz = _ from e7] at h
            obtain ⟨i, z, r, e, _⟩ := wts_is (List.mem_filter.mp h).1
            exact ⟨_, _, e⟩
          have hfew : hz.length ≤ 10 := by
            have h := few_hear W5 pcM false [x - ks.length, y]
            rw [← e7, List.length_map] at h
            exact h
          refine lc_list (K := K) (a := h) (xs := hz.map fun q => V.ref q.1) (fun k H' => ∃ dz, TL H' d dz ∧ Ks dz = ((Ks hz).take k).map (shW ks.length) ∧ Same H7 H') ⟨[], ⟨upd_same, fun q hq => nomatch hq⟩, rfl, upd_same_as nd⟩ (fun k H' _ ⟨_, _, _, s⟩ => SqL.of (s _ _ T7.li)) ?_ ?_
          · rintro k z H' hz' ⟨dz, Td, ed, sd⟩
            obtain ⟨q0, hq0, rfl⟩ := ref_get hz'
            have qin := List.mem_of_getElem? hq0
            have ht := sd _ _ (T7.tu q0 qin)
            obtain ⟨a', b', eq⟩ := htwo q0 qin
            rw [eq] at ht
            refine ⟨q0.1, _, rfl, SqT.of ht, rfl, _, _, rfl, _, _, rfl, rfl, ?_⟩
            refine ⟨rfl, lc_yes2 ⟨_, rfl, _, rfl, _, _, rfl, rfl, _, rfl, (by show 2 ≤ sizeLine; decide), fun e ne => ?_⟩⟩
            have se := upd_same_as (o := .tup [V.int (a' + ks.length), .int b']) ne
            have he := upd_same (H := H') (a := e) (o := .tup [V.int (a' + ks.length), .int b'])
            have kk : (Ks hz)[k]? = some q0.2 := by rw [List.getElem?_map, hq0] <;> rfl
            have Td2 := Td.same se
            have P2 := tl_put (q := (e, [a' + (ks.length : Int), b'])) Td2 he
            refine ⟨_, Td2.li, ?_, dz ++ [(e, [a' + (ks.length : Int), b'])], P2, ?_, fun c' o e => ?_⟩
            · have h := congrArg List.length ed
              rw [List.length_map, List.length_map, List.length_take, List.length_map] at h
              rw [List.length_map]
              exact small_ (by omega)
            · rw [ks_app, ed, List.take_add_one, kk, List.map_append, eq]
              rfl
            · rw [upd_ne (ne_of_none e nd)]
              exact se _ _ (sd _ _ e)
          rintro H8 ⟨dz, Td, ed, sd⟩
          rw [List.length_map, take_all, show Ks hz = _ from e7] at ed
          have s58 := s56.trans (s7.trans sd)
          refine ⟨_, rfl, told, rfl, ⟨_, SqL.of (s58 _ _ T5.li)⟩, fun D nD => ?_⟩
          refine lc_list (K := K) (a := told) (xs := ws.map fun q => V.ref q.1) (fun k H' => ∃ oz, TL H' D oz ∧ Ks oz = ((Ks ws).take k).filter (fun k => decide ((ks.length : Int) ≤ k.headD 0)) ∧ Same H8 H') ⟨[], ⟨upd_same, fun q hq => nomatch hq⟩, rfl, upd_same_as nD⟩ (fun k H' _ ⟨_, _, _, s⟩ => SqL.of (s _ _ (s58 _ _ T5.li))) ?_ ?_
          · rintro k z H' hz' ⟨oz, To, eo, so⟩
            obtain ⟨q0, hq0, rfl⟩ := ref_get hz'
            have qin := List.mem_of_getElem? hq0
            have ht := so _ _ (s58 _ _ (T5.tu q0 qin))
            obtain ⟨a', b', eq⟩ := wtwo q0 qin
            rw [eq] at ht
            refine ⟨rfl, _, rfl, q0.1, _, 0, .int a', rfl, rfl, SqT.of ht, at0 _ _, _, rfl, _, _, rfl, rfl, _, rfl, ?_⟩
            show if decide ((ks.length : Int) ≤ a') = true then _ else _
            have kk : (Ks ws)[k]? = some q0.2 := by rw [List.getElem?_map, hq0] <;> rfl
            have nf : ((Ks ws).take (k + 1)).filter (fun k => decide ((ks.length : Int) ≤ k.headD 0)) = _ := flt_next (f := fun k : List Int => decide ((ks.length : Int) ≤ k.headD 0)) kk
            have hf : decide ((ks.length : Int) ≤ q0.2.headD 0) = decide ((ks.length : Int) ≤ a') := by rw [eq] <;> rfl
            rw [hf] at nf
            refine lc_if (fun c2 => ?_) fun c2 => ?_
            · refine ⟨_, rfl, _, To.li, ?_, oz ++ [q0], tl_put To (so _ _ (s58 _ _ (T5.tu q0 qin))), ?_, fun c' o e => ?_⟩
              · have h := congrArg List.length eo
                rw [List.length_map] at h
                have h2 := List.length_filter_le (fun k : List Int => decide ((ks.length : Int) ≤ k.headD 0)) ((Ks ws).take k)
                rw [List.length_take, List.length_map] at h2
                rw [List.length_map]
                exact small_ (by omega)
              · rw [nf, c2, ks_app, eo]
                rfl
              · rw [upd_ne (ne_of_none e nD)]
                exact so _ _ e
            · refine ⟨oz, To, ?_, so⟩
              rw [nf, c2, eo]
              simp
          rintro H9 ⟨oz, To, eo, so⟩
          rw [List.length_map, take_all, show Ks ws = _ from e5, own_twoK (by omega) xhi] at eo
          exact rest d D H9 ⟨dz, oz, Td.same so, To, by rw [eo]; exact ed, s58.trans so⟩
      rintro d o H6 ⟨dz, oz, Td, To, eq, s6⟩
      refine ⟨_, rfl, _, rfl, _, _, Xt.dp_lis To.li To.tu, Xt.dp_lis Td.li Td.tu, Xt.lis_shaped _, Xt.lis_shaped _, _, rfl, iteE (c := false) (by rw [show dz.map (·.2) = Ks dz from rfl, eq, Xt.lis_eqv]; rfl) (iteF ?_)⟩
      have T6 := T5.same s6
      obtain ⟨W6, L6, M6, Lw6, htp6⟩ := all ((b4.trans (ButG.of s5)).trans (ButG.of s6))
      refine ⟨_, rfl, _, rfl, _, rfl, ?_⟩
      refine at_nil ?_
      refine where_few W6 Lw6 (by omega) (by omega) pcW T6 wnd wsub wasc wfew (fun k _ => few_hear W6 pcW false k) fun f2 fz H7 s7 n7 T7 e7 => ?_
      have ftwo : ∀ q ∈ fz, ∃ a b, q.2 = [a, b] := fun q hq => by
        have h : q.2 ∈ Ks fz := List.mem_map.mpr ⟨q, hq, rfl⟩
        rw [show Ks fz = _ from e7] at h
        obtain ⟨x, z, e, _⟩ := mem_grid (List.mem_filter.mp h).1
        exact ⟨_, _, e⟩
      have ffew : fz.length ≤ 100 := by
        have h := congrArg List.length e7
        rw [List.length_map] at h
        have h2 := List.length_filter_le (fun k => decide ((symN (hearK qs (ks ++ ms) false k) (Ks ws) : Int) ≤ 0)) (grid (ks ++ ms).length pl)
        have h3 := grid_len (ks ++ ms).length pl (by omega)
        omega
      have s47 : Same H4 H7 := s5.trans (s6.trans s7)
      have hts7 := s47 _ _ hts
      refine ⟨_, rfl, f2, rfl, ⟨_, SqL.of T7.li⟩, fun D nD => ?_⟩
      refine lc_list (K := K) (a := f2) (xs := fz.map fun q => V.ref q.1) (fun k H' => ∃ oz, TL H' D oz ∧ Ks oz = ((Ks fz).take k).filter (fun k => decide (decide (k.headD 0 < (ks.length : Int)) = decide (x < (ks.length : Int)))) ∧ Same H7 H') ⟨[], ⟨upd_same, fun q hq => nomatch hq⟩, rfl, upd_same_as nD⟩ (fun k H' _ ⟨_, _, _, s⟩ => SqL.of (s _ _ T7.li)) ?_ ?_
      · rintro k z H' hz' ⟨oz, To, eo, so⟩
        obtain ⟨q0, hq0, rfl⟩ := ref_get hz'
        have qin := List.mem_of_getElem? hq0
        have ht := so _ _ (T7.tu q0 qin)
        obtain ⟨a', b', eq⟩ := ftwo q0 qin
        rw [eq] at ht
        have ht2 := so _ _ hts7
        refine ⟨rfl, _, rfl, q0.1, _, 0, .int a', rfl, rfl, SqT.of ht, at0 _ _, _, rfl, _, _, rfl, rfl, _, rfl, ts, _, 0, .int x, rfl, rfl, SqT.of ht2, at0 _ _, _, rfl, _, _, rfl, rfl, ?_⟩
        refine ⟨rfl, _, rfl, ?_⟩
        show if decide (V.bl (decide (a' < (ks.length : Int))) = V.bl (decide (x < (ks.length : Int)))) = true then _ else _
        have kk : (Ks fz)[k]? = some q0.2 := by rw [List.getElem?_map, hq0] <;> rfl
        have nf : ((Ks fz).take (k + 1)).filter (fun k => decide (decide (k.headD 0 < (ks.length : Int)) = decide (x < (ks.length : Int)))) = _ := flt_next (f := fun k : List Int => decide (decide (k.headD 0 < (ks.length : Int)) = decide (x < (ks.length : Int)))) kk
        have hf : decide (decide (q0.2.headD 0 < (ks.length : Int)) = decide (x < (ks.length : Int))) = decide (V.bl (decide (a' < (ks.length : Int))) = V.bl (decide (x < (ks.length : Int)))) := by
          rw [eq]
          exact decide_eq_decide.mpr ⟨fun h => congrArg V.bl h, fun h => by injection h⟩
        rw [hf] at nf
        refine lc_if (fun c2 => ?_) fun c2 => ?_
        · refine ⟨_, rfl, _, To.li, ?_, oz ++ [q0], tl_put To (so _ _ (T7.tu q0 qin)), ?_, fun c' o e => ?_⟩
          · have h := congrArg List.length eo
            rw [List.length_map] at h
            have h2 := List.length_filter_le (fun k : List Int => decide (decide (k.headD 0 < (ks.length : Int)) = decide (x < (ks.length : Int)))) ((Ks fz).take k)
            rw [List.length_take, List.length_map] at h2
            rw [List.length_map]
            exact small_ (by omega)
          · rw [nf, c2, ks_app, eo]
            rfl
          · rw [upd_ne (ne_of_none e nD)]
            exact so _ _ e
        · refine ⟨oz, To, ?_, so⟩
          rw [nf, c2, eo]
          simp
      rintro H8 ⟨oz, To, eo, so⟩
      rw [List.length_map, take_all, show Ks fz = _ from e7, show Ks ws = _ from e5, near_oneK b1 good1 good2 hk] at eo
      refine ⟨_, rfl, _, rfl, ?_⟩
      refine ⟨(by show 1 ≤ sizeLine; decide), fun o2 no2 => ?_⟩
      have s89 := upd_same_as (o := .lst [V.ref ts]) no2
      have T9 : TL (upd H8 o2 (.lst [V.ref ts])) o2 [(ts, [x, y])] := ⟨upd_same, fun q hq => by
        rw [List.mem_singleton.mp hq]
        exact s89 _ _ (so _ _ hts7)⟩
      have To9 := To.same s89
      generalize upd H8 o2 (.lst [V.ref ts]) = H9 at s89 T9 To9 ⊢
      refine ⟨_, _, Xt.dp_lis To9.li To9.tu, Xt.dp_lis T9.li T9.tu, Xt.lis_shaped _, Xt.lis_shaped _, _, rfl, iteE (c := false) (by rw [show oz.map (·.2) = Ks oz from rfl, eo, show ([(ts, [x, y])] : List (Addr × List Int)).map (·.2) = [[x, y]] from rfl, Xt.lis_eqv]; rfl) (iteF ?_)⟩
      have s49 := s47.trans (so.trans s89)
      exact ⟨_, _, _, _, _, _, _, rfl, b4.trans (ButG.of s49), (G4.to (s49 g)).up (by omega)⟩
    · rintro σ H1 ⟨v7, v8, v9, v10, v11, v12, v13, rfl, b1', G1⟩
      exact q H1 ((ButG.of s0).trans b1') (G1.up (by omega))
end
end Kx
/-! The law's asking. -/
namespace Kx
open PySem PySem.Spec PyProof.Rows L2 Xa Xb Xc Xd Xs Xp Xm Xr Xl Xq Ya Yb Yc Yd Ye Yf Yr Zb Zd Zi Zl Zn
abbrev sRight : Stmt := top 62
section
variable {P : Program} {w : World} {K : PySem.W.Frag} {mg : Str → Option Value} {base : Heap} {f C CN CH CS CW CP : Addr} {fd : FuncData}
structure GoodK (P : Program) (w : World) (K : PySem.W.Frag) (mg : Str → Option Value) (base : Heap) (C : Addr) : Prop where
  at_ : ∃ (fF : Addr) (fdF : FuncData) (ds : List Value), FnOk P w K mg base (L2.CX P w) 8 fF fdF ["web", "plan", "needs", "ring"] (spGood C) ∧ mg "is_good" = some (.ref fF) ∧ PySem.W.keepIn K (.ref fF) = true ∧ Binds K fdF ["web", "plan", "needs", "ring"] ds ∧ Vals [V.bl false] ds
def spRight (C : Addr) : Sp := fun xs H Q _ => ∃ (g p l tp la nd u v : Addr) (pl n : Nat) (rc a b : Int) (qs ks ms : List (Addr × List Int)), xs = [.ref g, .ref p, .ref tp, .ref nd, .ref u, .ref v] ∧ Gen H g n ∧ n ≤ 2 ^ 39 ∧ WebQ C H p l pl rc qs ∧ l ≠ g ∧ 1 ≤ rc ∧ rc ≤ 2 ∧ Far rc (qs.map (·.2)) ∧ H tp = some (.tup [.int pl, .ref la]) ∧ H nd = some (.tup [.int a, .int b]) ∧ 1 ≤ a ∧ a ≤ 3 ∧ 0 ≤ b ∧ b ≤ 2 * a ∧
  LL H u ks ∧ LL H v ms ∧ u ≠ g ∧ v ≠ g ∧ (∀ q ∈ ks, q.1 ≠ g) ∧ (∀ q ∈ ms, q.1 ≠ g) ∧ 1 ≤ ks.length ∧ ks.length ≤ 9 ∧ 1 ≤ ms.length ∧ ms.length ≤ 9 ∧ (∀ q ∈ ks, Pc pl q.2) ∧ (∀ q ∈ ms, Pc pl q.2) ∧ GoodB (grid ks.length pl) (hearK qs ks false) a b ∧ GoodB (grid ms.length pl) (hearK qs ms false) a b ∧
  ∀ H', ButG g H H' → Gen H' g (n + 40) → Q (.bl true) H'
abbrev nRight : List Str := ["generator", "web", "parts", "needs", "one", "other", "told", "full", "later", "piece"]
theorem scRight : FnScope nRight ["generator", "web", "parts", "needs", "one", "other"] (defScope sRight) := ⟨rfl, rfl, rfl, by decide +kernel, rfl, by decide +kernel, by decide +kernel⟩
theorem can_right (D : Dfn K mg "_law_right" sRight) (B : Bi3 mg) (T : WTxt K mg C) (HF : FaultK P w K mg base C) (HG : GoodK P w K mg base C) (cS : CanG P w K mg base 1 "_law_straddles" ["told", "many", "reach"] spStrad) (cH : CanG P w K mg base 8 "_law_hearers_right" ["generator", "web", "parts", "one", "other"] (spHearR C))
    (cR : CanG P w K mg base 8 "_law_ring_right" ["web", "plan", "needs"] (spRingR C)) : CanG P w K mg base 9 "_law_right" ["generator", "web", "parts", "needs", "one", "other"] (spRight C) := by
  obtain ⟨f, fd, F, g1⟩ := D.at_
  obtain ⟨fF, fdF, ds, oF, gF, kF, _, bF, dF⟩ := HF
  obtain ⟨fG, fdG, ds2, oG, gG, kG, bG, dG⟩ := HG
  refine FnG.can (okG F scRight (fun xs H Q E h => ?_) (fun cdv A outer s H vs Q E hr hn h => ?_)) F g1 fun _ _ _ _ _ _ us hl => match us, hl with | [_, _, _, _, _, _], _ => rfl
  · obtain ⟨g, p, l, tp, la, nd, u, v, pl, n, rc, a, b, qs, ks, ms, rfl, _⟩ := h
    rfl
  · obtain ⟨g, p, l, tp, la, nd, u, v, pl, n, rc, a, b, qs, ks, ms, rfl, G, nn, W, lg, rc1, rc2, far, htp, hnd, a1, a3, b0, b1, L, M, ug, vg, kg, mg2, n1, n9, m1, m9, pcK, pcM, good1, good2, q⟩ := h
    have b1' := b1
    have h1 := hr.mono (show 1 ≤ 8 by decide)
    have h7 := hr.mono (show 7 ≤ 8 by decide)
    refine ⟨_, PSs.nox <| pss_cons (ps_set (i := 6) scRight.nd rfl (.inl rfl) <| pe_fnS (E := fun _ => E0) (dvs := [.bl false]) oF h7 rfl gF kF bF dF passAt0 (pa_cons (pv 1) <| pa_cons (pe_op op_cat (pv 4) (pv 5)) <| pa1 <| pv 3)) <|
      pss_cons (ps_if (PW.pt <| pw_and (pt_cmpR op_isNt (pv 6) pe_non (nomark _)) <| pw_and1 <| pt_not <| pt_val <| pe_canG cS h1 hn <| pa_cons (pv 6) <| pa_cons (pe_bi call_len_seq B.len <| pa1 <| pv 4) <| pa1 <| pe_fld (pv 1) rfl) (pss_one <| ps_ret pe_bl) pss_nil) <|
      pss_cons (ps_setLc (i := 7) (own := [("piece", 9)]) (g := gName 9) (tt := tYes) rfl scRight.nd rfl rfl (sw_true rfl rfl rfl (by decide +kernel)) (pi_range1 (by rfl) B.range <| pa1 <| pe_op op_add (pe_op op_mul pe_int (pe_fld (pv 1) rfl)) pe_int) (blkOk_by (own := [("piece", 9)]) (N := nRight) (sc := defScope sRight) (by decide +kernel))
        (fun _ _ _ _ _ => pg_name (i := 9) scRight.nd rfl (Or.inl rfl)) (fun _ _ _ _ _ => pts_nil) (fun _ _ _ _ _ => pe_listRg rfl (by rfl) B.list <| prg_1 (by rfl) B.range <| pe_ix (r := rIxT K) ix_tup (pv 2) pe_int (fun _ _ => rfl))) <|
      pss_cons (ps_if (pt_val <| pe_fnS (E := fun _ => E0) (dvs := [.bl false]) oG hr rfl gG kG bG dG passAt0 (pa_cons (pv 1) <| pa_cons (pv 7) <| pa1 <| pv 3))
        (pss_cons (ps_set (i := 8) scRight.nd rfl (.inl rfl) <| pe_fnS (E := fun _ => E0) (dvs := [.bl false]) oF h7 rfl gF kF bF dF passAt0 (pa_cons (pv 1) <| pa_cons (pe_op op_cat (pe_op op_cat (pv 4) (pv 7)) (pv 5)) <| pa1 <| pv 3)) <|
         pss_one <| ps_if (PW.pt <| pw_and (pt_cmpR op_isNt (pv 8) pe_non (nomark _)) <| pw_and1 <| pt_cmpR op_ne (pe_ix ix_tup (pv 8) pe_int (fun _ _ => rfl)) pe_str (nomark _)) (pss_one <| ps_ret pe_bl) pss_nil) pss_nil) <|
      pss_cons (ps_if (PW.pt <| pw_and (pt_cmpR op_gt (pe_ix ix_tup (pv 3) pe_int (fun _ _ => rfl)) pe_int (nomark _)) <| pw_and1 <| pt_not <| pt_val <| pe_canG cH hr hn <| pa_cons (pv 0) <| pa_cons (pv 1) <| pa_cons (pv 2) <| pa_cons (pv 4) <| pa1 <| pv 5) (pss_one <| ps_ret pe_bl) pss_nil) <|
      pss_one <| ps_ret <| pe_and (pe_canG cR hr hn <| pa_cons (pv 1) <| pa_cons (pv 4) <| pa1 <| pv 3) <| pe_one <| pe_canG cR hr hn <| pa_cons (pv 1) <| pa_cons (pv 5) <| pa1 <| pv 3, ?_⟩
    have at0 : ∀ (x y : V), atI [x, y] 0 = some x := fun x y => atI_nat (j := 0) rfl
    have at1 : ∀ (x y : V), atI [x, y] 1 = some y := fun x y => atI_nat (j := 1) rfl
    have wl : (ks ++ ms).length = ks.length + ms.length := List.length_append
    obtain ⟨xg, hxg⟩ := G.is
    have pp := W.pp
    have pcW : ∀ q ∈ ks ++ ms, Pc pl q.2 := fun q hq => (List.mem_append.mp hq).elim (pcK q) (pcM q)
    have all : ∀ {H' : Hp}, ButG g H H' → WebQ C H' p l pl rc qs ∧ LL H' u ks ∧ LL H' v ms ∧ H' tp = some (.tup [.int pl, .ref la]) ∧ H' nd = some (.tup [.int a, .int b]) := fun {H'} k => by
      have kt : ∀ {c : Addr} {o : HO}, H c = some o → (∀ xs, o ≠ .lst xs) → H' c = some o := fun {c o} e n => k c o e fun z => by
        rw [z, hxg] at e
        exact n _ (Option.some.inj e).symm
      obtain ⟨dx, ob⟩ := W.wb.ob
      exact ⟨⟨⟨⟨dx, kt ob (fun _ z => nomatch z)⟩, k _ _ W.wb.li lg, fun q hq => kt (W.wb.tu q hq) (fun _ z => nomatch z)⟩, W.lk, W.pp, W.few⟩, LL.butg L ug kg k, LL.butg M vg mg2 k, kt htp (fun _ z => nomatch z), kt hnd (fun _ z => nomatch z)⟩
    refine ⟨_, rfl, _, rfl, _, rfl, u, v, _, _, rfl, rfl, L.1, M.1, (by rw [List.length_map, List.length_map]; exact Nat.le_of_lt (small_ (by omega))), fun wA nw => ?_⟩
    refine ⟨_, rfl, ?_⟩
    refine at_nil ?_
    rw [← List.map_append]
    have sw := upd_same_as (o := .lst ((ks ++ ms).map fun q => V.ref q.1)) nw
    have Lw : LL (upd H wA (.lst ((ks ++ ms).map fun q => V.ref q.1))) wA (ks ++ ms) := ⟨upd_same, fun q hq => sw _ _ ((List.mem_append.mp hq).elim (L.2 q) (M.2 q))⟩
    generalize upd H wA (.lst ((ks ++ ms).map fun q => V.ref q.1)) = H0 at sw Lw ⊢
    obtain ⟨W0, L0, M0, htp0, hnd0⟩ := all (ButG.of sw)
    apply forkV (fun _ H1 => Same H H1)
    · intro rest
      refine ⟨p, l, wA, nd, pl, rc, a, b, qs, ks ++ ms, false, rfl, W0, rc1, rc2, Lw, by omega, by omega, pcW, hnd0, a1, a3, b0, b1, fun k _ => Nat.lt_of_le_of_lt (few_hear W0 pcW false k) (by decide), ⟨fun _ _ H1 s1 => ?_, fun k hk few t qa H1 s1 nt ht hq => ?_, fun _ x hx y hy lt nr few t qa qb H1 s1 nt ht hq hr2 => ?_⟩⟩
      · have s01 := sw.trans s1
        refine ⟨_, rfl, .inl rfl, rfl, _, rfl, ?_⟩
        refine iteF (iteF ?_)
        generalize (some V.non : Option V) = x6
        exact rest x6 H1 s01
      · exfalso
        have h1 := whole_few (ls := qs.map (·.2)) (p := ks.map (·.2)) (q := ms.map (·.2)) (pl := pl) (a := a) (b := b) (by rw [List.length_map]; exact good1) (by rw [List.length_map]; exact good2) k (by rw [← List.map_append, List.length_map]; exact hk)
        rw [← List.map_append, List.length_map] at h1
        omega
      · have s01 := sw.trans s1
        obtain ⟨x1, i, rfl, x0, xn, _⟩ := mem_grid hx
        obtain ⟨y1, j, rfl, y0, yn, _⟩ := mem_grid hy
        have h1 := whole_alike (ls := qs.map (·.2)) (p := ks.map (·.2)) (q := ms.map (·.2)) (pl := pl) (a := a) (b := b) (x := x1) (i := i) (y := y1) (j := j) (by rw [List.length_map]; exact good1) (by rw [List.length_map]; exact good2) (by rw [← List.map_append, List.length_map]; exact hx) (by rw [← List.map_append, List.length_map]; exact hy) lt (by rw [← List.map_append, List.length_map]; exact few)
        rw [List.length_map] at h1
        obtain ⟨W1, L1, M1, htp1, hnd1⟩ := all (ButG.of s01)
        obtain ⟨dx, ob⟩ := W1.wb.ob
        refine ⟨_, rfl, .inr ⟨t, rfl⟩, rfl, _, rfl, ?_⟩
        refine iteT ?_
        refine ⟨_, rfl, _, rfl, u, _, rfl, .inl (SqL.of L1.1), ?_⟩
        rw [List.length_map]
        refine ⟨_, rfl, p, C, dx, _, .int rc, rfl, ob, T.cl, T.nR, rfl, ?_⟩
        refine ⟨t, qa, qb, ks.length, rc, x1, i, y1, j, rfl, ht, hq, hr2, h1.1, h1.2, ?_, rc2, rc1, _, rfl, ?_⟩
        · obtain ⟨_, _, k, k1, k2, e⟩ := nr
          simp only [Bool.false_eq_true, if_false] at e
          omega
        refine iteF ?_
        generalize (some (V.ref t) : Option V) = x6
        exact rest x6 H1 s01
    intro v6 H1 s01
    obtain ⟨W1, L1, M1, htp1, hnd1⟩ := all (ButG.of s01)
    obtain ⟨dx, ob⟩ := W1.wb.ob
    refine ⟨_, rfl, p, C, dx, _, .int rc, rfl, ob, T.cl, T.nR, rfl, _, _, rfl, rfl, .inl ⟨by decide, by decide⟩, _, _, rfl, rfl, _, rfl, by omega, by omega, fun D nD => ?_⟩
    obtain ⟨rn, ern⟩ : ∃ rn : Nat, (rn : Int) = 4 * rc + 1 := ⟨(4 * rc + 1).toNat, by omega⟩
    rw [show ((4 : Int) * rc + 1) = (rn : Int) by omega]
    have p2 : pl ≤ 2 := by omega
    have rpc : Pc pl (rangeI pl) := by
      refine ⟨List.pairwise_map.mpr (List.pairwise_lt_range.imp fun h => by omega), fun z hz => ?_⟩
      obtain ⟨i, hi, rfl⟩ := List.mem_map.mp hz
      have := List.mem_range.mp hi
      omega
    have rgE : rgV 0 (pl : Int) = (rangeI pl).map V.int := by
      rw [rangeI, List.map_map]
      show (List.range ((pl : Int) - 0).toNat).map (fun i => V.int (0 + (i : Nat))) = _
      rw [show ((pl : Int) - 0).toNat = pl by omega]
      exact List.map_congr_left fun i _ => by show V.int (0 + (i : Int)) = V.int (i : Int); rw [Int.zero_add]
    refine lc_range (lo := 0) (n := rn) (fun j H' => ∃ kf, LL H' D kf ∧ Yf.New H1 D kf ∧ (∀ q ∈ kf, Pc pl q.2) ∧ kf.length = j ∧ Same H1 H') ⟨[], ⟨upd_same, fun q hq => nomatch hq⟩, New.nil, (fun q hq => nomatch hq), rfl, upd_same_as nD⟩ ?_ ?_
    · rintro j H' hj ⟨kf, L2, N2, pc2, l2, sm⟩
      refine ⟨rfl, lc_yes2 ⟨_, rfl, tp, _, 0, .int pl, rfl, rfl, SqT.of (sm _ _ htp1), at0 _ _, pl, rfl, RgOk.of_le (by omega) (by omega) (by omega) (by omega), fun e ne => ?_⟩⟩
      rw [rgE]
      obtain ⟨k1, k2, k3⟩ := ll_more (H3 := upd H' e (.lst ((rangeI pl).map V.int))) L2 N2 (fun c o e _ => sm c o e) (upd_same_as ne) ne upd_same
      refine ⟨_, k1, by rw [List.length_map]; exact small_ (by omega), kf ++ [(e, rangeI pl)], k2, k3, fun q hq => ?_, by rw [List.length_append, l2]; rfl, fun c o ec => ?_⟩
      · rcases List.mem_append.mp hq with hq | hq
        · exact pc2 q hq
        · rw [List.mem_singleton.mp hq]
          exact rpc
      · rw [upd_ne (ne_of_none ec nD)]
        exact upd_same_as ne _ _ (sm _ _ ec)
    rintro H2 ⟨kf, Lf, Nf, pcF, lf, s12⟩
    have s02 := s01.trans s12
    obtain ⟨W2, L2, M2, htp2, hnd2⟩ := all (ButG.of s02)
    apply forkV (fun _ H3 => Same H H3)
    · intro rest
      refine ⟨_, rfl, _, rfl, _, rfl, ?_⟩
      refine at_nil ?_
      refine ⟨p, l, D, nd, pl, rc, a, b, qs, kf, false, rfl, W2, rc1, rc2, Lf, by omega, by omega, pcF, hnd2, a1, a3, b0, b1, fun k _ => Nat.lt_of_le_of_lt (few_hear W2 pcF false k) (by decide), fun h1 h2 H3 s3 => ?_, fun H3 s3 => ?_⟩
      · refine ⟨_, rfl, iteT ?_⟩
        have s03 := s02.trans s3
        obtain ⟨W3, L3, M3, htp3, hnd3⟩ := all (ButG.of s03)
        have Lf3 := LL.same s3 Lf
        refine ⟨_, rfl, _, rfl, _, rfl, u, D, _, _, rfl, rfl, L3.1, Lf3.1, (by rw [List.length_map, List.length_map]; exact Nat.le_of_lt (small_ (by omega))), fun w1 nw1 => ?_⟩
        rw [← List.map_append]
        have sw1 := upd_same_as (o := .lst ((ks ++ kf).map fun q => V.ref q.1)) nw1
        have hw1 := upd_same (H := H3) (a := w1) (o := .lst ((ks ++ kf).map fun q => V.ref q.1))
        generalize upd H3 w1 (.lst ((ks ++ kf).map fun q => V.ref q.1)) = H4 at sw1 hw1 ⊢
        refine ⟨_, rfl, w1, v, _, _, rfl, rfl, hw1, sw1 _ _ M3.1, (by rw [List.length_map, List.length_map, List.length_append]; exact Nat.le_of_lt (small_ (by omega))), fun w2 nw2 => ?_⟩
        rw [← List.map_append]
        have sw2 := upd_same_as (o := .lst (((ks ++ kf) ++ ms).map fun q => V.ref q.1)) nw2
        have L5 : LL (upd H4 w2 (.lst (((ks ++ kf) ++ ms).map fun q => V.ref q.1))) w2 ((ks ++ kf) ++ ms) := ⟨upd_same, fun q hq => (List.mem_append.mp hq).elim (fun hq => (List.mem_append.mp hq).elim (fun h => sw2 _ _ (sw1 _ _ (L3.2 q h))) fun h => sw2 _ _ (sw1 _ _ (Lf3.2 q h))) fun h => sw2 _ _ (sw1 _ _ (M3.2 q h))⟩
        generalize upd H4 w2 (.lst (((ks ++ kf) ++ ms).map fun q => V.ref q.1)) = H5 at sw2 L5 ⊢
        have s05 := s03.trans (sw1.trans sw2)
        obtain ⟨W5, _, _, htp5, hnd5⟩ := all (ButG.of s05)
        have pcA : ∀ q ∈ (ks ++ kf) ++ ms, Pc pl q.2 := fun q hq => (List.mem_append.mp hq).elim (fun hq => (List.mem_append.mp hq).elim (pcK q) (pcF q)) (pcM q)
        have al : ((ks ++ kf) ++ ms).length = ks.length + kf.length + ms.length := by rw [List.length_append, List.length_append]
        have gw : GoodB (grid ((ks ++ kf) ++ ms).length pl) (hearK qs ((ks ++ kf) ++ ms) false) a 0 := whole_fewK (whole_fewK (GoodB.cnt good1.1) (GoodB.cnt h1)) (GoodB.cnt good2.1)
        refine ⟨_, rfl, ?_⟩
        refine at_nil ?_
        refine ⟨p, l, w2, nd, pl, rc, a, b, qs, (ks ++ kf) ++ ms, false, rfl, W5, rc1, rc2, L5, by omega, by omega, pcA, hnd5, a1, a3, b0, b1, fun k _ => Nat.lt_of_le_of_lt (few_hear W5 pcA false k) (by decide), ⟨fun _ _ H6 s6 => ?_, fun k hk few t qa H6 s6 nt ht hq => ?_, fun _ x hx y hy lt nr few t qa qb H6 s6 nt ht hq hr2 => ?_⟩⟩
        · refine ⟨_, rfl, .inl rfl, rfl, _, rfl, iteF (iteF ?_)⟩
          generalize (some V.non : Option V) = x8
          exact rest x8 H6 (s05.trans s6)
        · exfalso
          have h := gw.1 k hk
          have few : ((hearK qs ((ks ++ kf) ++ ms) false k).length : Int) < a := few
          omega
        · have c0 : atI [V.str "alike", .ref qa, .ref qb] 0 = some (.str "alike") := atI_nat (j := 0) rfl
          refine ⟨_, rfl, .inr ⟨t, rfl⟩, rfl, _, rfl, iteT ?_⟩
          refine ⟨_, rfl, t, _, 0, .str "alike", rfl, rfl, SqT.of ht, c0, rfl, _, rfl, ?_⟩
          show if (!decide (V.str "alike" = V.str "alike")) = true then _ else _
          rw [decide_eq_true rfl]
          refine iteF ?_
          generalize (some (V.ref t) : Option V) = x8
          exact rest x8 H6 (s05.trans s6)
      · refine ⟨_, rfl, iteF ?_⟩
        show tNext _ (List.set (List.set (List.set (_root_.L2.start nRight [V.ref g, V.ref p, V.ref tp, V.ref nd, V.ref u, V.ref v]) 6 v6) 7 (some (V.ref D))) 8 none) H3
        generalize (none : Option V) = x8
        exact rest x8 H3 (s02.trans s3)
    intro v8 H3 s03
    obtain ⟨W3, L3, M3, htp3, hnd3⟩ := all (ButG.of s03)
    have G3 := G.to (s03 g)
    refine ⟨_, rfl, nd, _, 1, .int b, rfl, rfl, SqT.of hnd3, at1 _ _, _, _, rfl, rfl, _, rfl, ?_⟩
    show if decide ((0 : Int) < b) = true then _ else _
    apply fork0 (fun H4 => ButG g H H4 ∧ Gen H4 g (n + 40))
    · intro rest
      refine lc_if (fun c => ?_) fun c => iteF ?_
      · refine ⟨_, rfl, _, rfl, _, rfl, _, rfl, _, rfl, ?_⟩
        refine ⟨g, p, l, tp, la, u, v, pl, n, rc, a, b, qs, ks, ms, rfl, G3, nn, W3, lg, htp3, L3, M3, ug, vg, kg, mg2, n1, n9, m1, m9, pcK, pcM, by have := of_decide_eq_true c; omega, good1, good2, fun H4 b4 G4 => ⟨_, rfl, iteF ?_⟩⟩
        exact rest H4 ⟨(ButG.of s03).trans b4, G4⟩
      · exact rest H3 ⟨ButG.of s03, G3.up (by omega)⟩
    rintro H4 ⟨b4, G4⟩
    obtain ⟨W4, L4, M4, htp4, hnd4⟩ := all b4
    refine ⟨_, rfl, _, rfl, _, rfl, p, l, u, nd, pl, rc, a, b, qs, ks, rfl, W4, rc1, rc2, far, L4, n1, n9, pcK, hnd4, a1, a3, b0, b1', good1, fun H5 s5 => ?_⟩
    obtain ⟨W5, L5, M5, htp5, hnd5⟩ := all (b4.trans (ButG.of s5))
    refine ⟨_, rfl, iteT ?_⟩
    refine ⟨_, rfl, _, rfl, _, rfl, p, l, v, nd, pl, rc, a, b, qs, ms, rfl, W5, rc1, rc2, far, M5, m1, m9, pcM, hnd5, a1, a3, b0, b1', good2, fun H6 s6 => ?_⟩
    have s46 := s5.trans s6
    exact q H6 (b4.trans (ButG.of s46)) (G4.to (s46 g))
end
end Kx
/-! The law. -/
namespace Kx
open PySem PySem.Spec PyProof.Rows L2 Xa Xb Xc Xd Xs Xp Xm Xr Xl Xq Ya Yb Yc Yd Ye Yf Yr Zb Zd Zi Zl Zn
abbrev sLaw : Stmt := top 63
section
variable {P : Program} {w : World} {K : PySem.W.Frag} {mg : Str → Option Value} {base : Heap} {f C : Addr} {fd : FuncData}
theorem hearL_perm {ls ls' : List (List Int)} (p : ls.Perm ls') (rg : Bool) (n : Int) (W : List (List Int)) (k : List Int) : hearL ls rg n W k = hearL ls' rg n W k := by
  unfold hearL
  exact List.filter_congr fun w _ => hrB_perm p rg n w k
theorem hearK_srt (ps ks : List (Addr × List Int)) (rg : Bool) : hearK (srt ps) ks rg = hearK ps ks rg := funext fun x => hearL_perm ((srt_perm ps).map _) rg _ _ x
/-- a good plan among those kept -/
structure Kept (gA go : Addr) (H : Hp) (pl : Nat) (ps : List (Addr × List Int)) (a b : Int) (z : Addr × List (Addr × List Int)) : Prop where
  L : LL H z.1 z.2
  ug : z.1 ≠ gA
  kg : ∀ q ∈ z.2, q.1 ≠ gA
  uo : z.1 ≠ go
  ko : ∀ q ∈ z.2, q.1 ≠ go
  n1 : 1 ≤ z.2.length
  n9 : z.2.length ≤ 9
  pc : ∀ q ∈ z.2, Pc pl q.2
  good : GoodB (grid z.2.length pl) (hearK ps z.2 false) a b
theorem Kept.to {gA go : Addr} {H H' : Hp} {pl : Nat} {ps : List (Addr × List Int)} {a b : Int} {z : Addr × List (Addr × List Int)} (k : Kept gA go H pl ps a b z) (s : ∀ c o, H c = some o → c ≠ gA → c ≠ go → H' c = some o) : Kept gA go H' pl ps a b z :=
  ⟨⟨s _ _ k.L.1 k.ug k.uo, fun q hq => s _ _ (k.L.2 q hq) (k.kg q hq) (k.ko q hq)⟩, k.ug, k.kg, k.uo, k.ko, k.n1, k.n9, k.pc, k.good⟩
theorem cut_mem {xs : List V} {y : V} (h : y ∈ cutV xs (some 1) (some 2)) : y ∈ xs ∧ 1 ≤ xs.length := by
  unfold cutV at h
  have h1 := List.mem_of_mem_drop (List.mem_of_mem_take h)
  exact ⟨h1, List.length_pos_of_mem h1⟩
theorem cut_len {xs : List V} : (cutV xs (some 1) (some 2)).length ≤ 1 := by
  unfold cutV
  rw [List.length_take]
  have h : HT.sIx xs.length xs.length (some 2) - HT.sIx xs.length 0 (some 1) ≤ 1 := by
    unfold HT.sIx
    dsimp only
    rw [if_neg (by decide), if_neg (by decide)]
    show min 2 xs.length - min 1 xs.length ≤ 1
    omega
  omega
structure LawF (P : Program) (w : World) (K : PySem.W.Frag) (mg : Str → Option Value) (base : Heap) (C : Addr) : Prop where
  gen : CanG P w K mg base 2 "_law_generator" ["script", "index"] (spGener K)
  rnd : CanG P w K mg base 2 "_law_random" ["generator", "bound"] spRandom
  par : CanG P w K mg base 3 "_law_web_parts" ["generator"] spParts
  nee : CanG P w K mg base 3 "_law_needs" ["generator"] spDrawNeeds
  goo : CanG P w K mg base 4 "_law_good_plan" ["generator", "parts", "many", "needs", "rounded"] spGoodP
  due : CanG P w K mg base 3 "_law_due_fault" ["parts", "plan", "needs", "rounded"] spDue
  rig : CanG P w K mg base 9 "_law_right" ["generator", "web", "parts", "needs", "one", "other"] (spRight C)
  mkx : ∃ (fI : Addr) (fdI : FuncData), Mk K C fI ∧ FnOk P w K mg base (L2.CX P w) 5 fI fdI ["self", "places", "hears"] (spWInit C) ∧ Binds K fdI ["self", "places", "hears"] []
def spLaw (K : PySem.W.Frag) : Sp := fun xs H Q _ => ∃ (a : Addr) (ns : List Int), xs = [.ref a] ∧ SqL K H a (ns.map V.int) ∧ ∀ H', Q (.bl true) H'
abbrev nLaw : List Str := ["script", "index", "generator", "parts", "web", "needs", "good", "turn", "many", "plan", "other"]
theorem scLaw : FnScope nLaw ["script"] (defScope sLaw) := ⟨rfl, rfl, rfl, by decide +kernel, rfl, by decide +kernel, by decide +kernel⟩
theorem fn_law (F : FnP K "law" sLaw f fd) (B : Bi3 mg) (T : WTxt K mg C) (LF : LawF P w K mg base C) : FnG P w K mg base 10 f fd ["script"] (spLaw K) := by
  obtain ⟨cG, cR, cW, cN, cO, cD, cT, ⟨fI, fdI, mI, oI, bI⟩⟩ := LF
  refine okG F scLaw (fun xs H Q E h => ?_) (fun cdv A outer s H vs Q E hr hn h => ?_)
  · obtain ⟨a, ns, rfl, _⟩ := h
    rfl
  · obtain ⟨sa, ns, rfl, hS, q⟩ := h
    have h2 := hr.mono (show 2 ≤ 9 by decide)
    have h3 := hr.mono (show 3 ≤ 9 by decide)
    have h4 := hr.mono (show 4 ≤ 9 by decide)
    have h6 := hr.mono (show 6 ≤ 9 by decide)
    refine ⟨_, PSs.nox <| pss_cons (ps_for PassesOwn.never rfl (pi_range1 (by rfl) B.range <| pa1 pe_int) (pg_name (i := 1) scLaw.nd rfl (.inl rfl)) <|
        pss_cons (ps_set (i := 2) scLaw.nd rfl (.inl rfl) <| pe_canG cG h2 hn <| pa_cons (pv 0) <| pa1 <| pv 1) <|
        pss_cons (ps_set (i := 3) scLaw.nd rfl (.inl rfl) <| pe_canG cW h3 hn <| pa1 <| pv 2) <|
        pss_cons (ps_par3 (i := 4) (j := 5) (l := 6) (by rfl) scLaw.nd rfl rfl rfl (by decide) (by decide) (by decide) rfl rfl rfl (pa_cons (pe_make (E := E0) mI oI h6 (by rfl) T.gl bI .nil pass00 <| pa_cons (pe_ix ix_tup (pv 3) pe_int (fun _ _ => rfl)) <| pa1 <| pe_ix ix_tup (pv 3) pe_int (fun _ _ => rfl)) <| pa_cons (pe_canG cN h3 hn <| pa1 <| pv 2) <| pa1 <| pe_lst pa_nil) (by rfl)) <|
        pss_cons (ps_for PassesOwn.never rfl (pi_range1 (by rfl) B.range <| pa1 pe_int) (pg_name (i := 7) scLaw.nd rfl (.inl rfl)) <|
          pss_cons (ps_set (i := 8) scLaw.nd rfl (.inl rfl) <| pe_op op_add pe_int <| pe_canG cR h2 hn <| pa_cons (pv 2) <| pa1 pe_int) <|
          pss_cons (ps_set (i := 9) scLaw.nd rfl (.inl rfl) <| pe_canG cO h4 hn <| pa_cons (pv 2) <| pa_cons (pv 3) <| pa_cons (pv 8) <| pa_cons (pv 5) <| pa1 pe_bl) <|
          pss_one <| ps_if (pt_cmpR op_isN (pe_canG cD h3 hn <| pa_cons (pv 3) <| pa_cons (pv 9) <| pa_cons (pv 5) <| pa1 pe_bl) pe_non (nomark _)) (pss_one <| ps_expr <| pe_bm PySem.F.plainAttrs_list PySem.F.slot_list_append PySem.F.type_list_append mt_append (pv 6) <| pa1 <| pv 9) pss_nil) <|
        pss_one <| ps_for PassesOwn.never rfl (pi_list <| pe_slice sl_list (pv 6) (po_some pe_int) (po_some pe_int)) (pg_name (i := 10) scLaw.nd rfl (.inl rfl)) <|
          pss_one <| ps_if (pt_not <| pt_val <| pe_canG cT hr hn <| pa_cons (pv 2) <| pa_cons (pv 4) <| pa_cons (pv 3) <| pa_cons (pv 5) <| pa_cons (pe_ix ix_list (pv 6) pe_int (fun _ _ => rfl)) <| pa1 <| pv 10) (pss_one <| ps_ret pe_bl) pss_nil) <|
      pss_one <| ps_ret pe_bl, ?_⟩
    have at0 : ∀ (x y : V), atI [x, y] 0 = some x := fun x y => atI_nat (j := 0) rfl
    have at1 : ∀ (x y : V), atI [x, y] 1 = some y := fun x y => atI_nat (j := 1) rfl
    refine ⟨_, rfl, by decide, by decide, for_range (lo := 0) (n := 5) (fun i σ H' => ∃ v1 v2 v3 v4 v5 v6 v7 v8 v9 v10 : Option V, σ = [some (.ref sa), v1, v2, v3, v4, v5, v6, v7, v8, v9, v10] ∧ Same H H')
      ⟨_, _, _, _, _, _, _, _, _, _, rfl, Same.refl _⟩ ?_ ?_⟩
    · rintro i σ H0 hi ⟨v1, v2, v3, v4, v5, v6, v7, v8, v9, v10, rfl, s0⟩
      have hi5 : i < 5 := hi
      refine ⟨_, rfl, _, rfl, sa, ns, i, (by rw [Int.zero_add]; rfl), by omega, s0.seq hS, fun gA H1 ng s1 G1 => ?_⟩
      refine ⟨_, rfl, gA, 1000 * i, rfl, G1, by omega, fun plI ps t a H2 p1 p2 L b2 G2 nt na ta htp hla tu nw => ?_⟩
      obtain ⟨pl, rfl⟩ : ∃ pl : Nat, plI = pl := ⟨plI.toNat, by omega⟩
      have pp : pl = 1 ∨ pl = 2 := by omega
      have p2n : pl ≤ 2 := by omega
      have few : ps.length ≤ 20 := by
        have := L.few
        rwa [List.length_map] at this
      have lk : ∀ q ∈ ps, Lnk pl q.2 := fun q hq => L.one q.2 (List.mem_map.mpr ⟨q, hq, rfl⟩)
      refine ⟨_, rfl, t, _, 0, .int pl, rfl, rfl, SqT.of htp, at0 _ _, _, rfl, t, _, 1, .ref a, rfl, rfl, SqT.of htp, at1 _ _, fun p dx np ndx ne => ?_⟩
      have s2m : Same H2 (upd (upd H2 dx (.own p)) p (.ins C dx [])) := fun c o e => by
        rw [upd_ne (ne_of_none e np), upd_ne (ne_of_none e ndx)]
        exact e
      refine ⟨p, dx, a, pl, ps, rfl, upd_same, pp.imp (fun e => by rw [e]; rfl) (fun e => by rw [e]; rfl), s2m _ _ hla, fun q hq => s2m _ _ (tu q hq), L, fun rc l H3 W3 R3 old nl => ⟨rfl, ?_⟩⟩
      have s3 : Same H2 H3 := fun c o e => old c o (s2m c o e) (ne_of_none e np)
      have lG : l ≠ gA := fun z => by
        obtain ⟨_, _, _, y, _⟩ := G2
        have y2 := s2m _ _ y
        rw [← z, nl] at y2
        cases y2
      have aG : a ≠ gA := fun z => by
        obtain ⟨_, _, _, y, _⟩ := G1
        rw [← z, na] at y
        cases y
      obtain ⟨g0, hg0⟩ : ∃ xs, H3 gA = some (.lst xs) := by
        obtain ⟨_, _, _, y, _⟩ := G2
        exact ⟨_, s3 _ _ y⟩
      have PQ : PartQ H3 t a pl ps := ⟨s3 _ _ htp, s3 _ _ hla, fun q hq => s3 _ _ (tu q hq), lk, pp, few⟩
      have WQ : WebQ C H3 p l pl rc (srt ps) := ⟨W3, fun q hq => lk q ((srt_perm ps).mem_iff.mp hq), pp, by rw [(srt_perm ps).length_eq]; exact few⟩
      have s03 : Same H0 H3 := fun c o e => s3 _ _ (b2 _ _ (s1 _ _ e) fun z => by
        rw [z, ng] at e
        cases e)
      have G3 : Gen H3 gA (1000 * i + 200) := G2.to (s3 gA)
      refine ⟨_, rfl, gA, _, rfl, G3, by omega, fun nd na1 nb1 H4 b34 G4 nnd hnd a1 a3 b0 b1 => ?_⟩
      refine ⟨(by show 0 ≤ sizeLine; decide), fun go ngo => ?_⟩
      refine at_nil ⟨_, _, _, rfl, ?_⟩
      have gog : go ≠ gA := G4.ne ngo
      have u4 := upd_same_as (o := .lst []) ngo
      have hgo := upd_same (H := H4) (a := go) (o := .lst [])
      have G5 := G4.to (u4 gA)
      have b45 : ButG gA H4 (upd H4 go (.lst [])) := ButG.of u4
      generalize upd H4 go (.lst []) = H5 at u4 hgo G5 b45 ⊢
      have all : ∀ {H' : Hp}, ButG gA H4 H' → PartQ H' t a pl ps ∧ WebQ C H' p l pl rc (srt ps) ∧ H' nd = some (.tup [.int na1, .int nb1]) := fun {H'} b9 => by
        have k := b34.trans b9
        have kt : ∀ {c : Addr} {o : HO}, H3 c = some o → (∀ xs, o ≠ .lst xs) → H' c = some o := fun {c o} e n => k c o e fun z => by
          rw [z, hg0] at e
          exact n _ (Option.some.inj e).symm
        refine ⟨⟨kt PQ.tp (fun _ z => nomatch z), k _ _ PQ.la aG, fun q hq => kt (PQ.tu q hq) (fun _ z => nomatch z), lk, pp, few⟩, ⟨⟨?_, k _ _ W3.li lG, fun q hq => kt (W3.tu q hq) (fun _ z => nomatch z)⟩, WQ.lk, pp, WQ.few⟩, b9 _ _ hnd (ne_of hnd G4.is.choose_spec (by intro z; cases z))⟩
        obtain ⟨dx2, ob⟩ := W3.ob
        exact ⟨dx2, kt ob (fun _ z => nomatch z)⟩
      refine ⟨_, rfl, by decide, by decide, for_range (lo := 0) (n := 4) (fun j σ H' => ∃ (v7 v8 v9 : Option V) (gs : List (Addr × List (Addr × List Int))), σ = [some (.ref sa), some (.int (0 + (i : Int))), some (.ref gA), some (.ref t), some (.ref p), some (.ref nd), some (.ref go), v7, v8, v9, v10] ∧
        H' go = some (.lst (gs.map fun z => V.ref z.1)) ∧ gs.length ≤ j ∧ (∀ z ∈ gs, Kept gA go H' pl ps na1 nb1 z) ∧ ButG gA H4 H' ∧ Gen H' gA (1000 * i + 212 + 300 * j)) ⟨_, _, _, [], rfl, hgo, Nat.le_refl _, (fun _ z => nomatch z), b45, G5⟩ ?_ ?_⟩
      · rintro j σ H6 hj ⟨v7, v8, v9, gs, rfl, hgo6, gl, kp, b6, G6⟩
        have hj : j < 4 := hj
        refine ⟨_, rfl, gA, 9, _, rfl, by decide, by decide, G6, by omega, fun r H7 r0 r1 G7 k7 => ⟨_, _, rfl, rfl, ?_⟩⟩
        obtain ⟨rn, rfl⟩ : ∃ rn : Nat, r = rn := ⟨r.toNat, by omega⟩
        have b7 := b6.trans (ButG.eq k7)
        obtain ⟨PQ7, W7, nd7⟩ := all b7
        have hgo7 := ButG.eq k7 _ _ hgo6 gog
        refine ⟨_, rfl, _, rfl, _, rfl, _, rfl, ?_⟩
        refine ⟨gA, t, a, nd, pl, 1 + rn, _, na1, nb1, ps, false, (by show [V.ref gA, V.ref t, V.int (1 + (rn : Int)), V.ref nd, V.bl false] = [V.ref gA, V.ref t, V.int ((1 + rn : Nat) : Int), V.ref nd, V.bl false]; rw [show (1 + (rn : Int)) = ((1 + rn : Nat) : Int) by omega]), G7, by omega, PQ7, aG, by omega, by omega, nd7, fun A ks H8 b8 G8 nA LA nks pcA lenA => ?_⟩
        have b78 := b7.trans b8
        obtain ⟨PQ8, W8, nd8⟩ := all b78
        have hgo8 := b8 _ _ hgo7 gog
        refine ⟨_, rfl, _, rfl, _, rfl, ?_⟩
        refine ⟨t, a, A, nd, pl, na1, nb1, ps, ks, false, rfl, PQ8, LA, by omega, by omega, pcA, nd8, fun gd H9 s9 => ?_, fun tt xs H9 s9 ntt htt => ?_⟩
        · refine ⟨rfl, _, rfl, iteT ?_⟩
          have hgo9 := s9 _ _ hgo8
          refine ⟨_, rfl, .inl ⟨rfl, _, SqL.of hgo9⟩, _, rfl, go, _, _, rfl, rfl, hgo9, (by rw [List.length_map]; exact small_ (by omega)), ?_⟩
          have nh : ∀ {c : Addr}, H7 c = none → c ≠ go := fun {c} e z => by
            rw [z, hgo7] at e
            cases e
          have up9 : ∀ c o, H9 c = some o → c ≠ go → (upd H9 go (.lst ((gs.map fun z => V.ref z.1) ++ [V.ref A]))) c = some o := fun c o e n => by
            rw [upd_ne n]
            exact e
          refine ⟨_, _, _, gs ++ [(A, ks)], rfl, by rw [upd_same, List.map_append] <;> rfl, (by rw [List.length_append]; show gs.length + 1 ≤ j + 1; omega), fun z hz => ?_, fun c o e n => up9 c o (s9 _ _ (b78 c o e n)) (ne_of_none e ngo), ((G8.to (s9 gA)).to fun o e => up9 gA o e (Ne.symm gog)).up (by omega)⟩
          rcases List.mem_append.mp hz with hz | hz
          · exact (kp z hz).to fun c o e n1 n2 => up9 c o (s9 _ _ (b8 _ _ (ButG.eq k7 _ _ e n1) n1)) n2
          · rw [List.mem_singleton.mp hz]
            have LA9 := LL.same s9 LA
            exact ⟨⟨up9 _ _ LA9.1 (nh nA), fun q hq => up9 _ _ (LA9.2 q hq) (nh (nks q hq))⟩, G7.ne nA, fun q hq => G7.ne (nks q hq), nh nA, fun q hq => nh (nks q hq), (by show 1 ≤ ks.length; omega), (by show ks.length ≤ 9; omega), pcA, gd⟩
        · refine ⟨rfl, _, rfl, iteF ?_⟩
          exact ⟨_, _, _, gs, rfl, s9 _ _ hgo8, by omega, fun z hz => (kp z hz).to fun c o e n1 n2 => s9 _ _ (b8 _ _ (ButG.eq k7 _ _ e n1) n1), b78.trans (ButG.of s9), (G8.to (s9 gA)).up (by omega)⟩
      rintro σ H6 ⟨v7, v8, v9, gs, rfl, hgo6, gl, kp, b6, G6⟩
      refine ⟨_, rfl, _, rfl, _, rfl, go, _, rfl, SqL.of hgo6, fun Lp nLp => ?_⟩
      have u6 := upd_same_as (o := .lst (cutV (gs.map fun z => V.ref z.1) (some 1) (some 2))) nLp
      have hLp := upd_same (H := H6) (a := Lp) (o := .lst (cutV (gs.map fun z => V.ref z.1) (some 1) (some 2)))
      have Lpg := G6.ne nLp
      have hgo7 := u6 _ _ hgo6
      have G7 := G6.to (u6 gA)
      have b7 := b6.trans (ButG.of u6)
      have kp7 : ∀ z ∈ gs, Kept gA go _ pl ps na1 nb1 z := fun z hz => (kp z hz).to fun c o e _ _ => u6 c o e
      generalize upd H6 Lp (.lst (cutV (gs.map fun z => V.ref z.1) (some 1) (some 2))) = H7 at u6 hLp hgo7 G7 b7 kp7 ⊢
      refine ⟨Lp, rfl, ⟨_, SqL.of hLp⟩, for_list (K := K) (a := Lp) (xs := cutV (gs.map fun z => V.ref z.1) (some 1) (some 2)) (fun k σ H' => ∃ v10 : Option V, σ = [some (.ref sa), some (.int (0 + (i : Int))), some (.ref gA), some (.ref t), some (.ref p), some (.ref nd), some (.ref go), v7, v8, v9, v10] ∧ ButG gA H7 H' ∧ Gen H' gA (1000 * i + 212 + 300 * 4 + 40 * k)) ⟨_, rfl, (fun _ _ e _ => e), G7⟩
        (fun k σ H' _ ⟨_, _, b, _⟩ => SqL.of (b _ _ hLp Lpg)) ?_ ?_⟩
      · rintro k y σ H8 hy ⟨v10, rfl, b8, G8⟩
        have kl := (List.getElem?_eq_some_iff.mp hy).1
        have k1 := cut_len (xs := gs.map fun z => V.ref z.1)
        obtain ⟨yin, g1⟩ := cut_mem (List.mem_of_getElem? hy)
        obtain ⟨z, hz, rfl⟩ := List.mem_map.mp yin
        rw [List.length_map] at g1
        obtain ⟨z0, hz0⟩ : ∃ z0, gs[0]? = some z0 := ⟨_, List.getElem?_eq_getElem (by omega)⟩
        have a0 : atI (gs.map fun z => V.ref z.1) 0 = some (.ref z0.1) := atI_nat (j := 0) (by rw [List.getElem?_map, hz0] <;> rfl)
        obtain ⟨PQ8, W8, nd8⟩ := all (b7.trans b8)
        have K0 := (kp7 z0 (List.mem_of_getElem? hz0)).to fun c o e n _ => b8 c o e n
        have K1 := (kp7 z hz).to fun c o e n _ => b8 c o e n
        refine ⟨_, rfl, _, rfl, _, rfl, _, rfl, _, rfl, go, _, 0, .ref z0.1, rfl, rfl, SqL.of (b8 _ _ hgo7 gog), a0, _, rfl, ?_⟩
        have gk := K0.good
        have gz := K1.good
        rw [← hearK_srt] at gk gz
        have rch : Reach rc (ps.map (·.2)) := R3
        have rc2 : rc ≤ 2 := by
          rcases rch.2.2 with h | ⟨l', hl', i', j', d', e', h⟩
          · omega
          · obtain ⟨q', hq', rfl⟩ := List.mem_map.mp hl'
            obtain ⟨i2, j2, d2, e2, _, _, _, _, d0, d1⟩ := lk q' hq'
            rw [e2] at e'
            injection e' with _ e'
            injection e' with _ e'
            injection e' with e' _
            subst e'
            omega
        refine ⟨gA, p, l, t, a, nd, z0.1, z.1, pl, _, rc, na1, nb1, srt ps, z0.2, z.2, rfl, G8, by omega, W8, lG, rch.1, rc2, fun l' hl' => rch.2.1 l' (((srt_perm ps).map _).mem_iff.mp hl'), PQ8.tp, nd8, a1, a3, b0, b1, K0.L, K1.L, K0.ug, K1.ug, K0.kg, K1.kg, K0.n1, K0.n9, K1.n1, K1.n9, K0.pc, K1.pc, gk, gz, fun H9 b9 G9 => ⟨_, rfl, iteF ?_⟩⟩
        exact ⟨_, rfl, b8.trans b9, G9.up (by omega)⟩
      rintro σ H8 ⟨v10, rfl, b8, G8⟩
      refine ⟨_, _, _, _, _, _, _, _, _, _, rfl, fun c o e => ?_⟩
      have cg : c ≠ gA := ne_of_none (s0 _ _ e) ng
      exact b8 _ _ (b7 _ _ (b34 _ _ (s03 _ _ (s0 _ _ e)) cg) cg) cg
    · rintro σ H1 ⟨v1, v2, v3, v4, v5, v6, v7, v8, v9, v10, rfl, s1⟩
      exact q H1
end
end Kx
/-! The facts joined. -/
namespace Kx
open PySem PySem.Spec PyProof.Rows L2 Xa Xb Xc Xd Xs Xp Xm Xr Xl Xq Xu Ya Yb Yc Yd Ye Yf Yj Yl Ym Yn Yo Za Zb Zd Zi Zl Zn
section
variable {P : Program} {w : World} {K : PySem.W.Frag} {mg : Str → Option Value} {base h : Heap}
theorem dfnAt (c : Says K h) (G : h.Ns mainGlobals mg) (i j : Nat) {x : Str} {st : Stmt} (hd : dfs[i]? = some (dTop x st) := by rfl) (hf : fas[j]? = some (.glo x) := by rfl) : Dfn K mg x st :=
  ⟨let ⟨fd, F⟩ := c.dd.def_ i hd; ⟨_, fd, F, He.glo_ok c.inn G (c.dd.fact j hf)⟩⟩
theorem gloAt (c : Says K h) (G : h.Ns mainGlobals mg) (j : Nat) {x : Str} (hf : fas[j]? = some (.glo x) := by rfl) : mg x = some (.ref (He.ga K x)) := He.glo_ok c.inn G (c.dd.fact j hf)
theorem freeAt (c : Says K h) (G : h.Ns mainGlobals mg) (j : Nat) {x : Str} (hf : fas[j]? = some (.free x) := by rfl) : mg x = none := He.free_ok c.inn G (c.dd.fact j hf)
theorem exA (e : exB K = true) (i : Nat) (hi : i < (exL K).length) {b : Bool} (hb : (exL K)[i]? = some b) : b = true := by
  have h := andL_at e i hi
  rw [hb] at h
  exact Option.some.inj h
theorem bi3 (c : Says K h) (G : h.Ns mainGlobals mg) : Bi3 mg := ⟨⟨⟨freeAt c G 56, freeAt c G 57, freeAt c G 58, freeAt c G 59⟩, freeAt c G 60, freeAt c G 61, freeAt c G 62, freeAt c G 63, freeAt c G 64, freeAt c G 65, freeAt c G 66, freeAt c G 67⟩, freeAt c G 68, freeAt c G 69, freeAt c G 70, freeAt c G 71⟩
theorem wbase (c : Says K h) (G : h.Ns mainGlobals mg) : WBase K mg "WatchError" := by
  have e := c.ex
  have e := exA e 0 (by show 0 < 13; decide) rfl
  obtain ⟨a1, c2⟩ := He.ba e
  obtain ⟨a2, a3⟩ := He.ba c2
  refine ⟨He.ga K "WatchError", .type "type", gloAt c G 0, a1, He.eqO_ok a2, ?_⟩
  split at a3
  · rename_i n q
    rw [q, beq_iff_eq.mp a3]
  · cases a3
theorem bindsX {x qual : Str} {params : Arguments} {body : List Stmt} {scope : Scope} {f : Addr} {fd : FuncData} {ps : List Str} (F : FunD K x qual params body scope [.non] [] f fd) (hn : ps.length = 2)
    (hb : ∀ (T : Addr) (kV doc pm : Value) (an : Option Addr) (cdv ct : Value) (us its : List Value), us.length = 2 → its.length = 1 →
      ∃ k, bindArgs (PySem.W.fnOf x qual params body scope (.ref T) kV doc pm an cdv ct) ⟨us, []⟩ = seqItems? (.ref T) >>= k ∧ k (some its.toArray) = pure (ps.zip (us ++ its.drop 1))) : Binds K fd ps [] := by
  obtain ⟨ds, r, b⟩ := F.binds1 (ps := ps) 2 1 (by simp) (by rw [hn] <;> rfl) hb
  cases r
  exact b
theorem scInvalidNumber : FnScope ["self", "value"] ["self", "value"] (defScope sXInvalidNumber) := ⟨rfl, rfl, rfl, by decide +kernel, rfl, by decide +kernel, by decide +kernel⟩
theorem makeInvalidNumber (c : Says K h) (G : h.Ns mainGlobals mg) : XMake P w K mg base "InvalidNumber" (He.ga K "InvalidNumber") "value" := by
  have e := c.ex
  have e1 := exA e 1 (by show 1 < 13; decide) rfl
  obtain ⟨a1, c2⟩ := He.ba e1
  obtain ⟨a2, a3⟩ := He.ba c2
  obtain ⟨fd, F⟩ := c.dd.def_ 0 (d := dMet "InvalidNumber" "__init__" "InvalidNumber.__init__" sXInvalidNumber [.non] []) rfl
  have T := xcls_ok a1
  exact ⟨T, gloAt c G 2, _, fd, He.eqO_ok a2, of_decide_eq_true a3, ok_xi (f := "value") F scInvalidNumber T (wbase c G) rfl rfl rfl (fun _ _ _ => ⟨_, rfl⟩) (by decide) (by decide), bindsX F rfl fun T kV doc pm an cdv ct us its h1 h2 => match us, its, h1, h2 with | [_, _], [_], _, _ => ⟨_, rfl, rfl⟩⟩
theorem scInvalidSpot : FnScope ["self", "value"] ["self", "value"] (defScope sXInvalidSpot) := ⟨rfl, rfl, rfl, by decide +kernel, rfl, by decide +kernel, by decide +kernel⟩
theorem makeInvalidSpot (c : Says K h) (G : h.Ns mainGlobals mg) : XMake P w K mg base "InvalidSpot" (He.ga K "InvalidSpot") "value" := by
  have e := c.ex
  have e1 := exA e 2 (by show 2 < 13; decide) rfl
  obtain ⟨a1, c2⟩ := He.ba e1
  obtain ⟨a2, a3⟩ := He.ba c2
  obtain ⟨fd, F⟩ := c.dd.def_ 1 (d := dMet "InvalidSpot" "__init__" "InvalidSpot.__init__" sXInvalidSpot [.non] []) rfl
  have T := xcls_ok a1
  exact ⟨T, gloAt c G 3, _, fd, He.eqO_ok a2, of_decide_eq_true a3, ok_xi (f := "value") F scInvalidSpot T (wbase c G) rfl rfl rfl (fun _ _ _ => ⟨_, rfl⟩) (by decide) (by decide), bindsX F rfl fun T kV doc pm an cdv ct us its h1 h2 => match us, its, h1, h2 with | [_, _], [_], _, _ => ⟨_, rfl, rfl⟩⟩
theorem scInvalidWeb : FnScope ["self", "value"] ["self", "value"] (defScope sXInvalidWeb) := ⟨rfl, rfl, rfl, by decide +kernel, rfl, by decide +kernel, by decide +kernel⟩
theorem makeInvalidWeb (c : Says K h) (G : h.Ns mainGlobals mg) : XMake P w K mg base "InvalidWeb" (He.ga K "InvalidWeb") "value" := by
  have e := c.ex
  have e1 := exA e 3 (by show 3 < 13; decide) rfl
  obtain ⟨a1, c2⟩ := He.ba e1
  obtain ⟨a2, a3⟩ := He.ba c2
  obtain ⟨fd, F⟩ := c.dd.def_ 2 (d := dMet "InvalidWeb" "__init__" "InvalidWeb.__init__" sXInvalidWeb [.non] []) rfl
  have T := xcls_ok a1
  exact ⟨T, gloAt c G 4, _, fd, He.eqO_ok a2, of_decide_eq_true a3, ok_xi (f := "value") F scInvalidWeb T (wbase c G) rfl rfl rfl (fun _ _ _ => ⟨_, rfl⟩) (by decide) (by decide), bindsX F rfl fun T kV doc pm an cdv ct us its h1 h2 => match us, its, h1, h2 with | [_, _], [_], _, _ => ⟨_, rfl, rfl⟩⟩
theorem scInvalidPlan : FnScope ["self", "value"] ["self", "value"] (defScope sXInvalidPlan) := ⟨rfl, rfl, rfl, by decide +kernel, rfl, by decide +kernel, by decide +kernel⟩
theorem makeInvalidPlan (c : Says K h) (G : h.Ns mainGlobals mg) : XMake P w K mg base "InvalidPlan" (He.ga K "InvalidPlan") "value" := by
  have e := c.ex
  have e1 := exA e 4 (by show 4 < 13; decide) rfl
  obtain ⟨a1, c2⟩ := He.ba e1
  obtain ⟨a2, a3⟩ := He.ba c2
  obtain ⟨fd, F⟩ := c.dd.def_ 3 (d := dMet "InvalidPlan" "__init__" "InvalidPlan.__init__" sXInvalidPlan [.non] []) rfl
  have T := xcls_ok a1
  exact ⟨T, gloAt c G 5, _, fd, He.eqO_ok a2, of_decide_eq_true a3, ok_xi (f := "value") F scInvalidPlan T (wbase c G) rfl rfl rfl (fun _ _ _ => ⟨_, rfl⟩) (by decide) (by decide), bindsX F rfl fun T kV doc pm an cdv ct us its h1 h2 => match us, its, h1, h2 with | [_, _], [_], _, _ => ⟨_, rfl, rfl⟩⟩
theorem scInvalidNeeds : FnScope ["self", "value"] ["self", "value"] (defScope sXInvalidNeeds) := ⟨rfl, rfl, rfl, by decide +kernel, rfl, by decide +kernel, by decide +kernel⟩
theorem makeInvalidNeeds (c : Says K h) (G : h.Ns mainGlobals mg) : XMake P w K mg base "InvalidNeeds" (He.ga K "InvalidNeeds") "value" := by
  have e := c.ex
  have e1 := exA e 5 (by show 5 < 13; decide) rfl
  obtain ⟨a1, c2⟩ := He.ba e1
  obtain ⟨a2, a3⟩ := He.ba c2
  obtain ⟨fd, F⟩ := c.dd.def_ 4 (d := dMet "InvalidNeeds" "__init__" "InvalidNeeds.__init__" sXInvalidNeeds [.non] []) rfl
  have T := xcls_ok a1
  exact ⟨T, gloAt c G 6, _, fd, He.eqO_ok a2, of_decide_eq_true a3, ok_xi (f := "value") F scInvalidNeeds T (wbase c G) rfl rfl rfl (fun _ _ _ => ⟨_, rfl⟩) (by decide) (by decide), bindsX F rfl fun T kV doc pm an cdv ct us its h1 h2 => match us, its, h1, h2 with | [_, _], [_], _, _ => ⟨_, rfl, rfl⟩⟩
theorem scInvalidHeard : FnScope ["self", "value"] ["self", "value"] (defScope sXInvalidHeard) := ⟨rfl, rfl, rfl, by decide +kernel, rfl, by decide +kernel, by decide +kernel⟩
theorem makeInvalidHeard (c : Says K h) (G : h.Ns mainGlobals mg) : XMake P w K mg base "InvalidHeard" (He.ga K "InvalidHeard") "value" := by
  have e := c.ex
  have e1 := exA e 6 (by show 6 < 13; decide) rfl
  obtain ⟨a1, c2⟩ := He.ba e1
  obtain ⟨a2, a3⟩ := He.ba c2
  obtain ⟨fd, F⟩ := c.dd.def_ 5 (d := dMet "InvalidHeard" "__init__" "InvalidHeard.__init__" sXInvalidHeard [.non] []) rfl
  have T := xcls_ok a1
  exact ⟨T, gloAt c G 7, _, fd, He.eqO_ok a2, of_decide_eq_true a3, ok_xi (f := "value") F scInvalidHeard T (wbase c G) rfl rfl rfl (fun _ _ _ => ⟨_, rfl⟩) (by decide) (by decide), bindsX F rfl fun T kV doc pm an cdv ct us its h1 h2 => match us, its, h1, h2 with | [_, _], [_], _, _ => ⟨_, rfl, rfl⟩⟩
theorem cWhole (c : Says K h) (G : h.Ns mainGlobals mg) : Can P w K mg base CX0 1 "is_whole" ["value"] (spWhole K) := can_whole (dfnAt c G 8 9) (bi3 c G).toBi2
theorem cBetween (c : Says K h) (G : h.Ns mainGlobals mg) : Can P w K mg base CX0 2 "is_between" ["value", "low", "high"] (spBetween K) := can_between (dfnAt c G 9 10) (cWhole c G)
theorem wTxt (c : Says K h) (G : h.Ns mainGlobals mg) : WTxt K mg (He.ga K "Web") := ⟨He.cls_ok (c.dd.fact 73 (f := .cls "Web") rfl), He.noat_ok (c.dd.fact 74 (f := .noat "Web" "places") rfl), He.noat_ok (c.dd.fact 75 (f := .noat "Web" "reach") rfl), He.noat_ok (c.dd.fact 76 (f := .noat "Web" "_hears") rfl), gloAt c G 8⟩
theorem wKd (c : Says K h) : WKind K (He.ga K "Web") := by
  have e := c.ex
  exact ⟨He.eqO_ok (exA e 8 (by show 8 < 13; decide) rfl), He.eqO_ok (exA e 9 (by show 9 < 13; decide) rfl), of_decide_eq_true (exA e 10 (by show 10 < 13; decide) rfl), of_decide_eq_true (exA e 11 (by show 11 < 13; decide) rfl), of_decide_eq_true (exA e 12 (by show 12 < 13; decide) rfl)⟩
theorem mkW (c : Says K h) (G : h.Ns mainGlobals mg) : ∃ (fI : Addr) (fdI : FuncData), Mk K (He.ga K "Web") fI ∧ FnOk P w K mg base (L2.CX P w) 5 fI fdI ["self", "places", "hears"] (spWInit (He.ga K "Web")) ∧ Binds K fdI ["self", "places", "hears"] [] := by
  have e := c.ex
  have B := (bi3 c G).toBi2
  have cI := can_isitem (dfnAt c G 15 16) B (cBetween (P := P) (w := w) (base := base) c G) (gloAt c G 1) (exA e 7 (by show 7 < 13; decide) rfl)
  obtain ⟨tm, gM⟩ := He.int_ok c.inn G (c.dd.fact 79 (f := .int "MOST_PLACES" 2) rfl)
  have cK := can_ckplaces (P := P) (w := w) (base := base) (dfnAt c G 11 12) gM (makeInvalidNumber c G) (cBetween c G)
  have c4 := can_items (dfnAt c G 16 17) B cI
  obtain ⟨fd2, F2⟩ := c.dd.def_ 6 (d := dMet "Web" "__init__" "Web.__init__" (inClass (top 21) 0) [] []) rfl
  exact ⟨_, fd2, He.mkr_ok (c.dd.fact 78 (f := .mkr "Web") rfl), ok_winit F2 (wTxt c G) B cK c4, F2.bindsN fun _ _ _ _ _ _ us hl => match us, hl with | [_, _, _], _ => rfl⟩
/-- what the functions of plans are made of -/
theorem pls (c : Says K h) (G : h.Ns mainGlobals mg) : Can P w K mg base (L2.CX P w) 6 "check_plan" ["web", "plan"] (spCkPlan K (He.ga K "Web") (He.ga K "InvalidWeb") (He.ga K "InvalidPlan")) ∧ Can P w K mg base CX0 6 "hearing" ["web", "plan", "ring"] (spHearing (He.ga K "Web")) ∧
    Can P w K mg base (L2.CX P w) 4 "check_spot" ["spot", "n", "places"] (spCkSpot K (He.ga K "InvalidSpot")) ∧ Can P w K mg base (L2.CX P w) 4 "check_ring" ["ring"] (spCkRing K (He.ga K "InvalidNumber")) ∧ Can P w K mg base CX0 3 "is_spot" ["value", "n", "places"] (spIsSpot K) := by
  have B3 := bi3 c G
  have B := B3.toBi2
  have T := wTxt c G
  have c1 := can_ckcount (dfnAt c G 12 13) (makeInvalidNumber (P := P) (w := w) (base := base) c G) (cWhole c G)
  have cS := can_isspot (dfnAt c G 10 11) B (cBetween (P := P) (w := w) (base := base) c G)
  have c2 := can_ckspot (dfnAt c G 13 14) (makeInvalidSpot c G) cS
  have c3 := can_ckring (dfnAt c G 14 15) B (makeInvalidNumber (P := P) (w := w) (base := base) c G)
  have cAs := can_ascends (P := P) (w := w) (base := base) (dfnAt c G 21 22) B3
  have cIp := can_ispiece (dfnAt c G 19 20) B3 (cBetween (P := P) (w := w) (base := base) c G) cAs
  have cA := can_arepieces (dfnAt c G 20 21) B3 cIp
  have cW := can_ckweb (dfnAt c G 17 18) B T (wKd c) (makeInvalidWeb (P := P) (w := w) (base := base) c G)
  have cP := can_isplan (dfnAt c G 18 19) B3 T cW cA
  have cCP := can_ckplan (dfnAt c G 25 26) (makeInvalidPlan (P := P) (w := w) (base := base) c G) cP
  obtain ⟨fd4, F4⟩ := c.dd.def_ 7 (d := dMet "Web" "audible" "Web.audible" (inClass (top 21) 2) [] [("ring", .bl false)]) rfl
  have A5 : AudK P w K mg base (He.ga K "Web") (He.ga K "InvalidNumber") (He.ga K "InvalidSpot") := ⟨_, fd4, He.meth_ok (c.dd.fact 77 (f := .meth "Web" "audible") rfl), ok_aud F4 T B c1 c2 c3, kb0 F4 3 ["ring"] fun kV doc pm an cdv ct us ws h1 h2 => match us, ws, h1, h2 with | [_, _, _], [_], _, _ => rfl⟩
  exact ⟨cCP, can_hearing (dfnAt c G 30 31) B3 T A5 (can_spots (dfnAt c G 29 30) B3) (can_watchers (dfnAt c G 28 29) B3), c2, c3, cS⟩
theorem hearW (c : Says K h) (G : h.Ns mainGlobals mg) : HearW P w K mg base (He.ga K "Web") (He.ga K "InvalidNumber") (He.ga K "InvalidHeard") (He.ga K "InvalidSpot") (He.ga K "InvalidWeb") (He.ga K "InvalidPlan") := by
  have B3 := bi3 c G
  have T := wTxt c G
  obtain ⟨cCP, cH, c2, c3, cS⟩ := pls (P := P) (w := w) (base := base) c G
  have cIW := can_iswtc (P := P) (w := w) (base := base) (dfnAt c G 23 24) B3 T cS
  have cAT := can_asct (P := P) (w := w) (base := base) (dfnAt c G 21 22) B3
  have cIH := can_isheard (dfnAt c G 24 25) B3 cIW cAT
  have cCH := can_ckheard (dfnAt c G 27 28) (makeInvalidHeard (P := P) (w := w) (base := base) c G) cIH
  obtain ⟨fd5, F5⟩ := c.dd.def_ 51 (d := dTopK "hearers" (top 27) [("ring", .bl false)]) rfl
  obtain ⟨ds, dA, bA⟩ := FunD.binds0 (ps := ["web", "plan", "spot", "ring"]) F5 3 (by simp [dTopK, He.DefD.kws]) rfl fun D doc pm an cdv ct us ks h1 h2 => match us, ks, h1, h2 with | [_, _, _], [_], _, _ => ⟨_, _, _, _, _, _, rfl, rfl, rfl⟩
  obtain ⟨fd6, F6⟩ := c.dd.def_ 54 (d := dTopK "where" (top 30) [("lies", .int 0), ("ring", .bl false)]) rfl
  obtain ⟨ds2, dA2, bA2⟩ := FunD.binds0 (ps := ["web", "plan", "heard", "lies", "ring"]) F6 3 (by simp [dTopK, He.DefD.kws]) rfl fun D doc pm an cdv ct us ks h1 h2 => match us, ks, h1, h2 with | [_, _, _], [_, _], _, _ => ⟨_, _, _, _, _, _, rfl, rfl, _, _, _, _, _, _, rfl, rfl, rfl⟩
  exact ⟨⟨_, fd5, ds, ok_hearers F5 B3 T cCP c2 c3 cH, gloAt c G 52, F5.kp, bA, dA⟩, ⟨_, fd6, ds2, ok_where F6 B3 (makeInvalidNumber (P := P) (w := w) (base := base) c G) cCP cCH (cBetween (P := P) (w := w) (base := base) c G) c3 cH, gloAt c G 55, F6.kp, bA2, dA2⟩⟩
theorem faultK (c : Says K h) (G : h.Ns mainGlobals mg) : FaultK P w K mg base (He.ga K "Web") ∧ GoodK P w K mg base (He.ga K "Web") := by
  have B3 := bi3 c G
  have B := B3.toBi2
  have T := wTxt c G
  obtain ⟨cCP, cH, c2, c3, cS⟩ := pls (P := P) (w := w) (base := base) c G
  have cIN := can_isneeds (dfnAt c G 22 23) B (cBetween (P := P) (w := w) (base := base) c G)
  have cCN := can_ckneeds (dfnAt c G 26 27) (makeInvalidNeeds (P := P) (w := w) (base := base) c G) cIN
  have cNP := can_nearp (P := P) (w := w) (base := base) (dfnAt c G 31 32) B3 (freeAt c G 72) T
  have cNQ := can_nearq (dfnAt c G 32 33) B3 T (can_spots (dfnAt c G 29 30) B3) cNP
  have cFF := can_first (P := P) (w := w) (base := base) (dfnAt c G 33 34) B3
  obtain ⟨fd5, F5⟩ := c.dd.def_ 52 (d := dTopK "fault" (top 28) [("ring", .bl false)]) rfl
  obtain ⟨ds, dA, bA⟩ := FunD.binds0 (ps := ["web", "plan", "needs", "ring"]) F5 3 (by simp [dTopK, He.DefD.kws]) rfl fun D doc pm an cdv ct us ks h1 h2 => match us, ks, h1, h2 with | [_, _, _], [_], _, _ => ⟨_, _, _, _, _, _, rfl, rfl, rfl⟩
  have oF := ok_fault F5 B3 cCP cCN c3 cH cNQ cFF
  have bF : KBn K fd5 ["web", "plan", "needs", "ring"] 3 ["ring"] (fun us ws => us ++ ws) (fun vs zs => vs ++ zs) := kb0 F5 3 ["ring"] fun kV doc pm an cdv ct us ws h1 h2 => match us, ws, h1, h2 with | [_, _, _], [_], _, _ => rfl
  obtain ⟨fd6, F6⟩ := c.dd.def_ 53 (d := dTopK "is_good" (top 29) [("ring", .bl false)]) rfl
  obtain ⟨ds2, dA2, bA2⟩ := FunD.binds0 (ps := ["web", "plan", "needs", "ring"]) F6 3 (by simp [dTopK, He.DefD.kws]) rfl fun D doc pm an cdv ct us ks h1 h2 => match us, ks, h1, h2 with | [_, _, _], [_], _, _ => ⟨_, _, _, _, _, _, rfl, rfl, rfl⟩
  exact ⟨⟨_, fd5, ds, oF, gloAt c G 53, F5.kp, bF, bA, dA⟩, ⟨_, fd6, ds2, ok_isgood F6 oF (gloAt c G 53) F5.kp bF, gloAt c G 54, F6.kp, bA2, dA2⟩⟩
theorem lawF (c : Says K h) (G : h.Ns mainGlobals mg) : LawF P w K mg base (He.ga K "Web") := by
  have B3 := bi3 c G
  have B := B3.toBi2
  have T := wTxt c G
  obtain ⟨fC, fdC, FC, gC⟩ := (dfnAt c G 34 35 : Dfn K mg "_law_cell" sCell).at_
  obtain ⟨fH, fdH, FH, gH⟩ := (dfnAt c G 35 36 : Dfn K mg "_law_hash" sHash).at_
  obtain ⟨fG, fdG, FG, gG⟩ := (dfnAt c G 36 37 : Dfn K mg "_law_generator" sGener).at_
  obtain ⟨fR, fdR, FR, gR⟩ := (dfnAt c G 37 38 : Dfn K mg "_law_random" sRandom).at_
  obtain ⟨fP, fdP, FP, gP⟩ := (dfnAt c G 38 39 : Dfn K mg "_law_web_parts" sParts).at_
  have cRn := FnG.can (P := P) (w := w) (base := base) (ok_random FR B.toBi FH gH) FR gR fun _ _ _ _ _ _ us hl => match us, hl with | [_, _], _ => rfl
  have cLH := can_lhear (dfnAt c G 41 42) B3 (can_lwatch (P := P) (w := w) (base := base) (dfnAt c G 40 41) B3) (can_heard (dfnAt c G 39 40) B)
  have cD := can_due (dfnAt c G 43 44) B3 cLH (can_unl (dfnAt c G 42 43) B3)
  obtain ⟨HF, HG⟩ := faultK (P := P) (w := w) (base := base) c G
  exact ⟨FnG.can (ok_gener FG B.toBi FC gC) FG gG fun _ _ _ _ _ _ us hl => match us, hl with | [_, _], _ => rfl, cRn,
    FnG.can (ok_parts FP B.toBi FR gR FH gH) FP gP fun _ _ _ _ _ _ us hl => match us, hl with | [_], _ => rfl,
    can_drawneeds (dfnAt c G 44 45) B3 cRn, can_goodp (dfnAt c G 45 46) B3 cRn cD, cD,
    can_right (dfnAt c G 49 50) B3 T HF HG (can_strad (dfnAt c G 46 47) B3) (can_hearr (dfnAt c G 47 48) B3 (hearW c G) cRn) (can_ringr (dfnAt c G 48 49) B3 T HF), mkW c G⟩
end
end Kx
open PySem PySem.W PySem.Calls PyProof.Rows
theorem PySem.Challenge.cw_hearunlike_k28_whole_plans_behind_one_an_holds : PySem.Challenge.rw_hearunlike_k28_whole_plans_behind_one_an.Holds := by
  w_on; o_law
  refine HandSHeadRun.head_any (r := Kx.RR) (q := view Kx.RR.prog [63]) (H := Kx.hkX) (ob := Kx.obX) (M := 14000) (loose := Kx.loose) (d := HandSHeadRun.topDef Kx.RR.prog 63) (kwd := []) Kx.obX_eq
    (by kernel_rfl) (fun s => by kernel_rfl) Kx.runX (by kernel_rfl) (by kernel_rfl) (by kernel_rfl) (by rfl) (by first | assumption | decide +kernel) (by decide +kernel) ⟨rfl, rfl, rfl, rfl, rfl, by decide +kernel⟩ ?hw ?hc
  case hw => w_witness2
  case hc =>
    refine Xh.walkG (l := PySem.Challenge.rw_hearunlike_k28_whole_plans_behind_one_an) (n := 63) (k := 10) (x := "script") rfl (by decide) (by kernel_rfl) ⟨rfl, by decide, by decide⟩ rfl ?F
    intro w mg fa h Y G hmg0
    obtain ⟨K, c⟩ := Y
    have hmg : mg ("law" : PySem.Str) = some (.ref fa) := by
      have e : (HandSHeadRun.topDef Kx.RR.prog 63).name = ("law" : PySem.Str) := by kernel_rfl
      rw [← e]
      exact hmg0
    obtain ⟨fd, F⟩ := c.dd.def_ 50 (d := Kx.dTop "law" Kx.sLaw) rfl
    have e := hmg.symm.trans (Kx.gloAt c G 51)
    cases e
    have b := L2.FunD.bindsA (ps := ["script"]) F fun _ _ _ _ _ _ us hl => match us, hl with | [_], _ => rfl
    exact ⟨K, fd, Kx.spLaw K, c.inn, fun s v => b s [v] rfl, fun H a ns hS => ⟨a, ns, rfl, hS, fun _ => rfl⟩, fun base => Kx.fn_law F (Kx.bi3 c G) (Kx.wTxt c G) (Kx.lawF c G)⟩
