import PyProof.Rows.All
import Wide.All
import OpenK.AllK
import Wide.FinOn
import PyProof.ReprRoads
import HandS.ForMost
import HandS.Exc
import HandS.ExcOwn
import HandS.ExcInit
import HandS.ExcIs
import HandS.ExcField
import HandS.IsInst
import HandS.Defaults
import HandS.WordsExc
import KE.KExcIs
import HandS.TryOnly
import HandS.HeadHook4
import HandS.ExcValue
import HandS.TupSets
import HandS.Strs
import KE.SortData
import HandS.MakeKw
import HandS.Ends
import HandS.HeadEnd
import HandS.Wide
import HandS.WideBits
import PyProof.FitsInt
import PyProof.ReprLen
import HandS.OwnEq
import HandS.More
import PyProof.EqKinds
import PyProof.InstNe
import PyProof.FactsAll.dict
import PyProof.FactsAll.list
import HandS.ReplaceLit
import HandS.ReplaceDef
import PyProof.Draws
import PyProof.WalksEnum
import PyProof.EnumMake
import HandS.Walk
import HandS.Style
import HandS.Codes
import HandS.Deep
import Lean
import HandS.Head0
import HandS.Head1
import HandS.Head2
import HandS.HeadHook1
import HandS.HeadHook2
import PySem.Challenge.RW_hearunlike_k10_webs_made
set_option Elab.async false
set_option linter.all false
set_option maxRecDepth 100000
set_option maxHeartbeats 0
/-! Own ground, part A: defs that know that no repr is under way; repr of data. -/
namespace Xa
open PySem PySem.Spec PyProof.Rows L2

/-! ### no repr is under way -/
def NoRep (A : Around) : Prop := A.guards = some []
theorem NoRep.deeper {A : Around} (n : NoRep A) (en : Env) : NoRep (A.deeper en) := n

/-- a def's promise where no repr is under way and nothing leaves it -/
structure FnG (P : Program) (w : World) (K : PySem.W.Frag) (mg : Str → Option Value) (base : Heap) (lev : Nat) (at_ : Addr) (fd : FuncData) (ps : List Str) (pr : Sp) : Prop where
  size : ∀ xs H Q E, pr xs H Q E → xs.length = ps.length
  go : ∀ (A : Around) (out : List Env) (st : Shared) (H : Hp) (ar : Args) (us : List Value) (xs : List V) (Q : VK) (E : XK), Room lev A → NoRep A →
    Env0 P w K mg base A out st H → BindsTo st fd ar (ps.zip us) → Vals xs us → pr xs H Q E → codeAny (model P w) A (.call (.ref at_) ar) (CR CX0 out P w H st Q E) st

section
variable {P : Program} {w : World} {K : PySem.W.Frag} {mg : Str → Option Value} {base : Heap} {x qual : Str} {params : Arguments} {body : List Stmt} {scope : Scope} {dvs : List V} {kws : List (Str × V)} {at_ : Addr} {fd : FuncData}
theorem okG {N ps : List Str} {lev : Nat} {pr : Sp} (F : FunD K x qual params body scope dvs kws at_ fd) (S : FnScope N ps scope) (size : ∀ xs H Q E, pr xs H Q E → xs.length = ps.length)
    (hb : ∀ (cdv : Value) (A : Around) (out : List Env) (st : Shared) (H : Hp) (xs : List V) (Q : VK) (E : XK), Room lev (A.deeper (envOfC qual scope st.heap.objs.size at_ cdv)) → NoRep (A.deeper (envOfC qual scope st.heap.objs.size at_ cdv)) → pr xs H Q E →
      ∃ t, PSs (cxOf CX0 P w K mg base N qual scope at_ cdv A out st H E).nox body t ∧ t { nx := fun _ H' => Q .non H', rt := Q } (start N xs) H) : FnG P w K mg base (lev + 1) at_ fd ps pr := by
  obtain ⟨oc, od, dV, kV, doc, pm, an, cdv, ct, osl, rfl, lk, hcd, _, _⟩ := F.ex
  refine ⟨size, fun A out st H ar us xs Q E hr hn e0 bnd rel hp => ?_⟩
  have sz := size _ _ _ _ hp
  have inK : K.In st.heap := e0.mod.kin.keeps fun b o z => (e0.bs b o z).1
  have noLim : st.heap.NoLimit := e0.mod.nolimit.keeps fun b o z => (e0.bs b o z).1
  refine codeAny_call_function hr.depth (inK _ _ lk) rfl S.co S.gen rfl (PySem.W.codeRec_of inK hcd) (bnd _ _ _ _ ?_)
  refine wpAny_newFunctionEnv_cells S.kind (fun ⟨n, v⟩ hy => ?_) fun env he s1 ic => ?_
  · exact (S.par n (List.of_mem_zip hy).1).elim .inl fun z => .inr ⟨z, PySem.W.cellsFrom_some _ _ _ (.inl z)⟩
  subst he
  refine ⟨noLim.keeps ic.toInCall.keep, codeAny_func ?_⟩
  obtain ⟨t, ht, hq⟩ := hb cdv A out st H xs Q E (hr.deeper _) (hn.deeper _) hp
  have I : Inv (cxOf CX0 P w K mg base N qual scope at_ cdv A out st H E) [] (start N xs) H s1 := inv_start S hr.hd e0 sz rel ic
  refine wpAny_mono (ht.nox.run [] s1 (start N xs) H _ I hq) (fun fl s2 hs => ?_) fun e s2 hs => hs
  cases fl with
  | ret u => exact let ⟨v, _, H', J, rv, q⟩ := hs; ⟨v, H', J.os, J.bare, J.base, J.hok, rv, q⟩
  | next => exact let ⟨_, H', J, q⟩ := hs; ⟨V.non, H', J.os, J.bare, J.base, J.hok, rfl, q⟩
  | brk => exact let ⟨_, _, _, q⟩ := hs; False.elim q
  | cont => exact let ⟨_, _, _, q⟩ := hs; False.elim q
theorem FnG.up {ps : List Str} {i j : Nat} {pr : Sp} (G : FnG P w K mg base i at_ fd ps pr) (h : i ≤ j) : FnG P w K mg base j at_ fd ps pr :=
  ⟨G.size, fun A out st H ar us xs Q E hr => G.go A out st H ar us xs Q E (hr.mono h)⟩
end

section
variable {X : Cx} {lev : Nat} {at_ : Addr} {fd : FuncData} {ps : List Str} {pr : Sp} {x : Str} {p pos : Pos} {e : Expr} {es : List Expr} {ta : TA}
theorem run_G {pins : List (Addr × Obj)} {σ : L2.St} {H : Hp} {st : Shared} {Q : VK} {us : List Value} {xs : List V} (G : FnG X.prog X.w X.K X.mg X.base lev at_ fd ps pr) (hr : Room lev X.A) (hn : NoRep X.A) (hb : Binds X.K fd ps [])
    (I : Inv X pins σ H st) (rel : Vals xs us) (hp : pr xs H Q E0) : wpAny (model X.prog X.w) X.A (call (.ref at_) us) (EP X pins σ Q) X.xe st := by
  have sz : us.length = ps.length := by rw [← rel.length]; exact G.size _ _ _ _ hp
  have bnd := hb st us I.kIn (by rw [List.append_nil]; exact sz)
  rw [List.append_nil] at bnd
  refine wpAny_call (codeAny_mono (G.go X.A X.stack st H ⟨us, []⟩ us xs Q E0 hr hn I.env0 bnd rel hp) fun r s2 hq => ?_)
  cases r with
  | error er => exact False.elim hq
  | ok fl =>
    cases fl with
    | ret u => exact I.after hq
    | next => exact False.elim hq
    | brk => exact False.elim hq
    | cont => exact False.elim hq
/-- f(e, ..) of such a def -/
theorem pe_callG (G : FnG X.prog X.w X.K X.mg X.base lev at_ fd ps pr) (hr : Room lev X.A) (hn : NoRep X.A) (hg : Gl X x) (hm : X.mg x = some (.ref at_)) (kp : PySem.W.keepIn X.K (.ref at_) = true) (hb : Binds X.K fd ps [])
    (ha : PA X (e :: es) ta) (hdb : (x == ("__debug__" : Str)) = false := by decide) (he : starEach (e :: es) X.env = (false, eval e X.env) :: starEach es X.env := by rfl)
    (hpl : (backTo pos (starEach es X.env)).any (·.1) = false := by rfl) : PE X (.Call (.Name x p) (e :: es) [] pos) (tCall pr [] E0 ta) := by
  refine ⟨fun pins st σ H Q I h => wpAny_Call_Name_kw (ld_glob I hg hm ?_ hdb)⟩
  refine PySem.W.callWith_K (h₀ := X.base) I.ok.mod.kin kp (thn (ha.run pos pins st σ H _ I h) fun us s1 ⟨xs, H1, I1, rel, q⟩ => ⟨I1.kIn, ?_⟩) he hpl
  exact run_G G hr hn hb I1 rel (by rw [← List.append_nil xs]; exact q)
theorem pe_callG0 (G : FnG X.prog X.w X.K X.mg X.base lev at_ fd ps pr) (hr : Room lev X.A) (hn : NoRep X.A) (hg : Gl X x) (hm : X.mg x = some (.ref at_)) (kp : PySem.W.keepIn X.K (.ref at_) = true) (hb : Binds X.K fd ps [])
    (hdb : (x == ("__debug__" : Str)) = false := by decide) : PE X (.Call (.Name x p) [] [] pos) (tCall pr [] E0 tNil) := by
  refine ⟨fun pins st σ H Q I h => wpAny_Call_Name_kw (ld_glob I hg hm ?_ hdb)⟩
  exact PySem.W.callWith_K0 I.kIn kp (run_G (us := []) (xs := []) G hr hn hb I .nil h)
end

/-! ### repr of data -/
mutual
/-- v is the datum d, met through the lists at ls: as Dp, and dicts with int and text keys -/
inductive Dq (K : PySem.W.Frag) (H : Hp) : V → PyData → List Addr → Prop
  | non : Dq K H .non .none []
  | bl (b : Bool) : Dq K H (.bl b) (.bool b) []
  | int (i : Int) : Dq K H (.int i) (.int i) []
  | str (z : Str) : Dq K H (.str z) (.str z) []
  | lst {a : Addr} {xs : List V} {ds : List PyData} {ls : List Addr} : SqL K H a xs → Dqs K H xs ds ls → Dq K H (.ref a) (.list ds) (a :: ls)
  | tup {a : Addr} {xs : List V} {ds : List PyData} {ls : List Addr} : SqT K H a xs → Dqs K H xs ds ls → Dq K H (.ref a) (.tuple ds) ls
  | dic {a : Addr} {kvs : List (Key × V)} {ds : List (PyData × PyData)} {l1 l2 : List Addr} : H a = some (.dK kvs) → Dqs K H (kvs.map fun p => kV p.1) (ds.map (·.1)) l1 → Dqs K H (kvs.map (·.2)) (ds.map (·.2)) l2 → Dq K H (.ref a) (.dict ds) (l1 ++ l2)
inductive Dqs (K : PySem.W.Frag) (H : Hp) : List V → List PyData → List Addr → Prop
  | nil : Dqs K H [] [] []
  | cons {v : V} {vs : List V} {d : PyData} {ds : List PyData} {l1 l2 : List Addr} : Dq K H v d l1 → Dqs K H vs ds l2 → Dqs K H (v :: vs) (d :: ds) (l1 ++ l2)
end
theorem kv_vals : ∀ {kvs : List (Key × V)} {us : List (Key × Value)} {P : Program} {w : World} {es : List DictEntry}, KV kvs us → Pairs (mixKind P w) es us → Vals (kvs.map (·.2)) (es.map (·.val)) ∧ Vals (kvs.map fun p => kV p.1) (es.map (·.key))
  | [], _, _, _, _, .nil, .nil => ⟨.nil, .nil⟩
  | (k, v) :: r, _, _, _, _, .cons (b := (k', u)) h t, .cons (e := e) he hv q => by
    obtain ⟨r1, r2⟩ := kv_vals t q
    obtain ⟨e1, e2⟩ := h
    have e1' : k = k' := e1
    subst e1'
    refine ⟨.cons (show RelV v e.val from by rw [hv]; exact e2) r1, .cons ?_ r2⟩
    rcases keyIs_shape (show keyIs k e.key = true from he) with ⟨i, t, rfl, z⟩ | ⟨x, t, rfl, z⟩
    · exact ⟨t, z⟩
    · exact ⟨t, z⟩
section
variable {X : Cx} {pins : List (Addr × Obj)} {σ : L2.St} {H : Hp} {st : Shared}
/-- what stands behind such a datum, as the library reads it -/
def Sees (h : Heap) (u : Value) (d : PyData) (ls : List Addr) : Prop := ∃ as, Reads h u d as ∧ ∀ a ∈ as, a ∈ ls ∨ (a == sysModules) = false
def SeesAll (h : Heap) (us : List Value) (ds : List PyData) (ls : List Addr) : Prop := ∃ as, ReadsAll h us ds as ∧ ∀ a ∈ as, a ∈ ls ∨ (a == sysModules) = false
mutual
theorem Dq.sees (I : Inv X pins σ H st) : ∀ (v : V) (d : PyData) (ls : List Addr) (u : Value), Dq X.K H v d ls → RelV v u → Sees st.heap u d ls
  | _, _, _, _, .non, r => by
    cases r
    exact ⟨_, .none, fun _ z => nomatch z⟩
  | _, _, _, _, .bl b, r => by
    cases r
    exact ⟨_, .bool b, fun _ z => nomatch z⟩
  | _, _, _, _, .int i, r => by
    obtain ⟨t, rfl⟩ := r
    exact ⟨_, .int i t, fun _ z => nomatch z⟩
  | _, _, _, _, .str z, r => by
    obtain ⟨t, rfl⟩ := r
    exact ⟨_, .str z t, fun _ z => nomatch z⟩
  | _, _, _, _, .lst (a := a) hq hs, r => by
    obtain rfl := (show _ = Value.ref a from r)
    obtain ⟨its, rv, ⟨o, n, ho, hc, _, hd⟩, _⟩ := I.list hq
    obtain ⟨as, ra, ha⟩ := Dqs.sees I _ _ _ _ hs rv
    exact ⟨_, .list ho hc hd ra, fun b hb => (List.mem_cons.mp hb).elim (fun z => .inl (z ▸ List.mem_cons_self)) fun z => (ha b z).imp (List.mem_cons_of_mem _) id⟩
  | _, _, _, _, .tup (a := a) hq hs, r => by
    obtain rfl := (show _ = Value.ref a from r)
    obtain ⟨its, rv, ⟨o, ho, hc, n, hd⟩, _⟩ := I.tuple hq
    obtain ⟨as, ra, ha⟩ := Dqs.sees I _ _ _ _ hs rv
    exact ⟨_, .tuple ho hc hd ra, ha⟩
  | _, _, _, _, .dic (a := a) (kvs := kvs) ha hk hv, r => by
    obtain rfl := (show _ = Value.ref a from r)
    obtain ⟨_, hm, us, kv, o, es, ep, ho, hx, hd, _, hp, _⟩ := (show ObjOk X.prog X.w H st.heap a (.dK kvs) from I.hok a _ ha)
    obtain ⟨rv, rk⟩ := kv_vals kv hp
    obtain ⟨as, r1, h1⟩ := Dqs.sees I _ _ _ _ hk rk
    obtain ⟨bs, r2, h2⟩ := Dqs.sees I _ _ _ _ hv rv
    refine ⟨_, .dict ho hx.1 hd r1 r2, fun b hb => ?_⟩
    rcases List.mem_append.mp hb with hb | hb
    · rcases List.mem_cons.mp hb with rfl | hb
      · exact .inr hm
      · exact (h1 b hb).imp (List.mem_append_left _) id
    · exact (h2 b hb).imp (List.mem_append_right _) id
theorem Dqs.sees (I : Inv X pins σ H st) : ∀ (vs : List V) (ds : List PyData) (ls : List Addr) (us : List Value), Dqs X.K H vs ds ls → Vals vs us → SeesAll st.heap us ds ls
  | _, _, _, _, .nil, .nil => ⟨_, .nil, fun _ z => nomatch z⟩
  | _, _, _, _, .cons h t, .cons r rs => by
    obtain ⟨as, r1, h1⟩ := Dq.sees I _ _ _ _ h r
    obtain ⟨bs, r2, h2⟩ := Dqs.sees I _ _ _ _ t rs
    refine ⟨_, .cons r1 r2, fun b hb => ?_⟩
    rcases List.mem_append.mp hb with hb | hb
    · exact (h1 b hb).imp (List.mem_append_left _) id
    · exact (h2 b hb).imp (List.mem_append_right _) id
end
end
section
variable {X : Cx}
/-- repr(v), v a datum -/
def rRepr (K : PySem.W.Frag) : List V → Hp → VK → Prop := fun xs H Q => ∃ (v : V) (d : PyData) (ls : List Addr), xs = [v] ∧ Dq K H v d ls ∧ (d.hasDict = true → sysModules ∉ ls) ∧ d.showable = true ∧ d.depth ≤ 60 ∧ d.shown.length ≤ sizeLine ∧ Q (.str d.shown) H
theorem call_repr (hn : NoRep X.A) (hu : X.A.units + 64 < cLine) : CallR X (.builtin "repr") (rRepr X.K) := by
  intro pins st σ H xs us Q I r h
  obtain ⟨v, d, ls, rfl, hd, hs, sh, dp, sz, q⟩ := h
  obtain ⟨u, rfl, ru⟩ := vals1 r
  obtain ⟨as, rd, ha⟩ := Dq.sees I v d ls u hd ru
  have no : d.hasDict = true → sysModules ∉ as := fun z hm => by
    rcases ha _ hm with k | k
    · exact hs z k
    · exact absurd (beq_self_eq_true sysModules) (by rw [k]; exact Bool.false_ne_true)
  have fin : ∀ {tk tk2 : Nat} {h' : Heap}, (∀ b o, st.heap.get? b = some o → h'.get? b = some o) → EP X pins σ Q (.str d.shown tk) { st with heap := h', toks := tk2 } := fun k => ⟨.str _, H, I.kept k, ⟨_, rfl⟩, q⟩
  cases hd with
  | non =>
    obtain rfl := (show u = Value.none from ru)
    exact PySem.P.repr_of_none (fin (h' := st.heap) fun _ _ z => z)
  | bl b =>
    obtain rfl := (show u = Value.bool b from ru)
    exact PySem.P.repr_of_bool (fin (h' := st.heap) fun _ _ z => z)
  | int i =>
    obtain ⟨t, rfl⟩ := (show ∃ t, u = Value.int i t from ru)
    exact PySem.P.repr_of_int (of_decide_eq_true sh) (fin (h' := st.heap) fun _ _ z => z)
  | str z =>
    obtain ⟨t, rfl⟩ := (show ∃ t, u = Value.str z t from ru)
    exact PySem.P.repr_of_str (fin (h' := st.heap) fun _ _ z => z) sz
  | lst hq hx =>
    obtain rfl := (show u = Value.ref _ from ru)
    exact repr_of_reads' rd sh no hn (by omega) (fun _ _ z => z) (fun h' _ _ k => fin k) sz
  | tup hq hx =>
    obtain rfl := (show u = Value.ref _ from ru)
    exact repr_of_reads' rd sh no hn (by omega) (fun _ _ z => z) (fun h' _ _ k => fin k) sz
  | dic hq hk hv =>
    obtain rfl := (show u = Value.ref _ from ru)
    exact repr_of_reads' rd sh no hn (by omega) (fun _ _ z => z) (fun h' _ _ k => fin k) sz
end
end Xa
/-! Own ground, part B: exceptions of own classes over an own WatchError: made, raised, caught and kept, their field, isinstance. -/
namespace Xb
open PySem PySem.Spec PyProof.Rows L2 Xa

/-! ### what the text says of a class -/
/-- C is such a class: its instances' field is called f -/
structure XCls (K : PySem.W.Frag) (C : Addr) (f : Str) : Prop where
  oex : OexC K C
  xf : XfC K C
  isx : ExcC K C
  nof : PySem.W.findIn K (.ref C) f = some none
def ocB (K : PySem.W.Frag) (C : Addr) : Bool := match K.lookup C with
  | some ⟨.type "type", _, .cls ⟨_, _, .ref C2 :: bm, _, _, true, _, _, _, _, false⟩, ⟨[_, _, _, _, some (.builtin n), _]⟩⟩ => C2 == C && (n == "ValueError.__new__" && HandSPX.refsVE bm)
  | _ => false
theorem ocB_ok {K : PySem.W.Frag} {C : Addr} (h : ocB K C = true) : ∃ nm q N bs bm sn sub ab col dd k0 k1 k2 k3 k5, K.lookup C = some (excClassObj nm q C N bs bm true sn sub ab col dd k0 k1 k2 k3 k5 "ValueError.__new__") ∧ HandSPX.refsVE bm = true := by
  unfold ocB at h
  split at h
  · rename_i e
    obtain ⟨h1, h2⟩ := He.ba h
    obtain ⟨h3, h4⟩ := He.ba h2
    have e1 := beq_iff_eq.mp h1
    have e2 := beq_iff_eq.mp h3
    subst e1 e2
    exact ⟨_, _, _, _, _, _, _, _, _, _, _, _, _, _, _, e, h4⟩
  · cases h
def vEq (a b : Option (Option Value)) : Bool := decide (a = b)
def xclsB (K : PySem.W.Frag) (C : Addr) (f : Str) : Bool := ocB K C && (He.eqO (PySem.W.findIn K (.ref C) "__setattr__") (some (some (.builtin "object.__setattr__"))) && (decide (PySem.W.subIn K (.ref C) (.type "BaseException") = some true) &&
  (decide (PySem.W.typeIn K (.ref C) = some (.type "type")) && (PySem.W.keepIn K (.ref C) && (xfB K C && (He.eqO (PySem.W.findIn K (.ref C) "__class__") (some (some (.builtin "object.__class__"))) &&
  (He.eqO (PySem.W.specialIn K (.builtin "object.__class__") "__get__") (some (some (.builtin "getset_descriptor.__get__"))) && (decide (PySem.W.takesIn K (.builtin "object.__class__") = some true) && (decide (PySem.W.mroIn K C (.type "object") = some true) &&
  He.eqO (PySem.W.findIn K (.ref C) f) (some none))))))))))
theorem xcls_ok {K : PySem.W.Frag} {C : Addr} {f : Str} (h : xclsB K C f = true) : XCls K C f := by
  obtain ⟨h1, h⟩ := He.ba h
  obtain ⟨h2, h⟩ := He.ba h
  obtain ⟨h3, h⟩ := He.ba h
  obtain ⟨h4, h⟩ := He.ba h
  obtain ⟨h5, h⟩ := He.ba h
  obtain ⟨h6, h⟩ := He.ba h
  obtain ⟨h7, h⟩ := He.ba h
  obtain ⟨h8, h⟩ := He.ba h
  obtain ⟨h9, h⟩ := He.ba h
  obtain ⟨h10, h11⟩ := He.ba h
  have x := xfB_ok h6
  exact ⟨⟨ocB_ok h1, He.eqO_ok h2, of_decide_eq_true h3, of_decide_eq_true h4, h5⟩, x, ⟨x.ga, x.gg, x.exC, x.hdC, He.eqO_ok h7, He.eqO_ok h8, of_decide_eq_true h9, of_decide_eq_true h10⟩, He.eqO_ok h11⟩

/-! ### an exception as a tracked thing -/
/-- at a: an exception of the class at C, its own dict at d -/
def xob (a C d : Addr) : HO := .ext fun h => ∃ (oe : Obj) (vs : Array Value), h.get? a = some oe ∧ oe.cls = .ref C ∧ oe.dict = some d ∧ oe.data = .fields vs
theorem xob_ok {P : Program} {w : World} {H : Hp} {h : Heap} {a C d : Addr} {oe : Obj} (e : h.get? a = some oe) (c : oe.cls = .ref C) (hd : oe.dict = some d) (hf : ∃ vs, oe.data = .fields vs) : ObjOk P w H h a (xob a C d) := by
  obtain ⟨vs, hf⟩ := hf
  exact ⟨⟨oe, vs, e, c, hd, hf⟩, ⟨oe, e⟩, fun _ _ z k => let ⟨o, v, q, r⟩ := z; ⟨o, v, k o q, r⟩⟩
section
variable {X : Cx} {pins : List (Addr × Obj)} {σ : L2.St} {H : Hp} {st : Shared}
theorem xob_inst {a C d : Addr} {fs : List (Str × V)} (I : Inv X pins σ H st) (ha : H a = some (xob a C d)) (hd : H d = some (.xd fs)) :
    ∃ (ox od : Obj) (mA : Str → Option Value), PySem.W.InstAt st.heap a ox C (some od) ∧ (∀ n, PySem.W.lookIn n od = some (mA n)) ∧ ∀ n, RelO (fs.lookup n) (mA n) := by
  obtain ⟨⟨oe, vs, e, c, ed, ef⟩, _⟩ := (show ObjOk X.prog X.w H st.heap a (xob a C d) from I.hok a _ ha)
  obtain ⟨mA, hns, hr⟩ := (show ObjOk X.prog X.w H st.heap d (.xd fs) from I.hok d _ hd)
  obtain ⟨od, ho, hl⟩ := lookIn_ns hns
  exact ⟨oe, od, mA, ⟨e, c, by unfold PySem.W.notCls; rw [ef] <;> rfl, by rw [ed]; exact ho⟩, hl, hr⟩
end
/-- e.f, an exception's field -/
def tXv (K : PySem.W.Frag) (f : Str) (te : TE) : TE := fun σ H Q => te σ H fun x H1 => ∃ (a C d : Addr) (fs : List (Str × V)) (v : V), x = .ref a ∧ H1 a = some (xob a C d) ∧ H1 d = some (.xd fs) ∧ XCls K C f ∧ fs.lookup f = some v ∧ Q v H1
/-- isinstance(e, c), e such an exception -/
def rIsx (K : PySem.W.Frag) : List V → Hp → VK → Prop := fun xs H Q => ∃ (a C d : Addr) (fs : List (Str × V)) (c : V) (cv : Value) (b : Bool), xs = [.ref a, c] ∧ H a = some (xob a C d) ∧ H d = some (.xd fs) ∧ ExcC K C ∧ ClsV c cv ∧ PySem.W.kitOne K (.ref C) cv = some b ∧ Q (.bl b) H
section
variable {X : Cx} {e : Expr} {te : TE} {pos : Pos} {f : Str}
theorem pe_xv (he : PE X e te) (hb : attributeBase e f X.env (eval e X.env) = eval e X.env := by rfl) : PE X (.Attribute e f pos) (tXv X.K f te) := by
  refine ⟨fun pins st σ H Q I h => attr_of hb (thn (he.run pins st σ H _ I h) fun u s1 ⟨x, H1, I1, rx, a, C, d, fs, v, ex, ea, ed, T, l, q⟩ => ?_)⟩
  subst ex
  obtain rfl : u = Value.ref a := rx
  obtain ⟨ox, od, mA, J, hl, hr⟩ := xob_inst I1 ea ed
  obtain ⟨u, hu, ru⟩ := RelO.some_of (v := v) (o := mA f) (by rw [← l]; exact hr f)
  exact HandSPX.exc_get I1.kIn J T.xf.ga T.xf.gg T.xf.exC (PySem.W.findObj_own T.xf.hdC T.nof rfl (by rw [hl, hu])) (handed_of ru) ⟨v, H1, I1.tok _, ru, q⟩
theorem call_isx : CallR X (.builtin "isinstance") (rIsx X.K) := by
  intro pins st σ H xs us Q I r h
  obtain ⟨a, C, d, fs, c, cv, b, rfl, ha, hd, T, k, e, q⟩ := h
  obtain ⟨u1, u2, rfl, r1, r2⟩ := vals2 r
  have e2 := k.eq r2
  subst e2
  obtain rfl := (show u1 = Value.ref a from r1)
  obtain ⟨ox, od, mA, J, _, _⟩ := xob_inst I ha hd
  have hc : (PySem.W.clsIn X.K C).isSome = true := by
    obtain ⟨cd, hcd, _⟩ := PySem.W.any_some T.hd
    rw [hcd]
    rfl
  exact PySem.W.kia_one (PySem.W.kitx_exc hc T.hg T.hk T.hs T.ha T.hn T.ht T.hm) I.kIn J e (fun z => nomatch z) fun tk => ⟨.bl b, H, I.tok tk, rfl, q⟩
end

/-! ### WatchError.__init__(self, ..), within the __init__ of a class over it -/
structure WBase (K : PySem.W.Frag) (mg : Str → Option Value) (wn : Str) : Prop where
  ex : ∃ (W : Addr) (mc : Value), mg wn = some (.ref W) ∧ PySem.W.readsIn K W mc = true ∧ PySem.W.specialIn K (.ref W) "__getattribute__" = some (some (.builtin "type.__getattribute__")) ∧
    PySem.W.findCls K (.ref W) mc "__init__" = some (.val (.builtin "ValueError.__init__"))
section
variable {X : Cx} {e : Expr} {es : List Expr} {ta : TA} {wn : Str} {p1 p2 pos : Pos}
theorem pe_winit {pl : Sem Bool} (hg : Gl X wn) (T : WBase X.K X.mg wn) (ha : PA X (e :: es) ta) (hdb : (wn == ("__debug__" : Str)) = false := by decide)
    (hc : eval (.Call (.Attribute (.Name wn p1) "__init__" p2) (e :: es) [] pos) X.env = (do
      let ov ← eval (.Name wn p1) X.env
      standAt p2.atName
      let (g, fst) ← holding [ov] (getMethod ov "__init__" pl)
      callWith pos g fst (backTo pos (starEach (e :: es) X.env)) (backToKw pos (keywordEach [] X.env))) := by rfl)
    (he : starEach (e :: es) X.env = (false, eval e X.env) :: starEach es X.env := by rfl) (hpl : (backTo pos (starEach es X.env)).any (·.1) = false := by rfl) :
    PE X (.Call (.Attribute (.Name wn p1) "__init__" p2) (e :: es) [] pos) (tVeI X.K ta) := by
  obtain ⟨W, mc, gW, rd, ga, fc⟩ := T.ex
  refine ⟨fun pins st σ H Q I h => PySem.W.methodCall_KW (ld_glob I hg gW ?_ hdb) hc⟩
  refine PySem.W.method_cls I.kIn ga (PySem.W.cls_value I.kIn rd fc rfl ?_)
  show wpAny _ _ (callWith pos (Value.builtin "ValueError.__init__") [] (backTo pos (starEach (e :: es) X.env)) []) _ _ _
  refine PyProof.Rows.callWith_method1 (thn (ha.run pos pins _ σ H _ (I.tok _) h) fun us s1 ⟨xs, H1, I1, rel, a, C, ws, ev, hl, Tc, ea, q⟩ => ?_) he hpl
  subst ev
  cases rel with
  | @cons _ u0 _ ur ra rw' =>
    obtain rfl : u0 = Value.ref a := ra
    have hlen : ur.length ≤ sizeLine := by
      rw [← Paired.length rw', sizeLine_eq]
      omega
    exact oinit_ok Tc I1 ea hlen fun s2 J => ⟨.non, H1, J, rfl, q⟩
end
end Xb
/-! Own ground, part C: such exceptions raised, caught and kept. -/
namespace Xc
open PySem PySem.Spec PyProof.Rows L2 Xa Xb

/-- a reading closed under weaker wishes -/
def tUp (te : TE) : TE := fun σ H Q => ∃ Q0 : VK, te σ H Q0 ∧ ∀ v H1, Q0 v H1 → Q v H1
theorem pe_up {X : Cx} {e : Expr} {te : TE} (he : PE X e te) : PE X e (tUp te) :=
  ⟨fun pins st σ H Q I ⟨Q0, h, k⟩ => thn (he.run pins st σ H Q0 I h) fun _ _ ⟨v, H1, I1, r, q⟩ => ⟨v, H1, I1, r, k v H1 q⟩⟩

/-! ### __init__ -/
/-- what __init__ of such a class promises -/
def spXi (C : Addr) (f : Str) : Sp := fun xs H Q _ => ∃ (a : Addr) (v : V), xs = [.ref a, v] ∧ H a = some (exo a C none) ∧ ∀ dx, H dx = none → dx ≠ a → Q .non (upd (upd H dx (exd dx [(f, v)])) a (exo a C (some dx)))
def xiBody (msg f : Str) (k : Nat) (p1 p2 p3 p4 p5 p6 p7 p8 p9 p10 : Pos) : List Stmt :=
  [.Expr (.Call (.Attribute (.Name "WatchError" p1) "__init__" p2) [.Name "self" p3, .Constant (.str msg) k p4] [] p5) p6, .Assign [.Attribute (.Name "self" p7) f p8] (.Name f p9) p10]
/-- how the call of WatchError.__init__ is run there (rfl at each class) -/
def XiRun (qual : Str) (scope : Scope) (msg : Str) (k : Nat) (p1 p2 p3 p4 p5 : Pos) : Prop := ∀ (n g : Addr) (cdv : Value), ∃ pl : Sem Bool,
  eval (.Call (.Attribute (.Name "WatchError" p1) "__init__" p2) [.Name "self" p3, .Constant (.str msg) k p4] [] p5) (envOfC qual scope n g cdv) = (do
    let ov ← eval (.Name "WatchError" p1) (envOfC qual scope n g cdv)
    standAt p2.atName
    let (m, fst) ← holding [ov] (getMethod ov "__init__" pl)
    callWith p5 m fst (backTo p5 (starEach [.Name "self" p3, .Constant (.str msg) k p4] (envOfC qual scope n g cdv))) (backToKw p5 (keywordEach [] (envOfC qual scope n g cdv))))
theorem ok_xi {P : Program} {w : World} {K : PySem.W.Frag} {mg : Str → Option Value} {base : Heap} {C fI : Addr} {fd : FuncData} {qual msg f : Str} {params : Arguments} {scope : Scope} {dvs : List V} {k : Nat} {p1 p2 p3 p4 p5 p6 p7 p8 p9 p10 : Pos}
    (F : FunD K "__init__" qual params (xiBody msg f k p1 p2 p3 p4 p5 p6 p7 p8 p9 p10) scope dvs [] fI fd) (S : FnScope ["self", f] ["self", f] scope) (T : XCls K C f) (B : WBase K mg "WatchError")
    (hs : scope.names.lookup ("self" : Str) = some .local) (hf : scope.names.lookup f = some .local) (hw : scope.names.lookup ("WatchError" : Str) = some .globalImplicit) (run : XiRun qual scope msg k p1 p2 p3 p4 p5) (f1 : (f == ("__debug__" : Str)) = false) (f2 : (f == ("__classdict__" : Str)) = false) :
    FnOk P w K mg base CX0 1 fI fd ["self", f] (spXi C f) := by
  refine F.ok S (fun xs H Q E h => ?_) (fun cdv A outer s H vs Q E hr h => ?_)
  · obtain ⟨a, v, rfl, _⟩ := h
    rfl
  · obtain ⟨a, v, rfl, ha, q⟩ := h
    obtain ⟨pl, hc⟩ := run s.heap.objs.size fI cdv
    refine ⟨_, PSs.nox (pss_cons (ps_expr (pe_winit (pl := pl) hw B (pa_cons (pe_var (i := 0) rfl (.inl hs)) (pa_cons pe_str pa_nil)) (by decide) hc)) (pss_one (ps_ost (pe_var (i := 0) rfl (.inl hs)) (pe_var (i := 1) rfl (.inl hf) f1 f2)))), ?_⟩
    refine ⟨_, rfl, a, C, [.str msg], rfl, (by show 1 ≤ 1000; decide), T.oex, ha, ?_⟩
    exact ⟨_, rfl, _, rfl, a, C, rfl, T.oex, T.nof, .inl ⟨ha, fun dx n ne => q dx n ne⟩⟩

/-! ### raise C(e) -/
/-- the class is known by the name x, its __init__ stands at fI -/
structure XMake (P : Program) (w : World) (K : PySem.W.Frag) (mg : Str → Option Value) (base : Heap) (x : Str) (C : Addr) (f : Str) : Prop where
  cls : XCls K C f
  glo : mg x = some (.ref C)
  ini : ∃ (fI : Addr) (fd : FuncData), PySem.W.findIn K (.ref C) "__init__" = some (some (.ref fI)) ∧ PySem.W.typeIn K (.ref fI) = some (.type "function") ∧ FnOk P w K mg base CX0 1 fI fd ["self", f] (spXi C f) ∧ Binds K fd ["self", f] []
def tRz (C : Addr) (f : Str) (W : WX) (te : TE) : TS := fun _ σ H => te σ H fun v H1 => ∀ d, H1 d = none → W (.ref C) (some d) σ (upd H1 d (.xd [(f, v)]))
theorem new_heap {H : Hp} {a C d : Addr} {f : Str} {v : V} (ha : H a = none) (hd : d ≠ a) :
    upd (del (upd (upd (upd H a (exo a C none)) d (exd d [(f, v)])) a (exo a C (some d))) a) d (.xd [(f, v)]) = upd H d (.xd [(f, v)]) := by
  funext b
  by_cases h1 : b = d
  · rw [h1, upd_same, upd_same]
  · rw [upd_ne h1, upd_ne h1]
    by_cases h2 : b = a
    · rw [h2, del_same, ha]
    · rw [del_ne h2, upd_ne h2, upd_ne h1, upd_ne h2]
theorem ps_rz {X : Cx} {x f : Str} {C : Addr} {W : WX} {e : Expr} {te : TE} {p pos pos2 : Pos} (hc : X.calm = true) (M : XMake X.prog X.w X.K X.mg X.base x C f) (hr : Room 2 X.A) (tk : Takes X W) (hg : Gl X x) (he : PE X e te)
    (hdb : (x == ("__debug__" : Str)) = false := by decide) (hst : starEach [e] X.env = (false, eval e X.env) :: starEach [] X.env := by rfl) (hpl : (backTo pos (starEach [] X.env)).any (·.1) = false := by rfl) :
    PS X (.Raise (some (.Call (.Name x p) [e] [] pos)) none pos2) (tRz C f W te) := by
  obtain ⟨fI, fd, i1, i2, F, b⟩ := M.ini
  have R := ps_raise (pos := pos2) hc tk (pmk_oex (p := p) (pos := pos) (k := 1) M.cls.oex i1 i2 F hr b .nil pass0 hg M.glo (pa_cons (pe_up he) pa_nil hst) hdb hst hpl)
  refine ⟨fun pins st σ H D I h => R.run pins st σ H D I ⟨_, h, fun v H1 q => ⟨(by show 1 ≤ 1000; decide), fun a na => ⟨a, v, rfl, upd_same, fun dx ndx ne => ⟨rfl, dx, [(f, v)], upd_same, ?_, ?_, ?_⟩⟩⟩⟩⟩
  · rw [upd_ne ne, upd_same]
  · rw [upd_ne ne] at ndx
    exact ndx
  · rw [new_heap na ne]
    rw [upd_ne ne] at ndx
    exact q dx ndx
end Xc
/-! Own ground, part D: try: body / except X as n: c = n, the exception kept and tracked. -/
namespace Xd
open PySem PySem.Spec PyProof.Rows L2 Xa Xb Xc

section
variable {X : Cx} {pins : List (Addr × Obj)} {σ : L2.St} {H : Hp} {st : Shared} {a C d : Addr} {oe : Obj}
/-- a pinned exception, new since the entry, is tracked from here on -/
theorem track (I : Inv X ((a, oe) :: pins) σ H st) (n0 : X.s_0.heap.get? a = none) (np : ∀ p ∈ X.pn ++ pins, p.1 ≠ a) (hc : oe.cls = .ref C) (hd : oe.dict = some d) (hf : ∃ vs, oe.data = .fields vs) : Inv X pins σ (upd H a (xob a C d)) st := by
  obtain ⟨ha, hn, hL, hF, hcell⟩ := I.pin (a, oe) (List.mem_append_right _ List.mem_cons_self)
  have n1 : ∀ b o, X.s_0.heap.get? b = some o → b ≠ a := fun b o z q => by rw [q, n0] at z; cases z
  refine ⟨I.ok, I.os, I.bare, ⟨I.base.keep, I.base.slot, fun b o z n hx => ?_, I.base.there, fun b xs z => ?_, fun b o u z => ?_, fun b ps z => ?_⟩, I.loc, I.cell, ?_, fun x c z => ?_, fun p hp => ?_, ?_, I.len⟩
  · rw [upd_ne (n1 b o z)]
    exact I.base.free b o z n hx
  · have q := I.base.tups b xs z
    rw [upd_ne (ne_of_none q hn)]
    exact q
  · have q := I.base.frzs b o u z
    rw [upd_ne (ne_of_none q hn)]
    exact q
  · obtain ⟨m, q⟩ := I.base.tbls b ps z
    exact ⟨m, by rw [upd_ne (ne_of_none q hn)]; exact q⟩
  · rw [upd_ne (Ne.symm hL)]
    exact I.free
  · have q : c ≠ a := fun e => by
      obtain ⟨v, o, ho, hv⟩ := I.cell x c z
      rw [e, ha] at ho
      exact hcell v (by rw [Option.some.inj ho]; exact hv)
    rw [upd_ne q]
    exact I.freeC x c z
  · have q : p ∈ X.pn ++ (a, oe) :: pins := by
      rcases List.mem_append.mp hp with z | z
      · exact List.mem_append_left _ z
      · exact List.mem_append_right _ (List.mem_cons_of_mem _ z)
    obtain ⟨k1, k2, k3⟩ := I.pin p q
    exact ⟨k1, by rw [upd_ne (np p hp)]; exact k2, k3⟩
  · exact I.hok.laidN (fun _ _ z => z) hn (xob_ok ha hc hd hf)
end

/-- what the clause wishes of an exception of the body: n stands in slot i, c in slot j -/
def wKeep (K : PySem.W.Frag) (cv : Value) (i j : Nat) (D : Ends) : WX := fun cls d σ H => ∃ C dx : Addr, cls = .ref C ∧ d = some dx ∧ PySem.W.exmOne K cls cv = some true ∧ ∀ a, H a = none → D.nx (((σ.set i (some (.ref a))).set j (some (.ref a))).set i none) (upd H a (xob a C dx))
section
variable {X : Cx} {x n : Str} {cv : Value} {i j : Nat} {body : List Stmt} {keep : Stmt} {np hp pos : Pos} {tb : WX → TS}
theorem ps_keep (hs : X.stack = X.env :: X.outer) (hf : X.env.frame = some X.env.locals) (hex : X.ex = []) (nd : X.N.Nodup) (hi : X.N[i]? = some n) (hln : X.env.kindOf n = some .local) (hlen : i < X.N.length) (hc : Names X x cv)
    (hb : ∀ (W : WX) (pn : List (Addr × Obj)) (xe : Value → Shared → Prop), Takes (X.tr pn xe) W → PassesOwn (model X.prog X.w) X.A X.env xe → PSs (X.tr pn xe) body (tb W))
    (hk : ∀ (a : Addr) (pn : List (Addr × Obj)), PSs (X.suite a pn) [keep] (tAsg (tVar i) (gName j))) :
    PS X (.Try body [.ExceptHandler (some (.Name x np)) (some n) [keep] hp] [] [] pos) (fun D σ H => tb (wKeep X.K cv i j D) D σ H) := by
  refine ⟨fun pins st σ H D I h => ?_⟩
  have ok := I.ok
  have frm : X.A.frames = some (X.env :: X.outer) := by rw [ok.frames, hs]
  refine wpAny_Try_except ?_
  refine wpAny_mono ((hb (wKeep X.K cv i j D) (X.pn ++ pins) (fun u t1 => wpAny (model X.prog X.w) X.A (noteFrame u X.env) (fun _ t2 => wpAny (model X.prog X.w) X.A (setFlight u none) (fun _ t3 =>
    wpAny (model X.prog X.w) X.A (handleBy u X.env [.ExceptHandler (some (.Name x np)) (some n) [keep] hp]) (SP X pins D) X.xe t3) X.xe t2) X.xe t1) (fun u s2 air => ?_) PassesOwn.looking).run [] st σ H D (I.toTry _) h) (fun fl s1 sp => ?_) (fun _ _ z => z)
  · obtain ⟨a, B, sI, pins2, σ2, H2, cls, d, rfl, J0, nb, up, sky, na, os, ag, C, dx, ec, ed, em, go⟩ := air
    subst ec ed
    have J : Inv X pins σ2 H2 sI := J0.ofTry ok
    have sky2 : Sky B (X.env :: X.outer) a (Zc (.ref C) (some dx)) X.env.locals s2.heap := by rw [← hs]; exact sky
    show wpAny (model X.prog X.w) X.A (noteFrame (.ref a) X.env) _ _ _
    refine Sky.land Zc.steady frm hf sky2 fun h3 fl3 up3 => ?_
    have J3 : Inv X pins σ2 H2 { s2 with heap := h3 } := J.landed nb fl3.1 (up.trans up3) os ag
    obtain ⟨o3, v3, g3, z3, d3⟩ := fl3.there
    have off : a ∉ frs (X.env :: X.outer) := fun hm => by
      obtain ⟨_, o', e', hnf⟩ := fl3.2.2.1.mem hm
      rw [g3] at e'
      cases e'
      exact hnf _ d3
    have nL : a ≠ X.env.locals := fun z => off (List.mem_filterMap.mpr ⟨X.env, List.mem_cons_self, by rw [hf, z]⟩)
    have nF : a ∉ X.fs := fun hm => by
      obtain ⟨e, he, q⟩ := List.mem_filterMap.mp hm
      exact off (List.mem_filterMap.mpr ⟨e, List.mem_cons_of_mem _ he, q⟩)
    have offS : ∀ b, b ≠ X.env.locals → b ∉ X.fs → b ∉ frs X.stack := fun b h1 h2 hm => (List.mem_cons.mp (J.stkSub b hm)).elim h1 h2
    have inB : ∀ b o, b ≠ X.env.locals → b ∉ X.fs → sI.heap.get? b = some o → b ≠ a := fun b o h1 h2 z q => by
      have y := nb b o z (offS b h1 h2)
      rw [q, fl3.2.1] at y
      cases y
    have n0 : X.s_0.heap.get? a = none := by
      cases z : X.s_0.heap.get? a with
      | none => rfl
      | some o =>
        obtain ⟨o', y⟩ := J.base.there a o z (by rw [hex]; exact fun k => nomatch k)
        exact absurd rfl (inB a o' nL nF y)
    have npin : ∀ p ∈ X.pn ++ pins, p.1 ≠ a := fun p hp => by
      obtain ⟨k1, _, k3, k4, _⟩ := J.pin p hp
      exact inB p.1 p.2 k3 k4 k1
    have S3 := J3.suite g3 d3 na nL nF
    refine wpAny_handleBy_cons (codeAny_handlers_test ?_) (by intro q; cases q)
    have LT : PySem.W.Looks (model X.prog X.w) h3 (typeOf (.ref a)) (.ref C) := fun _ _ _ _ k q => wpAny_typeOf_ref (k _ _ g3) (by rw [z3.1]; exact q)
    have LM := PySem.W.exm_one (M := model X.prog X.w) (J3.kIn) LT em
    have named : ∀ {Q : Value → Shared → Prop} {E : Value → Shared → Prop}, Q cv { s2 with heap := h3 } → wpAny (model X.prog X.w) (X.A.mark (some (.ref a))) (eval (.Name x np) X.env) Q E { s2 with heap := h3 } := fun {Q E} q => by
      obtain ⟨hg, hdbg, hm | ⟨hm, hv, hnn⟩⟩ := hc
      · exact ld_glob (X := X.suite a ((a, o3) :: (X.pn ++ pins))) S3 hg hm q hdbg
      · exact ld_blt (X := X.suite a ((a, o3) :: (X.pn ++ pins))) S3 hg hm hv q hnn hdbg
    refine named (LM.here ?_)
    refine codeAny_handlers_suite_as ?_
    refine HandSPX.lands_againZ fl3 fun h4 fl4 up4 => ?_
    have J4 : Inv X pins σ2 H2 { s2 with heap := h4 } := J.landed nb fl4.1 ((up.trans up3).trans up4) os ag
    obtain ⟨o4, v4, g4, z4, d4⟩ := fl4.there
    have S4 := J4.suite g4 d4 na nL nF
    refine store_ok (X := X.suite a ((a, o4) :: (X.pn ++ pins))) (v := .ref a) S4 nd hi (.inl hln) rfl (fun s5 S5 => ?_) (.inr hln)
    have hl5 : i < σ2.length := by rw [J.len]; exact hlen
    refine wpAny_mono ((hk a ((a, o4) :: (X.pn ++ pins))).run [] s5 _ H2 { nx := fun σ6 H6 => σ6 = (σ2.set i (some (.ref a))).set j (some (.ref a)) ∧ H6 = H2, rt := fun _ _ => False } S5
      ⟨.ref a, by rw [List.getElem?_set_self hl5], rfl, rfl⟩) (fun fl s6 sp6 => ?_) (fun _ _ z => False.elim z)
    cases fl with
    | next =>
      obtain ⟨σ6, H6, S6, e1, e2⟩ := sp6
      subst e1 e2
      have P6 : Inv X ((a, o4) :: pins) _ H6 s6 := ⟨ok, S6.os, S6.bare, S6.base, S6.loc, S6.cell, S6.free, S6.freeC, fun p hp => S6.pin p (by
        rw [List.append_nil]
        rcases List.mem_append.mp hp with z | z
        · exact List.mem_cons_of_mem _ (List.mem_append_left _ z)
        · rcases List.mem_cons.mp z with z | z
          · rw [z]
            exact List.mem_cons_self
          · exact List.mem_cons_of_mem _ (List.mem_append_right _ z)), S6.hok, S6.len⟩
      exact gone_ok P6 nd hi hln fun s7 J7 => ⟨_, _, track J7 n0 npin z4.1 z4.2 ⟨_, d4⟩, go a na⟩
    | brk => exact let ⟨_, _, _, q⟩ := sp6; False.elim q
    | cont => exact let ⟨_, _, _, q⟩ := sp6; False.elim q
    | ret u => exact let ⟨_, _, _, _, _, q⟩ := sp6; False.elim q
  · cases fl with
    | next => exact let ⟨σ2, H2, J2, q⟩ := sp; wpAny_execs_nil ⟨σ2, H2, J2.ofTry ok, q⟩
    | brk => exact let ⟨σ2, H2, J2, q⟩ := sp; ⟨σ2, H2, J2.ofTry ok, q⟩
    | cont => exact let ⟨σ2, H2, J2, q⟩ := sp; ⟨σ2, H2, J2.ofTry ok, q⟩
    | ret u => exact let ⟨v, σ2, H2, J2, r, q⟩ := sp; ⟨v, σ2, H2, J2.ofTry ok, r, q⟩
end
end Xd
/-! Own ground, part S: sets of tuples of ints that grow: set(), add, in. -/
namespace Xs
open PySem PySem.Spec PyProof.Rows L2 Xa Xb Xc

section
variable {P : Program} {w : World} {A : Around} {E : Value → Shared → Prop} {s : Shared} {a : Addr} {L : List (Addr × List Int)} {es : Array (Int × Value)} {ep : Nat} {t : SetTable}
/-- the c-th place that is looked at -/
abbrev prb (t : SetTable) (h : Int) (c : Nat) : SetTable.Probe := nth t.mask (runAt t.mask (SetTable.bits h % (t.mask + 1)) (SetTable.bits h)) c
theorem prb_clean (t : SetTable) (h : Int) (c : Nat) : (prb t h c).dummy = none := by
  have go : ∀ (n : Nat) (p : SetTable.Probe), p.dummy = none → (nth t.mask p n).dummy = none := fun n => by
    induction n with
    | zero => exact fun _ z => z
    | succ n ih =>
      refine fun p z => ih (adv t.mask p) ?_
      unfold adv
      split <;> exact z
  exact go c _ rfl
theorem prb_on (t : SetTable) (h : Int) (c q : Nat) : nth t.mask (prb t h c) q = prb t h (c + q) := (nth_add t.mask c _ q).symm
/-- what is looked for stands (or doesn't) among the tuples of L: the search of in -/
theorem seek (R : SetTR P w s.heap a L es ep t) {x : Addr} {k : List Int} (hx : IsT P w s.heap k x) (hu : A.units < cLine) {z : Nat} (z1 : z < 10 * SetTable.turns t.mask) (z2 : way t.mask (thash P w k) z ∉ t.place.toList)
    (z3 : ∀ c, c < z → way t.mask (thash P w k) c ∈ t.place.toList) {Q : SetFound → Shared → Prop} (yes : ∀ i, k ∈ L.map (·.2) → Q (.there (some i)) s) (no : k ∉ L.map (·.2) → Q (.free (way t.mask (thash P w k) z) false) s) :
    ∀ (f c : Nat) (at_ : Option SetTable.Probe), at_.getD (t.probeStart (thash P w k)) = prb t (thash P w k) c → c ≤ z → z - c < f →
      (∀ (i : Nat) p, L[i]? = some p → p.2 = k → ∃ c', c ≤ c' ∧ c' < z ∧ t.place.toList[i]? = some (way t.mask (thash P w k) c')) →
      wpAny (model P w) A (setSearchFrom a (.ref x) (thash P w k) false f at_) Q E s := by
  obtain ⟨o, ho, _, hd⟩ := R.ob
  intro f
  induction f with
  | zero => exact fun c _ _ _ hf => absurd hf (Nat.not_lt_zero _)
  | succ f ih =>
    intro c at_ hat hc hf ahead
    rw [setSearchFrom_succ]
    refine wpAny_bind (wpAny_setState_of ho hd R.fits ?_)
    dsimp only
    refine wp_if_neg R.gw ?_
    try refine wpAny_bind (wpAny_pure ?_)
    have go := go_spec t R.tab.ris R.tab.dm (fun i => (es[i]?.map (·.1)).getD 0) (thash P w k) (10 * SetTable.turns t.mask) (z - c) _ (prb_clean t (thash P w k) c) (by omega)
      (fun q hq => by rw [prb_on]; exact z3 (c + q) (by omega)) (by rw [prb_on, show c + (z - c) = z by omega]; exact z2)
    have hash_of : ∀ (i : Nat) p, L[i]? = some p → (es[i]?.map (·.1)).getD 0 = thash P w p.2 := fun i p hp => by rw [R.entry hp] <;> rfl
    rcases go with ⟨q, i, hq, hi, hh, before, met⟩ | ⟨before, met⟩
    · rw [hat, show t.probe _ (thash P w k) (prb t (thash P w k) c) = _ from met]
      dsimp only
      rw [prb_on] at hi
      have hil : i < L.length := by
        have y1 := (List.getElem?_eq_some_iff.mp hi).1
        have y2 := R.tab.sz
        rw [List.length_map] at y2
        rw [Array.length_toList] at y1
        omega
      obtain ⟨p, hp⟩ : ∃ p, L[i]? = some p := ⟨_, List.getElem?_eq_getElem hil⟩
      have pin := List.mem_of_getElem? hp
      have live : t.slot (way t.mask (thash P w k) (c + q)) = .live i := slot_live R.tab.ris hi
      have behind : wpAny (model P w) A (searchRest a (.ref x) (thash P w k) false f es t (way t.mask (thash P w k) (c + q)) i (prb t (thash P w k) (c + (q + 1)))) Q E s := by
        unfold searchRest
        rw [R.entry hp]
        dsimp only
        refine wpAny_bind (wpAny_holding (wpAny_eqBool_tuple hu (R.tup p pin) hx ?_))
        refine wpAny_bind (wpAny_setState_of ho hd R.fits ?_)
        dsimp only
        refine wp_if_neg (by simp) ?_
        try refine wpAny_bind (wpAny_pure ?_)
        rw [sameMem]
        dsimp only
        simp only [if_true, live, R.entry hp]
        refine wpAny_bind (wpAny_isSame_ref_self (wpAny_bind (wpAny_pure ?_)))
        simp only [if_true]
        by_cases e : p.2 = k
        · refine wp_if_pos (by simp [e]) (wpAny_pure (yes i (List.mem_map.mpr ⟨p, pin, e⟩)))
        · refine wp_if_neg (by simp [e]) (ih (c + (q + 1)) _ rfl (by omega) (by omega) fun j r hj hr => ?_)
          obtain ⟨c', y1, y2, y3⟩ := ahead j r hj hr
          refine ⟨c', ?_, y2, y3⟩
          rcases Nat.lt_trichotomy c' (c + q) with y | y | y
          · exact absurd ((hash_of j r hj).trans (congrArg (thash P w) hr)) (before (c' - c) j (by omega) (by rw [prb_on, show c + (c' - c) = c' by omega]; exact y3))
          · rw [y] at y3
            have l2 := slot_live R.tab.ris y3
            rw [live] at l2
            injection l2 with l2
            rw [← l2, hp] at hj
            exact absurd ((congrArg Prod.snd (Option.some.inj hj)).trans hr) e
          · omega
      have nxt : nth t.mask (prb t (thash P w k) c) (q + 1) = prb t (thash P w k) (c + (q + 1)) := prb_on ..
      have plc : (nth t.mask (prb t (thash P w k) c) q).j = way t.mask (thash P w k) (c + q) := congrArg SetTable.Probe.j (prb_on t (thash P w k) c q)
      rw [nxt, plc]
      by_cases led : t.led = true
      · refine wp_if_neg (by simp [led]) ?_
        try refine wpAny_bind (wpAny_pure ?_)
        exact behind
      · refine wp_if_pos (by simp [led]) (wpAny_bind (seen_tup hx (fun y hy => ?_) (wp_if_neg (by decide) ?_)))
        · obtain ⟨e, he, rfl⟩ := List.mem_map.mp hy
          have e1 : e ∈ es.toList := by
            have e2 : e ∈ es ∧ e.1 = thash P w k := by simpa using he
            simpa using e2.1
          rw [R.rows] at e1
          obtain ⟨p2, hp2, rfl⟩ := List.mem_map.mp e1
          exact ⟨p2.2, p2.1, rfl, R.tup p2 hp2⟩
        · try refine wpAny_bind (wpAny_pure ?_)
          exact behind
    · have plc : (nth t.mask (prb t (thash P w k) c) (z - c)).j = way t.mask (thash P w k) z := by
        rw [prb_on, show c + (z - c) = z by omega]
      rw [hat, show t.probe _ (thash P w k) (prb t (thash P w k) c) = _ from met]
      dsimp only
      rw [plc]
      refine wpAny_pure (no fun hm => ?_)
      obtain ⟨p, hp, hk⟩ := List.mem_map.mp hm
      obtain ⟨i, hi, rfl⟩ := List.getElem_of_mem hp
      have hi2 := List.getElem?_eq_getElem hi
      obtain ⟨c', y1, y2, y3⟩ := ahead i _ hi2 hk
      exact before (c' - c) i (by omega) (by rw [prb_on, show c + (c' - c) = c' by omega]; exact y3) ((hash_of i _ hi2).trans (congrArg (thash P w) hk))
theorem seek_all (R : SetTR P w s.heap a L es ep t) {x : Addr} {k : List Int} (hx : IsT P w s.heap k x) (hu : A.units < cLine) {Q : Option Nat → Shared → Prop} (h : ∀ r, r.isSome = decide (k ∈ L.map (·.2)) → Q r s) :
    wpAny (model P w) A (setFind a (.ref x) (thash P w k)) Q E s := by
  obtain ⟨o, ho, _, hd⟩ := R.ob
  have room := R.room
  obtain ⟨z, z1, z2, z3⟩ := R.tab.first (by rw [List.length_map]; omega) (thash P w k)
  have zb : z < 100000 := by
    have : 10 * SetTable.turns t.mask ≤ 1420 := by
      unfold SetTable.turns
      rcases R.tab.mok with e | e | e <;> omega
    omega
  unfold setFind
  rw [show (100000 : Nat) = 99999 + 1 from rfl]
  unfold setFindIn
  refine wpAny_bind (wpAny_setState_of ho hd R.fits ?_)
  dsimp only
  refine wp_if_neg (by simp [byScan, Value.scannable]) ?_
  try refine wpAny_bind (wpAny_pure ?_)
  unfold setSearch
  refine wpAny_bind (seek R hx hu z1 z2 z3 (fun i m => ?_) (fun m => ?_) 100000 0 none rfl (Nat.zero_le _) (by omega) fun i p hp hk => ?_)
  · dsimp only
    exact wpAny_pure (h (some i) (by rw [decide_eq_true m] <;> rfl))
  · dsimp only
    exact wpAny_pure (h none (by rw [decide_eq_false m] <;> rfl))
  · have y1 : (L.map fun p => thash P w p.2)[i]? = some (thash P w k) := by rw [List.getElem?_map, hp, ← hk] <;> rfl
    have y2 : i < t.place.toList.length := by
      have e1 := (List.getElem?_eq_some_iff.mp hp).1
      have e2 := R.tab.sz
      rw [List.length_map] at e2
      rw [Array.length_toList]
      omega
    have y3 := List.getElem?_eq_getElem y2
    obtain ⟨c, hc, e⟩ := R.tab.before z2 y1 y3
    exact ⟨c, Nat.zero_le _, hc, by rw [y3, e]⟩
/-- x in a -/
theorem in_tups (R : SetTR P w s.heap a L es ep t) {x : Addr} {k : List Int} (hx : IsT P w s.heap k x) (hu : A.units + 8 < cLine) {Q : Value → Shared → Prop} (h : ∀ tk, Q (.bool (decide (k ∈ L.map (·.2)))) { s with toks := tk }) :
    wpAny (model P w) A (compareOp .In (.ref x) (.ref a)) Q E s := by
  obtain ⟨o, ho, hex, hd⟩ := R.ob
  have hT : s.TypeIs (.ref a) "set" := ⟨o, ho, hex.1⟩
  show wpAny _ _ (contains (.ref a) (.ref x) >>= fun b => pure (.bool b)) Q E s
  refine wpAny_bind ?_
  unfold contains
  try with_reducible refine wpAny_holding ?_
  refine wpAny_bind (wpAny_specialOf hT F.slot_set_contains.lookup ?_)
  show wpAny _ _ (if (some (Value.builtin "set.__contains__") == some Value.none) = true then _ else _) _ E s
  rw [if_neg (by rw [beq_builtin_none]; exact Bool.false_ne_true)]
  refine wpAny_bind (wpAny_callSpecialUnlessNone?_slot (name := Str.ofString "__contains__") hT F.slot_set_contains (wpAny_call_entry F.slot_set_contains hT entry_set_contains ?_ (F.args_set_contains_2 _ _)))
  unfold Builtin.«frozenset.__contains__» Builtin.Frozenset.oneOther
  simp only [List.isEmpty_nil, bind_assoc]
  unfold Builtin.Frozenset.addrOf Builtin.Frozenset.withSetAsKey setContains
  refine wpAny_bind (wpAny_pure ?_)
  try dsimp only
  refine wpAny_bind (wpAny_pure ?_)
  try dsimp only
  refine wpAny_bind (wpAny_tryCatch ?_)
  refine wpAny_holding ?_
  refine wpAny_bind (wpAny_pyHash_tuple ?_ hx ?_)
  · show A.units + 1 < cLine
    omega
  refine wpAny_bind ?_
  refine seek_all (s := { s with toks := s.toks + (k.length + 1) }) R hx ?_ fun r hr => ?_
  · show A.units + 1 < cLine
    omega
  refine wpAny_pure ?_
  show wpAny _ _ (ret (Value.bool r.isSome)) _ _ _
  rw [hr]
  exact wpAny_pure ⟨_, rfl, wpAny_truthy_bool (wpAny_pure (h _))⟩
/-- a.add(x) -/
theorem add_tups (R : SetTR P w s.heap a L es ep t) {x : Addr} {k : List Int} (hx : IsT P w s.heap k x) (hu : A.units + 8 < cLine) (few : L.length + 1 < 64) {Q : Value → Shared → Prop}
    (h : ∀ h' tk L' es' ep' t', Heap.SameBut a s.heap h' → SetTR P w h' a L' es' ep' t' → (k ∈ L.map (·.2) → L' = L) → (k ∉ L.map (·.2) → L'.Perm ((x, k) :: L)) → Q .none { s with heap := h', toks := tk }) :
    wpAny (model P w) A (call (.builtin "set.add") [.ref a, .ref x]) Q E s := by
  obtain ⟨o, ho, hex, hd⟩ := R.ob
  have hT : s.TypeIs (.ref a) "set" := ⟨o, ho, hex.1⟩
  refine wpAny_call_entry F.slot_set_add hT F.entry_set_add ?_ (F.args_set_add_2 _ _)
  unfold Builtin.«set.add» Builtin.Frozenset.oneOther
  simp only [List.isEmpty_nil, bind_assoc]
  unfold Builtin.Frozenset.addrOf setAdd
  refine wpAny_bind (wpAny_pure ?_)
  try dsimp only
  refine wpAny_bind (wpAny_pure ?_)
  try dsimp only
  refine wpAny_bind (wpAny_holding ?_)
  refine wpAny_bind (wpAny_pyHash_tuple ?_ hx ?_)
  · show A.units + 1 < cLine
    omega
  refine add_at (s := { s with toks := s.toks + (k.length + 1) }) R hx ?_ few fun b h' L' es' ep' t' sb R' i1 i2 => ?_
  · show A.units + 1 < cLine
    omega
  show wpAny _ _ (ret Value.none) _ _ _
  exact wpAny_pure ⟨_, rfl, h h' _ L' es' ep' t' sb R' i1 i2⟩
end

/-! ### rules -/
section
variable {X : Cx}
theorem setTO_full {pins : List (Addr × Obj)} {σ : L2.St} {H : Hp} {s : Shared} {a : Addr} {L : List (Addr × List Int)} (I : Inv X pins σ H s) (ha : H a = some (SetTO X.prog X.w a L)) (hl : ∀ p ∈ L, SqT X.K H p.1 (p.2.map V.int)) :
    ∃ es ep t, SetTR X.prog X.w s.heap a L es ep t := ((show ObjOk X.prog X.w H s.heap a (SetTO X.prog X.w a L) from I.hok a _ ha).1).full fun p hp => I.isT (hl p hp)
/-- set() -/
def rSetT0 (P : Program) (w : World) : List V → Hp → VK → Prop := fun xs H Q => xs = [] ∧ ∀ p, H p = none → Q (.ref p) (upd H p (SetTO P w p []))
theorem cr_setT0 : CallR X (.type "set") (rSetT0 X.prog X.w) := by
  intro pins s σ H xs us Q I r h
  obtain ⟨rfl, q⟩ := h
  cases r
  refine setR_new fun _ => ?_
  refine ⟨.ref _, upd H s.heap.objs.size (SetTO X.prog X.w s.heap.objs.size []), I.laid (t' := s.toks) (fun b u e => Heap.get?_push_of_some _ e) (Nat.le_refl _) (setTO_new ?_), rfl, q _ (I.hok.fresh (Nat.le_refl _))⟩
  exact (setTR_fresh (w := X.w) (P := X.prog) (Heap.get?_push_size _ rfl)).t0
/-- x in a, x not in a -/
def rInT (K : PySem.W.Frag) (P : Program) (w : World) (neg : Bool) : R2 := fun x y H Q => ∃ (p a : Addr) (k : List Int) (L : List (Addr × List Int)), x = .ref p ∧ y = .ref a ∧ SqT K H p (k.map V.int) ∧ H a = some (SetTO P w a L) ∧ (∀ q ∈ L, SqT K H q.1 (q.2.map V.int)) ∧
  Q (.bl (if neg then !decide (k ∈ L.map (·.2)) else decide (k ∈ L.map (·.2)))) H
theorem op_inT (hu : X.A.units + 64 < cLine) : OpR X (compareOp .In) (rInT X.K X.prog X.w false) := by
  rintro pins s σ H x y v u Q I rx ry ⟨p, a, k, L, rfl, rfl, hp, ha, hl, q⟩
  obtain rfl := (show v = Value.ref p from rx)
  obtain rfl := (show u = Value.ref a from ry)
  obtain ⟨es, ep, t, R⟩ := setTO_full I ha hl
  exact in_tups R (I.isT hp) (by omega) fun tk => ⟨.bl _, H, I.tok tk, rfl, q⟩
/-- a.add(x) -/
def tAddT (K : PySem.W.Frag) (P : Program) (w : World) (to te : TE) : TE := fun σ H Q => to σ H fun x H1 => (∃ a L, x = V.ref a ∧ H1 a = some (SetTO P w a L) ∧ ∀ q ∈ L, SqT K H1 q.1 (q.2.map V.int)) ∧ tCons te tNil σ H1 fun ys H2 => ∃ (a p : Addr) (k : List Int) (L : List (Addr × List Int)),
  x = V.ref a ∧ ys = [V.ref p] ∧ H2 a = some (SetTO P w a L) ∧ (∀ q ∈ L, SqT K H2 q.1 (q.2.map V.int)) ∧ SqT K H2 p (k.map V.int) ∧ L.length + 1 < 64 ∧
  ∀ L', (k ∈ L.map (·.2) → L' = L) → (k ∉ L.map (·.2) → L'.Perm ((p, k) :: L)) → Q .non (upd H2 a (SetTO P w a L'))
theorem pe_addT {o e : Expr} {to te : TE} {apos cpos : Pos} (hu : X.A.units + 64 < cLine) (ho : PE X o to) (he : PE X e te)
    (hbase : attributeBase o "add" X.env (eval o X.env) = eval o X.env := by rfl)
    (hfew : ((backTo cpos (starEach [e] X.env)).all (fun x => !x.1) && (backToKw cpos (keywordEach [] X.env)).all (fun x => x.1.isSome)
      && decide ([e].length + ([] : List Keyword).length + (if ([] : List Keyword).isEmpty then 0 else 1) < 30)) = true := by rfl)
    (hline : (apos.endLine == cpos.line) = true := by rfl) (hs : starEach [e] X.env = (false, eval e X.env) :: starEach [] X.env := by rfl) (hpl : (backTo cpos (starEach [] X.env)).any (·.1) = false := by rfl) :
    PE X (.Call (.Attribute o "add" apos) [e] [] cpos) (tAddT X.K X.prog X.w to te) := by
  refine ⟨fun pins s σ H Q I h => ?_⟩
  refine wpAny_Call_method_late hbase hfew hline rfl (thn (ho.run pins s σ H _ I h) fun v s1 ⟨x, H1, I1, r1, ⟨a0, L0, e0, ha0, hl0⟩, q1⟩ => ?_)
  subst e0
  obtain rfl := (show v = Value.ref a0 from r1)
  obtain ⟨es, ep, t, R0⟩ := setTO_full I1 ha0 hl0
  obtain ⟨o0, ho0, hex0, _⟩ := R0.ob
  refine ⟨"set", "set.add", F.plainAttrs_set, F.slot_set_add, F.type_set_add, ⟨o0, ho0, hex0.1⟩, ?_, ?_⟩
  · intro b eb
    cases eb
    exact ⟨o0, ho0, hex0.2.1⟩
  · have hA := (pa_cons he pa_nil hs).run cpos pins s1 σ H1 _ I1 q1
    rw [hs] at hA ⊢
    refine Calls.callWith_builtin (by show (false || (backTo cpos (starEach [] X.env)).any (·.1)) = false; rw [hpl] <;> rfl) (Calls.evalArgs_plain ?_)
    refine thn hA fun us s2 ⟨ys, H2, I2, r2, a, p, k, L, ea, ep2, ha, hl, hp, few, q⟩ => ?_
    subst ep2
    cases ea
    rw [Vals.ref1 r2]
    obtain ⟨es, ep, t, R⟩ := setTO_full I2 ha hl
    refine add_tups R (I2.isT hp) (by omega) few fun h' tk L' es' ep' t' sb R' i1 i2 => ?_
    have old : ∃ u, h'.get? a0 = some u := by
      obtain ⟨o1, g1, _⟩ := R'.ob
      exact ⟨o1, g1⟩
    exact ⟨.non, _, I2.write (e := a0) (t' := tk) (by rw [ha]; trivial) (.inl rfl) (fun b u hb z => (sb.2 b hb).trans z) old (setTO_new R'.t0), rfl, q L' i1 i2⟩
end
end Xs

namespace Xs
open PySem PySem.Spec PyProof.Rows L2 Xa Xb Xc
/-! ### sorted(xs), xs a list of tuples of ints of one length -/
def encT (p : Addr × List Int) : PyData := .tuple (p.2.map .int)
/-- the list in order -/
def srt (ks : List (Addr × List Int)) : List (Addr × List Int) := ks.mergeSort (PySem.W.dataLe false encT)
theorem srt_perm (ks : List (Addr × List Int)) : (srt ks).Perm ks := List.mergeSort_perm _ _
/-- sorted(xs) -/
def rSortL (K : PySem.W.Frag) : List V → Hp → VK → Prop := fun vs H Q => ∃ (a : Addr) (ks : List (Addr × List Int)) (d : Nat), vs = [V.ref a] ∧ SqL K H a (ks.map fun p => V.ref p.1) ∧ (∀ p ∈ ks, SqT K H p.1 (p.2.map V.int)) ∧ (∀ p ∈ ks, p.2.length = d + 1) ∧
  ∀ p, H p = none → Q (.ref p) (upd H p (.lst ((srt ks).map fun q => V.ref q.1)))
theorem alike_ints : ∀ (xs ys : List Int), PySem.W.alikeAll (xs.map .int) (ys.map .int) = true
  | [], [] => by simp [PySem.W.alikeAll]
  | [], _ :: _ => by simp [PySem.W.alikeAll]
  | _ :: _, [] => by simp [PySem.W.alikeAll]
  | x :: xs, y :: ys => by
    have := alike_ints xs ys
    simp [PySem.W.alikeAll, PySem.W.alike, this]
theorem depth_ints : ∀ xs : List Int, PyData.depthAll (xs.map .int) ≤ 1
  | [] => by simp [PyData.depthAll]
  | x :: xs => by
    have := depth_ints xs
    simp only [List.map_cons, PyData.depthAll, PyData.depth]
    omega
theorem each_refs {R : Value → (Addr × List Int) → Prop} : ∀ {ks : List (Addr × List Int)}, (∀ p ∈ ks, R (.ref p.1) p) → PySem.W.EachIs R (ks.map fun p => Value.ref p.1) ks
  | [], _ => .nil
  | p :: ks, h => .cons (h p List.mem_cons_self) (each_refs fun q hq => h q (List.mem_cons_of_mem _ hq))
theorem refs_each : ∀ {ks : List (Addr × List Int)} {vs : List Value}, PySem.W.EachIs (fun v (p : Addr × List Int) => v = .ref p.1) vs ks → Vals (ks.map fun p => V.ref p.1) vs
  | _, _, .nil => .nil
  | _, _, .cons e t => .cons e (refs_each t)
section
variable {X : Cx}
theorem isT_reads {P : Program} {w : World} {h : Heap} {b : Addr} {k : List Int} (x : IsT P w h k b) : ∃ as, Reads h (.ref b) (.tuple (k.map .int)) as := by
  obtain ⟨o, its, n, ho, hc, hd, hi⟩ := x
  have all : ∀ {k : List Int} {us : List Value}, IntsAre us k → ∃ as, ReadsAll h us (k.map .int) as := by
    intro k us r
    induction r with
    | nil => exact ⟨_, .nil⟩
    | cons n t _ ih =>
      obtain ⟨as, q⟩ := ih
      exact ⟨_, .cons (.int n t) q⟩
  obtain ⟨as, q⟩ := all (ints_of_items hi)
  exact ⟨as, .tuple ho hc hd q⟩
theorem cr_sortL (hc : X.calm = true) (hu : X.A.units + 64 < cLine) : CallR X (.builtin "sorted") (rSortL X.K) := by
  intro pins s σ H vs us Q I r h
  obtain ⟨a, ks, d, rfl, hl, ht, hd, q⟩ := h
  rw [Vals.ref1 r]
  obtain ⟨its, rv, pl, hz⟩ := I.list hl
  have e0 : its = ks.map fun p => Value.ref p.1 := refs_of_vals rv
  subst e0
  have hn : H (s.heap.objs.size + 1) = none := I.hok.fresh (Nat.le_succ _)
  rw [List.length_map] at hz
  refine PySem.W.sorted_data (bs := ks) (enc := encT) (R := fun v (p : Addr × List Int) => v = .ref p.1) pl.isList (each_refs fun p _ => rfl) (each_refs fun p hp => isT_reads (P := X.prog) (w := X.w) (I.isT (ht p hp))) ?_ (.inl fun e he => ?_) hz (fun p hp => ?_) fun out lo eo => ?_
  · intro e he e' he'
    obtain ⟨p, hp, rfl⟩ := List.mem_map.mp he
    obtain ⟨p', hp', rfl⟩ := List.mem_map.mp he'
    simp only [encT, PySem.W.alike, alike_ints]
  · obtain ⟨p, hp, rfl⟩ := List.mem_map.mp he
    have := hd p hp
    obtain ⟨b, l⟩ := p
    cases l with
    | nil => simp at this
    | cons x l => exact ⟨.int x, l.map .int, rfl⟩
  · have := depth_ints p.2
    show X.A.units + 2 + (PyData.tuple (p.2.map .int)).depth < cLine
    simp only [PyData.depth]
    omega
  · obtain ⟨c, hc2⟩ := PyProof.Rows.sortedAll_at s.heap (ks.map fun p => Value.ref p.1) out.toArray
    have hv := refs_each eo
    have hlen : ((srt ks).map fun q => V.ref q.1).length ≤ sizeLine := by rw [List.length_map, (srt_perm ks).length_eq]; exact hz
    refine ⟨.ref (s.heap.objs.size + 1), upd H (s.heap.objs.size + 1) (.lst ((srt ks).map fun q => V.ref q.1)), I.laid (a := s.heap.objs.size + 1) (o := .lst ((srt ks).map fun q => V.ref q.1)) (t' := s.toks) (fun b u e => PyProof.Rows.sortedAll_old e) (Nat.le_succ _) ⟨hlen, out, c, hv, hc2⟩, rfl, q _ hn⟩
end
end Xs
/-! Own ground, part P: defs that can be called by name; what kind a value is. -/
namespace Xp
open PySem PySem.Spec PyProof.Rows L2 Xa Xb Xc

/-! ### defs that can be called by their names -/
def Can (P : Program) (w : World) (K : PySem.W.Frag) (mg : Str → Option Value) (base : Heap) (C : CXT) (lev : Nat) (x : Str) (ps : List Str) (pr : Sp) : Prop :=
  ∃ (f : Addr) (fd : FuncData), FnOk P w K mg base C lev f fd ps pr ∧ mg x = some (.ref f) ∧ PySem.W.keepIn K (.ref f) = true ∧ Binds K fd ps []
def CanG (P : Program) (w : World) (K : PySem.W.Frag) (mg : Str → Option Value) (base : Heap) (lev : Nat) (x : Str) (ps : List Str) (pr : Sp) : Prop :=
  ∃ (f : Addr) (fd : FuncData), FnG P w K mg base lev f fd ps pr ∧ mg x = some (.ref f) ∧ PySem.W.keepIn K (.ref f) = true ∧ Binds K fd ps []
section
variable {X : Cx} {C : CXT} {lev : Nat} {x : Str} {ps : List Str} {pr : Sp} {E : XK} {p pos : Pos} {e : Expr} {es : List Expr} {t : TA}
theorem pe_can (c : Can X.prog X.w X.K X.mg X.base C lev x ps pr) (hr : Room lev X.A) (hx : Passes C X E) (ha : PA X (e :: es) t) (hg : Gl X x := by rfl) (hdb : (x == ("__debug__" : Str)) = false := by decide)
    (he : starEach (e :: es) X.env = (false, eval e X.env) :: starEach es X.env := by rfl) (hpl : (backTo pos (starEach es X.env)).any (·.1) = false := by rfl) : PE X (.Call (.Name x p) (e :: es) [] pos) (tCall pr [] E t) := by
  obtain ⟨f, fd, F, g, k, b⟩ := c
  exact pe_call F hr hg g k b .nil hx ha hdb he hpl
theorem pe_canG (c : CanG X.prog X.w X.K X.mg X.base lev x ps pr) (hr : Room lev X.A) (hn : NoRep X.A) (ha : PA X (e :: es) t) (hg : Gl X x := by rfl) (hdb : (x == ("__debug__" : Str)) = false := by decide)
    (he : starEach (e :: es) X.env = (false, eval e X.env) :: starEach es X.env := by rfl) (hpl : (backTo pos (starEach es X.env)).any (·.1) = false := by rfl) : PE X (.Call (.Name x p) (e :: es) [] pos) (tCall pr [] E0 t) := by
  obtain ⟨f, fd, F, g, k, b⟩ := c
  exact pe_callG F hr hn hg g k b ha hdb he hpl
theorem pe_canG0 (c : CanG X.prog X.w X.K X.mg X.base lev x ps pr) (hr : Room lev X.A) (hn : NoRep X.A) (hg : Gl X x := by rfl) (hdb : (x == ("__debug__" : Str)) = false := by decide) : PE X (.Call (.Name x p) [] [] pos) (tCall pr [] E0 tNil) := by
  obtain ⟨f, fd, F, g, k, b⟩ := c
  exact pe_callG0 F hr hn hg g k b hdb
theorem pa1 (he : PE X e te) (hs : starEach (e :: []) X.env = (false, eval e X.env) :: starEach [] X.env := by rfl) : PA X [e] (tCons te tNil) := pa_cons he pa_nil hs
/-- a built-in function by its name -/
theorem pe_bi {id : String} {r : List V → Hp → VK → Prop} (hc : CallR X (.builtin id) r) (hm : X.mg x = none) (ha : PA X (e :: es) t) (hg : Gl X x := by rfl) (hv : bootBuiltins x = some (.builtin id) := by decide +kernel) (hn : x ≠ "__name__" := by decide)
    (hdb : (x == ("__debug__" : Str)) = false := by decide) (he : starEach (e :: es) X.env = (false, eval e X.env) :: starEach es X.env := by rfl) (hpl : (backTo pos (starEach es X.env)).any (·.1) = false := by rfl) : PE X (.Call (.Name x p) (e :: es) [] pos) (tCB r t) :=
  pe_callB hc hg hm hv ha hn hdb he hpl
/-- a built-in type, called -/
theorem pe_ty {T : String} {r : List V → Hp → VK → Prop} (hc : CallR X (.type T) r) (hm : X.mg x = none) (ha : PA X (e :: es) t) (hg : Gl X x := by rfl) (hv : bootBuiltins x = some (.type T) := by decide +kernel) (hn : x ≠ "__name__" := by decide)
    (hdb : (x == ("__debug__" : Str)) = false := by decide) (he : starEach (e :: es) X.env = (false, eval e X.env) :: starEach es X.env := by rfl) (hpl : (backTo pos (starEach es X.env)).any (·.1) = false := by rfl) : PE X (.Call (.Name x p) (e :: es) [] pos) (tCB r t) :=
  pe_callTy hc hg hm hv ha hn hdb he hpl
/-- a built-in type as a value -/
theorem pe_tyv (T : String) (hm : X.mg x = none) (hg : Gl X x := by rfl) (hv : bootBuiltins x = some (.type T) := by decide +kernel) (hn : x ≠ "__name__" := by decide) (hdb : (x == ("__debug__" : Str)) = false := by decide) : PE X (.Name x p) (tC (.ty T)) :=
  pe_bltn hg hm hv rfl hn hdb
end
section
variable {K : PySem.W.Frag} {x qual : Str} {params : Arguments} {body : List Stmt} {scope : Scope} {f : Addr} {fd : FuncData} {P : Program} {w : World} {mg : Str → Option Value} {base : Heap} {C : CXT} {lev : Nat} {ps : List Str} {pr : Sp}
theorem FnOk.can (F : FnOk P w K mg base C lev f fd ps pr) (D : FunD K x qual params body scope [] [] f fd) (g : mg x = some (.ref f))
    (b : ∀ (kV doc pm : Value) (an : Option Addr) (cdv ct : Value) (us : List Value), us.length = ps.length → bindArgs (PySem.W.fnOf x qual params body scope .none kV doc pm an cdv ct) ⟨us, []⟩ = pure (ps.zip us)) : Can P w K mg base C lev x ps pr := ⟨f, fd, F, g, D.kp, D.bindsN b⟩
theorem FnG.can (F : FnG P w K mg base lev f fd ps pr) (D : FunD K x qual params body scope [] [] f fd) (g : mg x = some (.ref f))
    (b : ∀ (kV doc pm : Value) (an : Option Addr) (cdv ct : Value) (us : List Value), us.length = ps.length → bindArgs (PySem.W.fnOf x qual params body scope .none kV doc pm an cdv ct) ⟨us, []⟩ = pure (ps.zip us)) : CanG P w K mg base lev x ps pr := ⟨f, fd, F, g, D.kp, D.bindsN b⟩
end

/-! ### what kind a value is -/
/-- v's built-in type -/
def Kd (K : PySem.W.Frag) (H : Hp) (v : V) (T : String) : Prop := TyX K H v (.type T)
/-- whether v is a whole number -/
def Whl (K : PySem.W.Frag) (H : Hp) (v : V) (b : Bool) : Prop := ∃ (T : String) (b1 b2 : Bool), Kd K H v T ∧ kitB T "int" = some b1 ∧ kitB T "bool" = some b2 ∧ b = (b1 && !b2)
section
variable {K : PySem.W.Frag} {H : Hp}
theorem whl_int (i : Int) : Whl K H (.int i) true := ⟨"int", true, false, .base (.int i), by decide +kernel, by decide +kernel, rfl⟩
theorem whl_non : Whl K H .non false := ⟨"NoneType", false, false, .base .non, by decide +kernel, by decide +kernel, rfl⟩
theorem whl_bl (b : Bool) : Whl K H (.bl b) false := ⟨"bool", true, true, .base (.bl b), by decide +kernel, by decide +kernel, rfl⟩
theorem whl_str (z : Str) : Whl K H (.str z) false := ⟨"str", false, false, .base (.str z), by decide +kernel, by decide +kernel, rfl⟩
theorem whl_lst {a : Addr} {xs : List V} (e : H a = some (.lst xs)) : Whl K H (.ref a) false := ⟨"list", false, false, .base (.lst e), by decide +kernel, by decide +kernel, rfl⟩
theorem whl_tup {a : Addr} {xs : List V} (e : H a = some (.tup xs)) : Whl K H (.ref a) false := ⟨"tuple", false, false, .base (.tup e), by decide +kernel, by decide +kernel, rfl⟩
theorem whl_dic {a : Addr} {kvs : List (Key × V)} (e : H a = some (.dK kvs)) : Whl K H (.ref a) false := ⟨"dict", false, false, .base (.dK e), by decide +kernel, by decide +kernel, rfl⟩
end
/-- v as a number, if it is one -/
inductive Num (K : PySem.W.Frag) (H : Hp) : V → Option Int → Prop
  | is (i : Int) : Num K H (.int i) (some i)
  | no {v : V} (h : Whl K H v false) : Num K H v none
theorem Num.whl {K : PySem.W.Frag} {H : Hp} {v : V} {o : Option Int} : Num K H v o → Whl K H v o.isSome
  | .is i => whl_int i
  | .no h => h
def inR (o : Option Int) (lo hi : Int) : Bool := match o with
  | some i => decide (lo ≤ i) && decide (i ≤ hi)
  | none => false
/-- v is of a kind, T2 is asked -/
def IsK (K : PySem.W.Frag) (H : Hp) (v : V) (T2 : String) (b : Bool) : Prop := ∃ T, Kd K H v T ∧ kitB T T2 = some b
section
variable {K : PySem.W.Frag} {H : Hp}
theorem isk_non (T : String) {b : Bool} (h : kitB "NoneType" T = some b) : IsK K H .non T b := ⟨_, .base .non, h⟩
theorem isk_bl (x : Bool) (T : String) {b : Bool} (h : kitB "bool" T = some b) : IsK K H (.bl x) T b := ⟨_, .base (.bl x), h⟩
theorem isk_int (i : Int) (T : String) {b : Bool} (h : kitB "int" T = some b) : IsK K H (.int i) T b := ⟨_, .base (.int i), h⟩
theorem isk_str (z : Str) (T : String) {b : Bool} (h : kitB "str" T = some b) : IsK K H (.str z) T b := ⟨_, .base (.str z), h⟩
theorem isk_lst {a : Addr} {xs : List V} (e : H a = some (.lst xs)) (T : String) {b : Bool} (h : kitB "list" T = some b) : IsK K H (.ref a) T b := ⟨_, .base (.lst e), h⟩
theorem isk_tup {a : Addr} {xs : List V} (e : H a = some (.tup xs)) (T : String) {b : Bool} (h : kitB "tuple" T = some b) : IsK K H (.ref a) T b := ⟨_, .base (.tup e), h⟩
theorem isk_dic {a : Addr} {kvs : List (Key × V)} (e : H a = some (.dK kvs)) (T : String) {b : Bool} (h : kitB "dict" T = some b) : IsK K H (.ref a) T b := ⟨_, .base (.dK e), h⟩
end
/-- isinstance(v, T), v of a built-in kind -/
def rKd (K : PySem.W.Frag) : List V → Hp → VK → Prop := fun xs H Q => ∃ (v : V) (T : String) (b : Bool), xs = [v, .ty T] ∧ IsK K H v T b ∧ Q (.bl b) H
theorem call_kd {X : Cx} : CallR X (.builtin "isinstance") (rKd X.K) := by
  intro pins s σ H xs us Q I r h
  obtain ⟨v, T, b, rfl, ⟨T1, k, e⟩, q⟩ := h
  exact call_isi pins s σ H [v, .ty T] us Q I r ⟨v, .ty T, .type T1, .type T, b, rfl, .ty T, k, kit_ty e, q⟩
end Xp

namespace Xp
open PySem PySem.Spec PyProof.Rows L2 Xa Xb Xc
/-! ### FARTHEST[places]: a written dict of two ints -/
def farB (K : PySem.W.Frag) (F : Addr) : Bool := match K.lookup F with
  | some ⟨.type "dict", none, .dict ⟨[⟨h1, .int a _, .int b _⟩, ⟨h2, .int c _, .int d _⟩]⟩ _, ⟨[]⟩⟩ => decide (h1 = hashInt 1) && (decide (h2 = hashInt 2) && (decide (a = 1) && (decide (b = 2) && (decide (c = 2) && decide (d = 1)))))
  | _ => false
def rFar (K : PySem.W.Frag) : R2 := fun x y H Q => ∃ F, x = .ref F ∧ farB K F = true ∧ ((y = .int 1 ∧ Q (.int 2) H) ∨ (y = .int 2 ∧ Q (.int 1) H))
theorem far_ok {K : PySem.W.Frag} {F : Addr} (h : farB K F = true) : ∃ n t1 t2 t3 t4, K.lookup F = some ⟨.type "dict", none, .dict #[⟨hashInt 1, .int 1 t1, .int 2 t2⟩, ⟨hashInt 2, .int 2 t3, .int 1 t4⟩] n, #[]⟩ := by
  unfold farB at h
  split at h
  · rename_i e
    obtain ⟨e1, h⟩ := He.ba h
    obtain ⟨e2, h⟩ := He.ba h
    obtain ⟨e3, h⟩ := He.ba h
    obtain ⟨e4, h⟩ := He.ba h
    obtain ⟨e5, e6⟩ := He.ba h
    have e1 := of_decide_eq_true e1
    have e2 := of_decide_eq_true e2
    have e3 := of_decide_eq_true e3
    have e4 := of_decide_eq_true e4
    have e5 := of_decide_eq_true e5
    have e6 := of_decide_eq_true e6
    subst e1 e2 e3 e4 e5 e6
    exact ⟨_, _, _, _, _, e⟩
  · cases h
theorem ix_far {X : Cx} : IxR X (rFar X.K) := by
  intro value slice pins s σ H x y v u Q I rx ry h hs
  obtain ⟨F, rfl, hf, q⟩ := h
  obtain rfl : v = Value.ref F := rx
  obtain ⟨n, t1, t2, t3, t4, lk⟩ := far_ok hf
  have ho := I.kIn _ _ lk
  have hm : s.heap.MapOf (PySem.intKind X.prog X.w) F (findBy (PySem.intKind X.prog X.w).is #[⟨hashInt 1, .int 1 t1, .int 2 t2⟩, ⟨hashInt 2, .int 2 t3, .int 1 t4⟩]) := by
    refine ⟨_, _, _, ho, ⟨rfl, rfl, rfl⟩, rfl, fun e he => ?_, fun k => rfl⟩
    have he : e = ⟨hashInt 1, .int 1 t1, .int 2 t2⟩ ∨ e = ⟨hashInt 2, .int 2 t3, .int 1 t4⟩ := by simpa using he
    rcases he with rfl | rfl
    · exact ⟨1, PySem.intKind_is _ _ _ _, rfl⟩
    · exact ⟨2, PySem.intKind_is _ _ _ _, rfl⟩
  have is_ : ∀ (a b : Int) (t : Tok), (PySem.intKind X.prog X.w).is a (.int b t) = decide (a = b) := fun a b t => by
    show Value.isInt a (.int b t) = _
    unfold Value.isInt
    by_cases e : a = b
    · subst e
      simp
    · rw [decide_eq_false e]
      first | exact beq_false_of_ne (Ne.symm e) | exact beq_false_of_ne e
  rcases q with ⟨rfl, q⟩ | ⟨rfl, q⟩
  · obtain ⟨t, rfl⟩ := ry
    exact tail_any hm.typeIs slot_dict_getitem.lookup (wpAny_getItem_of (PySem.intKind_is X.prog X.w 1 t) hm (v := .int 2 t2) (by simp [findBy, is_]) ⟨.int 2, H, I.tok _, ⟨_, rfl⟩, q⟩) hs
  · obtain ⟨t, rfl⟩ := ry
    exact tail_any hm.typeIs slot_dict_getitem.lookup (wpAny_getItem_of (PySem.intKind_is X.prog X.w 2 t) hm (v := .int 1 t4) (by simp [findBy, is_]) ⟨.int 1, H, I.tok _, ⟨_, rfl⟩, q⟩) hs
end Xp
/-! Own ground, part H: the law called from outside, for defs that know that no repr is under way. -/
namespace Xh
open PySem PySem.Spec PyProof.Rows L2 Xa
/-- what can be tracked at the law's call: at most the script, and that as it stands -/
structure Track (P : Program) (w : World) (K : PySem.W.Frag) (h : Heap) (a : Addr) (ns : List Int) (H : Hp) : Prop where
  only : Only H
  seq : SqL K H a (ns.map V.int)
  hok : HOk P w H h
  just : ∀ b, H b ≠ none → b = a
  notK : H a ≠ none → K.lookup a = none
theorem track_ex {P : Program} {w : World} {K : PySem.W.Frag} {h : Heap} {a : Addr} {vs : List Value} {ns : List Int} (KX : K.In h) (ha : h.get? a = some { cls := .type "list", data := .seq vs.toArray }) (hi : IntsAre vs ns) (hl : ns.length ≤ sizeLine) : ∃ H, Track P w K h a ns H := by
  have rv := vals_ints hi
  have hlen : (ns.map V.int).length ≤ sizeLine := by rw [List.length_map] <;> exact hl
  by_cases hk : K.lookup a = none
  · refine ⟨upd (fun _ => none) a (.frz { cls := .type "list", data := .seq vs.toArray } (.lst (ns.map V.int))), fun b => ?_, .inl (.inr ⟨_, upd_same⟩), fun b u e => ?_, fun b nb => ?_, fun _ => hk⟩
    · by_cases e : b = a
      · rw [e, upd_same]
        exact .inr ⟨_, _, rfl⟩
      · rw [upd_ne e]
        exact .inl rfl
    · by_cases q : b = a
      · rw [q, upd_same] at e
        rw [← Option.some.inj e, q]
        exact ⟨ha, hlen, vs, _, rv, ha⟩
      · rw [upd_ne q] at e
        cases e
    · by_cases e : b = a
      · exact e
      · rw [upd_ne e] at nb
        exact absurd rfl nb
  · obtain ⟨o, ho⟩ := Option.ne_none_iff_exists'.mp hk
    have e := KX a o ho
    rw [ha] at e
    have eo := Option.some.inj e
    subst eo
    exact ⟨fun _ => none, fun _ => .inl rfl, .inr ⟨_, vs.toArray, _, ho, rfl, rfl, rfl, by rw [List.size_toArray, hi.length]; exact hl, by simpa using rv⟩, fun b u z => (nomatch z), fun b z => absurd rfl z, fun z => absurd rfl z⟩
/-- the call -/
theorem lawG {P : Program} {w : World} {K : PySem.W.Frag} {mg mb : Str → Option Value} {k : Nat} {fa a : Addr} {fd : FuncData} {x : Str} {sp : Sp} {s : Shared} {vs : List Value} {ns : List Int} (KX : K.In s.heap) (hns : s.heap.Ns mainGlobals mg) (hb : s.heap.Ns builtinsNs mb)
    (hbb : ∀ x : Str, x ≠ "__name__" → mb x = bootBuiltins x) (hlim : s.heap.NoLimit) (hg : s.gens = #[]) (ha : s.heap.get? a = some { cls := .type "list", data := .seq vs.toArray }) (hi : IntsAre vs ns) (hl : ns.length ≤ sizeLine) (hr : Room k callerA) (hn : NoRep callerA)
    (F : ∀ base : Heap, FnG P w K mg base k fa fd [x] sp) (hbind : ∀ (s : Shared) (u : Value), BindsTo s fd ⟨[u], []⟩ [(x, u)]) (hsp : ∀ H : Hp, SqL K H a (ns.map V.int) → sp [.ref a] H (fun v _ => v = .bl true) E0) :
    codeAny (model P w) callerA (.call (.ref fa) ⟨[.ref a], []⟩) (fun r s' => r = .ok (.ret (.bool true)) ∧ OldK s.heap s'.heap ∧ s'.os = s.os ∧ AllBare s'.gens) s := by
  obtain ⟨H, T⟩ := track_ex (P := P) (w := w) KX ha hi hl
  have free : ∀ {b : Addr} {o : Obj}, s.heap.get? b = some o → (∀ vs n, o.data ≠ .seq vs n) → H b = none := fun {b o} e ne => by
    cases q : H b with
    | none => rfl
    | some u =>
      have eb := T.just b (by rw [q]; simp)
      rw [eb, ha] at e
      have eo := Option.some.inj e
      subst eo
      exact absurd rfl (ne _ _)
  have names : ∀ {b : Addr} {m : Str → Option Value}, s.heap.Ns b m → (hidT s.heap H).Ns b m := fun ⟨o, es, ep, e, d, r⟩ => ⟨o, es, ep, hidT_get e (free e fun vs n z => by rw [d] at z; cases z), d, r⟩
  have kin : K.In (hidT s.heap H) := fun b o e => hidT_get (KX b o e) (by
    cases q : H b with
    | none => rfl
    | some u =>
      have eb := T.just b (by rw [q]; simp)
      have nk := T.notK (by rw [← eb, q]; simp)
      rw [eb, nk] at e
      cases e)
  have md : Mod K mg (hidT s.heap H) := ⟨kin, names hns, ⟨mb, names hb, hbb⟩, let ⟨mc, h1, h2⟩ := hlim; ⟨mc, names h1, h2⟩⟩
  have e0 : Env0 P w K mg (hidT s.heap H) callerA [] s H := ⟨rfl, md, fun b o e => of_hidT e, Nat.le_of_eq (hidT_size _ _), trivial, fun b z => absurd (show b ∈ ([] : List Addr) from z) List.not_mem_nil, T.hok, .of_eq hg⟩
  refine codeAny_mono ((F (hidT s.heap H)).go callerA [] s H ⟨[.ref a], []⟩ [.ref a] [.ref a] _ _ hr hn e0 (hbind s (.ref a)) (.cons rfl .nil) (hsp H T.seq)) fun r s' h => ?_
  cases r with
  | error e => exact False.elim h
  | ok fl =>
    cases fl with
    | next => exact False.elim h
    | brk => exact False.elim h
    | cont => exact False.elim h
    | ret u =>
      obtain ⟨v, H', os, bare, un, hok', r', q⟩ := h
      obtain rfl : v = .bl true := q
      obtain rfl : u = Value.bool true := r'
      refine ⟨rfl, OldK.of_keep fun b o e => ?_, os, bare⟩
      rcases T.only b with z | ⟨ob, xs, z⟩
      · exact un.keep b o e z (fun q => absurd (show b ∈ ([] : List Addr) from q) List.not_mem_nil) List.not_mem_nil
      · obtain ⟨e1, _⟩ := T.hok b _ z
        obtain ⟨e2, _⟩ := hok' b _ (un.frzs b ob _ z)
        rw [← Option.some.inj (e1.symm.trans e)]
        exact e2
/-- the walk behind the head -/
theorem walkG {l : PySem.W.OpenLaw} {n k : Nat} {q : Program} {loose : List Str} {XP : (Str → Option Value) → Heap → Prop} {YP : World → Heap → Prop} {d : DefRec} {x : Str} (hm : l.most = some n) (hn2 : n ≤ sizeLine) (hdf : d.params.defaults = []) (hr : Room k callerA) (hn : NoRep callerA)
    (F : ∀ (w : World) (mg : Str → Option Value) (fa : Addr) (h : Heap), YP w h → h.Ns mainGlobals mg → mg d.name = some (.ref fa) →
      ∃ (K : PySem.W.Frag) (fd : FuncData) (sp : Sp), K.In h ∧ (∀ (s : Shared) (u : Value), BindsTo s fd ⟨[u], []⟩ [(x, u)]) ∧ (∀ (H : Hp) (a : Addr) (ns : List Int), SqL K H a (ns.map V.int) → sp [.ref a] H (fun v _ => v = .bl true) E0) ∧ ∀ base : Heap, FnG l.prog w K mg base k fa fd [x] sp) :
    PySem.W.WalkO q loose XP YP l.row.toRowW d [] (fun f vs => PySem.call f vs) := by
  refine Att.attach_call hm hdf fun w s₀ s₁ mg mb fa o pm cd doc a vs ns G Y ho hd hcd hmg hobj hints hlen hg => ?_
  obtain ⟨K, fd, sp, KX, hb, hsp, hF⟩ := F w mg fa _ Y G.T.g hmg
  exact lawG KX G.T.g G.T.b G.T.builtins G.T.nolimit hg hobj hints (Nat.le_trans hlen hn2) hr hn hF hb fun H hS => hsp H a ns hS
end Xh
/-! The draws: cell, hash, generator, random. -/
namespace Kx
open PySem PySem.Spec PyProof.Rows L2 Xa Xb Xc Xd
def top (i : Nat) : Stmt := PySem.Challenge.pw_hearunlike_k10_webs_made.main.body.getD i (.Pass ⟨0, 0, 0, 0⟩)
abbrev FnP (K : PySem.W.Frag) (x : Str) (st : Stmt) (f : Addr) (fd : FuncData) : Prop := FunD K x x (defArgs st) (defBody st) (defScope st) [] [] f fd
abbrev sCell : Stmt := top 17
abbrev sHash : Stmt := top 18
abbrev sGener : Stmt := top 19
abbrev sRandom : Stmt := top 20
/-- the built-ins that the text has not taken -/
structure Bi (mg : Str → Option Value) : Prop where
  len : mg "len" = none
  int : mg "int" = none
  max : mg "max" = none
  range : mg "range" = none
theorem pa1 {X : Cx} {e : Expr} {te : TE} (he : PE X e te) (hs : starEach (e :: []) X.env = (false, eval e X.env) :: starEach [] X.env := by rfl) : PA X [e] (tCons te tNil) := pa_cons he pa_nil hs
section
variable {P : Program} {w : World} {K : PySem.W.Frag} {mg : Str → Option Value} {base : Heap} {f : Addr} {fd : FuncData}

/-! ### cell -/
def spCell (K : PySem.W.Frag) : Sp := fun xs H Q _ => ∃ (a : Addr) (ns : List Int) (i : Nat), xs = [.ref a, .int (i : Int)] ∧ SqL K H a (ns.map V.int) ∧ ∀ z, Q (.int z) H
theorem scCell : FnScope ["script", "index"] ["script", "index"] (defScope sCell) := ⟨rfl, rfl, rfl, by decide +kernel, rfl, by decide +kernel, by decide +kernel⟩
theorem ok_cell (F : FnP K "_law_cell" sCell f fd) (B : Bi mg) : FnG P w K mg base 1 f fd ["script", "index"] (spCell K) := by
  refine okG F scCell (fun xs H Q E h => ?_) (fun cdv A outer s H vs Q E hr hn h => ?_)
  · obtain ⟨a, ns, i, rfl, _⟩ := h
    rfl
  · obtain ⟨a, ns, i, rfl, hS, q⟩ := h
    refine ⟨_, pss_cons (ps_if (pt_cmpR op_lt (pv 1) (pe_callB call_len_seq (by rfl) B.len PySem.boot_len (pa_cons (pv 0) pa_nil)) (nomark _)) (pss_one (ps_ret (pe_ix ix_list (pv 0) (pv 1) (fun _ _ => rfl)))) pss_nil)
      (pss_one (ps_ret pe_int)), ?_⟩
    refine ⟨_, rfl, _, rfl, a, _, rfl, .inl hS, _, _, rfl, rfl, _, rfl, ite2 (fun c => ?_) (fun _ => q 0)⟩
    have hlt : i < (ns.map V.int).length := by
      have c2 := of_decide_eq_true c
      omega
    rw [List.length_map] at hlt
    exact ⟨_, rfl, _, rfl, a, _, _, .int ns[i], rfl, rfl, hS, atI_nat (by rw [List.getElem?_map, List.getElem?_eq_getElem hlt]; rfl), q _⟩

/-! ### hash -/
def spHash : Sp := fun xs H Q _ => ∃ (z i : Int), xs = [.int z, .int i] ∧ 0 ≤ z ∧ z < 2147483647 ∧ 0 ≤ i ∧ i < 2 ^ 50 ∧ ∀ r : Int, 0 ≤ r → r < 2147483587 → Q (.int r) H
theorem scHash : FnScope ["seed", "index", "mixed"] ["seed", "index"] (defScope sHash) := ⟨rfl, rfl, rfl, by decide +kernel, rfl, by decide +kernel, by decide +kernel⟩
theorem ok_hash (F : FnP K "_law_hash" sHash f fd) (B : Bi mg) : FnG P w K mg base 1 f fd ["seed", "index"] spHash := by
  refine okG F scHash (fun xs H Q E h => ?_) (fun cdv A outer s H vs Q E hr hn h => ?_)
  · obtain ⟨z, i, rfl, _⟩ := h
    rfl
  · obtain ⟨z, i, rfl, z0, z1, i0, i1, q⟩ := h
    refine ⟨_, pss_cons (ps_set (i := 2) scHash.nd rfl (Or.inl rfl) (pe_op op_modN (pe_callTy call_int1 (by rfl) B.int (by decide +kernel) (pa1 (pe_op op_add (pe_op op_add (pe_op op_add (pe_op op_mul (pv 0) pe_int) (pe_op op_mul (pe_op op_mul pe_int (pv 1)) (pv 1))) (pv 1)) pe_int))) pe_int))
      (pss_cons (ps_set (i := 2) scHash.nd rfl (Or.inl rfl) (pe_op op_modN (pe_callTy call_int1 (by rfl) B.int (by decide +kernel) (pa1 (pe_op op_add (pe_op op_mul (pv 2) (pv 2)) pe_int))) pe_int))
      (pss_one (ps_ret (pe_op op_modN (pe_callTy call_int1 (by rfl) B.int (by decide +kernel) (pa1 (pe_op op_mul (pv 2) pe_int))) pe_int)))), ?_⟩
    have m1 : ∀ x y : Int, 0 < y → 0 ≤ x.fmod y ∧ x.fmod y < y := fun x y hy => ⟨Int.fmod_nonneg_of_pos _ hy, Int.fmod_lt_of_pos _ hy⟩
    refine ⟨_, rfl, _, _, rfl, rfl, .inr ⟨by decide, by decide⟩, _, rfl, _, _, rfl, rfl, .inl ⟨by decide, by decide⟩, _, rfl, _, _, rfl, rfl, .inr ⟨by omega, by omega⟩, _, _, rfl, rfl, _, rfl, _, _, rfl, rfl, _, _, rfl, rfl, .inl ⟨_, rfl, ?_⟩⟩
    refine ⟨_, _, rfl, rfl, (by show (2147483647 : Int) ≠ 0; decide), ?_⟩
    obtain ⟨a0, a1⟩ := m1 (z * 1103515245 + 7919 * i * i + i + 1) 2147483647 (by decide)
    refine ⟨_, rfl, _, rfl, _, _, rfl, rfl, .inl ⟨by omega, by omega⟩, _, _, rfl, rfl, .inl ⟨_, rfl, ?_⟩⟩
    refine ⟨_, _, rfl, rfl, (by show (2147483629 : Int) ≠ 0; decide), ?_⟩
    refine ⟨_, rfl, _, _, rfl, rfl, .inr ⟨by decide, by decide⟩, .inl ⟨_, rfl, ?_⟩⟩
    refine ⟨_, _, rfl, rfl, (by show (2147483587 : Int) ≠ 0; decide), ?_⟩
    exact q _ (m1 _ _ (by decide)).1 (m1 _ _ (by decide)).2

/-! ### generator, random -/
/-- a generator's list stands at g, its counter at most n -/
def Gen (H : Hp) (g : Addr) (n : Nat) : Prop := ∃ g0 g1 g2 : Int, H g = some (.lst [.int g0, .int g1, .int g2]) ∧ 0 ≤ g0 ∧ g0 < 2 ^ 2000 ∧ 0 ≤ g1 ∧ g1 < 2147483647 ∧ 0 ≤ g2 ∧ g2 ≤ n
theorem op_powW {X : Cx} : OpR X (binaryOp .Pow) (rI (fun i j => 0 ≤ j ∧ (Builtin.Int.intBits i : Int) * j ≤ 2 ^ 27) fun i j => .int (i ^ j.toNat)) := by
  rintro pins st σ H x y v u Q I rx ry ⟨i, j, rfl, rfl, ⟨h1, h2⟩, q⟩
  obtain ⟨t, rfl⟩ := rx
  obtain ⟨t2, rfl⟩ := ry
  exact pow_int h1 h2 ⟨.int _, H, I.tok _, ⟨_, rfl⟩, q⟩
def spGener (K : PySem.W.Frag) : Sp := fun xs H Q _ => ∃ (a : Addr) (ns : List Int) (i : Nat), xs = [.ref a, .int (i : Int)] ∧ i ≤ 1000 ∧ SqL K H a (ns.map V.int) ∧ ∀ p H', H p = none → Same H H' → Gen H' p (1000 * i) → Q (.ref p) H'
theorem scGener : FnScope ["script", "index", "seed"] ["script", "index"] (defScope sGener) := ⟨rfl, rfl, rfl, by decide +kernel, rfl, by decide +kernel, by decide +kernel⟩
theorem ok_gener {fC : Addr} {fdC : FuncData} (F : FnP K "_law_generator" sGener f fd) (B : Bi mg) (FC : FnP K "_law_cell" sCell fC fdC) (gC : mg "_law_cell" = some (.ref fC)) : FnG P w K mg base 2 f fd ["script", "index"] (spGener K) := by
  have GC : FnG P w K mg base 1 fC fdC ["script", "index"] (spCell K) := ok_cell FC B
  have bC : Binds K fdC ["script", "index"] [] := FC.bindsN fun _ _ _ _ _ _ us hl => match us, hl with | [_, _], _ => rfl
  refine okG F scGener (fun xs H Q E h => ?_) (fun cdv A outer s H vs Q E hr hn h => ?_)
  · obtain ⟨a, ns, i, rfl, _⟩ := h
    rfl
  · obtain ⟨a, ns, i, rfl, hi, hS, q⟩ := h
    refine ⟨_, pss_cons (ps_set (i := 2) scGener.nd rfl (Or.inl rfl) (pe_callG GC hr hn rfl gC FC.kp bC (pa_cons (pv 0) (pa_cons (pv 1) pa_nil))))
      (pss_one (ps_ret (pe_lst (pa_cons (pe_op op_modN (pe_callTy call_int1 (by rfl) B.int (by decide +kernel) (pa1 (pe_callB (call_max2 rfl) (by rfl) B.max (by decide +kernel) (pa_cons (pe_op op_sub (pv 2) (pe_op op_pow pe_int pe_int)) (pa_cons pe_int pa_nil))))) (pe_op op_powW (pe_op op_pow pe_int pe_int) pe_int))
        (pa_cons (pe_op op_modN (pe_callTy call_int1 (by rfl) B.int (by decide +kernel) (pa1 (pv 2))) pe_int) (pa_cons (pe_op op_mul pe_int (pv 1)) pa_nil)))))), ?_⟩
    refine ⟨_, rfl, _, rfl, a, ns, i, rfl, hS, fun z => ?_⟩
    refine ⟨_, rfl, _, _, rfl, rfl, ⟨by decide, by decide, by decide⟩, _, _, rfl, rfl, _, _, rfl, .inl ⟨_, rfl, _, _, rfl, rfl, ⟨by decide, by decide, by decide⟩, _, _, rfl, rfl, ⟨by decide, by decide +kernel⟩, ?_⟩⟩
    have big : (0 : Int) < (10 ^ (60 : Int).toNat) ^ (10 : Int).toNat := by decide
    have big2 : ((10 : Int) ^ (60 : Int).toNat) ^ (10 : Int).toNat < 2 ^ 2000 := by decide
    refine ⟨_, _, rfl, rfl, Int.ne_of_gt big, _, rfl, .inl ⟨_, rfl, _, _, rfl, rfl, (by show (2147483647 : Int) ≠ 0; decide), _, rfl, _, _, rfl, rfl, .inl ⟨by decide, by decide⟩, (by show 3 ≤ sizeLine; decide), fun p np => ?_⟩⟩
    refine q p _ np (fun b o e => by rw [upd_ne (ne_of_none e np)]; exact e) ⟨_, _, _, upd_same, Int.fmod_nonneg_of_pos _ big, Int.lt_trans (Int.fmod_lt_of_pos _ big) big2, Int.fmod_nonneg_of_pos _ (by decide), Int.fmod_lt_of_pos _ (by decide), by omega, by omega⟩

def spRandom : Sp := fun xs H Q _ => ∃ (g : Addr) (b : Int) (n : Nat), xs = [.ref g, .int b] ∧ 0 < b ∧ b < 2 ^ 90 ∧ Gen H g n ∧ n ≤ 2 ^ 40 ∧ ∀ (r : Int) (H' : Hp), 0 ≤ r → r < b → Gen H' g (n + 4) → (∀ c, c ≠ g → H' c = H c) → Q (.int r) H'
theorem scRandom : FnScope ["generator", "bound", "drawn", "turn"] ["generator", "bound"] (defScope sRandom) := ⟨rfl, rfl, rfl, by decide +kernel, rfl, by decide +kernel, by decide +kernel⟩
theorem ok_random {fC : Addr} {fdC : FuncData} (F : FnP K "_law_random" sRandom f fd) (B : Bi mg) (FC : FnP K "_law_hash" sHash fC fdC) (gC : mg "_law_hash" = some (.ref fC)) : FnG P w K mg base 2 f fd ["generator", "bound"] spRandom := by
  have GC : FnG P w K mg base 1 fC fdC ["seed", "index"] spHash := ok_hash FC B
  have bC : Binds K fdC ["seed", "index"] [] := FC.bindsN fun _ _ _ _ _ _ us hl => match us, hl with | [_, _], _ => rfl
  refine okG F scRandom (fun xs H Q E h => ?_) (fun cdv A outer s H vs Q E hr hn h => ?_)
  · obtain ⟨g, b, n, rfl, _⟩ := h
    rfl
  · obtain ⟨g, b, n, rfl, b0, b1, ⟨g0, g1, g2, hg, g00, g01, g10, g11, g20, g21⟩, hn1, q⟩ := h
    refine ⟨_, pss_cons (ps_if (pt_cmpR op_gt (pe_ix ix_list (pv 0) pe_int (fun _ _ => rfl)) pe_int (nomark _))
        (pss_cons (ps_set (i := 2) scRandom.nd rfl (Or.inl rfl) (pe_op op_modN (pe_callTy call_int1 (by rfl) B.int (by decide +kernel) (pa1 (pe_ix ix_list (pv 0) pe_int (fun _ _ => rfl)))) (pv 1)))
        (pss_cons (ps_asg (pe_op op_fdivW (pe_ix ix_list (pv 0) pe_int (fun _ _ => rfl)) (pv 1)) (pg_sub (pv 0) pe_int set_list))
        (pss_one (ps_ret (pv 2))))) pss_nil)
      (pss_cons (ps_set (i := 2) scRandom.nd rfl (Or.inl rfl) pe_int)
      (pss_cons (ps_for PassesOwn.never rfl (pi_range1 (by rfl) B.range (pa1 (pe_op op_add pe_int (pe_op op_fdivW (pe_bits (pv 1)) pe_int)))) (pg_name (i := 3) scRandom.nd rfl (Or.inl rfl))
        (pss_cons (ps_asg (pe_op op_add (pe_ix ix_list (pv 0) pe_int (fun _ _ => rfl)) pe_int) (pg_sub (pv 0) pe_int set_list))
        (pss_one (ps_set (i := 2) scRandom.nd rfl (Or.inl rfl) (pe_op op_add (pe_op op_mul (pv 2) pe_int) (pe_callG GC hr hn rfl gC FC.kp bC (pa_cons (pe_ix ix_list (pv 0) pe_int (fun _ _ => rfl)) (pa_cons (pe_ix ix_list (pv 0) pe_int (fun _ _ => rfl)) pa_nil))))))))
      (pss_one (ps_ret (pe_op op_modN (pe_callTy call_int1 (by rfl) B.int (by decide +kernel) (pa1 (pv 2))) (pv 1)))))), ?_⟩
    have at0 : ∀ (z : Int) (r : List V), atI (V.int z :: r) 0 = some (V.int z) := fun z r => atI_nat (j := 0) rfl
    refine ⟨_, rfl, g, _, 0, .int g0, rfl, rfl, SqL.of hg, at0 _ _, _, _, rfl, rfl, _, rfl, ite2 (fun c => ?_) (fun c => ?_)⟩
    · have g0p : 0 < g0 := of_decide_eq_true c
      have bn : b.natAbs < 2 ^ 90 := by omega
      refine ⟨_, rfl, g, _, 0, .int g0, rfl, rfl, SqL.of hg, at0 _ _, .inl ⟨_, rfl, _, rfl, _, _, rfl, rfl, Int.ne_of_gt b0, ?_⟩⟩
      refine ⟨_, rfl, g, _, 0, .int g0, rfl, rfl, SqL.of hg, at0 _ _, _, rfl, _, _, rfl, rfl, wide_div b0 bn (by decide) (by decide), ?_⟩
      refine ⟨_, rfl, g, _, 0, 0, rfl, rfl, hg, rfl, _, rfl, ?_⟩
      refine q _ _ (Int.fmod_nonneg_of_pos _ b0) (Int.fmod_lt_of_pos _ b0) ⟨_, g1, g2, upd_same, Int.ediv_nonneg g00 (Int.le_of_lt b0), ?_, g10, g11, g20, by omega⟩ fun c hc => upd_ne hc
      exact Int.lt_of_le_of_lt (Int.ediv_le_self _ g00) g01
    · have bits : Builtin.Int.intBits b ≤ 90 := by
        have h1 : b.natAbs < 2 ^ 90 := by omega
        have h2 := PySem.Flt.log2_lt_of (k := 90) (by decide) h1
        unfold Builtin.Int.intBits
        split <;> omega
      have at1 : ∀ (x z : Int) (r : List V), atI (V.int x :: V.int z :: r) 1 = some (V.int z) := fun x z r => atI_nat (j := 1) rfl
      have at2 : ∀ (x y z : Int) (r : List V), atI (V.int x :: V.int y :: V.int z :: r) 2 = some (V.int z) := fun x y z r => atI_nat (j := 2) rfl
      refine ⟨_, rfl, b, rfl, _, _, rfl, rfl, ⟨by decide, by decide⟩, _, _, rfl, rfl, _, rfl, by omega, by omega, ?_⟩
      have e30 : (1 + ((Builtin.Int.intBits b : Nat) : Int) / 30).toNat ≤ 4 := by omega
      generalize (1 + ((Builtin.Int.intBits b : Nat) : Int) / 30).toNat = m at e30
      refine for_range (lo := 0) (n := m) (fun i σ H' => ∃ (dr : Int) (tv : Option V), σ = [some (.ref g), some (.int b), some (.int dr), tv] ∧ 0 ≤ dr ∧ H' = upd H g (.lst [.int g0, .int g1, .int (g2 + i)])) ⟨0, none, rfl, by decide, ?_⟩ ?_ ?_
      · funext c
        by_cases hc : c = g
        · rw [hc, upd_same, hg]
          simp
        · rw [upd_ne hc]
      · rintro i σ H' hi ⟨dr, tv, rfl, d0, rfl⟩
        refine ⟨_, rfl, g, _, 2, .int (g2 + i), rfl, rfl, SqL.of upd_same, at2 _ _ _ _, _, _, rfl, rfl, _, rfl, g, _, 2, 2, rfl, rfl, upd_same, rfl, ?_⟩
        refine ⟨_, rfl, _, _, rfl, rfl, .inr ⟨by decide, by decide⟩, _, rfl, g, _, 1, .int g1, rfl, rfl, SqL.of upd_same, at1 _ _ _, _, rfl, g, _, 2, .int (g2 + i + 1), rfl, rfl, SqL.of upd_same, at2 _ _ _ _, g1, g2 + i + 1, rfl, g10, g11, by omega, by omega, fun r r0 r1 => ?_⟩
        refine ⟨_, _, rfl, rfl, _, _, rfl, ?_, ?_⟩
        · have : 0 ≤ dr * 2147483587 := Int.mul_nonneg d0 (by decide)
          omega
        · rw [upd_upd]
          have e : g2 + (i : Int) + 1 = g2 + ((i + 1 : Nat) : Int) := by omega
          rw [← e]
          rfl
      · rintro σ H' ⟨dr, tv, rfl, d0, rfl⟩
        refine ⟨_, rfl, .inl ⟨_, rfl, _, rfl, _, _, rfl, rfl, Int.ne_of_gt b0, ?_⟩⟩
        exact q _ _ (Int.fmod_nonneg_of_pos _ b0) (Int.fmod_lt_of_pos _ b0) ⟨g0, g1, g2 + m, upd_same, g00, g01, g10, g11, by omega, by omega⟩ fun c hc => upd_ne hc
end
end Kx
/-! web_parts -/
namespace Kx
open PySem PySem.Spec PyProof.Rows L2 Xa Xb Xc Xd
abbrev sParts : Stmt := top 21
/-! ### the mathematics: lists of tuples (i, j, d) -/
/-- one tuple of a web with so many places -/
def Lnk (pl : Int) (l : List Int) : Prop := ∃ i j d : Int, l = [i, j, d] ∧ 0 ≤ i ∧ i < pl ∧ 0 ≤ j ∧ j < pl ∧ pl - 3 ≤ d ∧ d ≤ 3 - pl
def lkey : List Int → Int
  | [i, j, d] => d * 4 + i * 2 + j
  | _ => 0
/-- a web's tuples as they are drawn -/
structure Lnks (pl : Int) (ls : List (List Int)) : Prop where
  one : ∀ l ∈ ls, Lnk pl l
  nd : ls.Nodup
  few : ls.length ≤ 20
/-- the tuples stand at ps -/
def TupsAt (H : Hp) (ps : List (Addr × List Int)) : Prop := ∀ p ∈ ps, H p.1 = some (.tup (p.2.map V.int))
structure Drawn (pl k : Int) (m : Nat) (ps : List (Addr × List Int)) : Prop where
  one : ∀ p ∈ ps, Lnk pl p.2
  below : ∀ p ∈ ps, lkey p.2 < k
  rise : (ps.map fun p => lkey p.2).Pairwise (· < ·)
  few : ps.length ≤ m
theorem Drawn.more {pl k : Int} {m : Nat} {ps : List (Addr × List Int)} (D : Drawn pl k m ps) {t : Addr} {l : List Int} (hl : Lnk pl l) (hk : lkey l = k) : Drawn pl (k + 1) (m + 1) (ps ++ [(t, l)]) := by
  refine ⟨fun p hp => ?_, fun p hp => ?_, ?_, ?_⟩
  · rcases List.mem_append.mp hp with h | h
    · exact D.one p h
    · rw [List.mem_singleton.mp h]
      exact hl
  · rcases List.mem_append.mp hp with h | h
    · have := D.below p h
      omega
    · rw [List.mem_singleton.mp h]
      show lkey l < k + 1
      omega
  · rw [List.map_append, List.pairwise_append]
    refine ⟨D.rise, List.pairwise_singleton _ _, fun x hx y hy => ?_⟩
    obtain ⟨p, hp, rfl⟩ := List.mem_map.mp hx
    have e : y = lkey l := by simpa using hy
    rw [e, hk]
    exact D.below p hp
  · rw [List.length_append]
    have := D.few
    show ps.length + 1 ≤ m + 1
    omega
theorem Drawn.up {pl k k' : Int} {m m' : Nat} {ps : List (Addr × List Int)} (D : Drawn pl k m ps) (h : k ≤ k') (hm : m ≤ m') : Drawn pl k' m' ps :=
  ⟨D.one, fun p hp => Int.lt_of_lt_of_le (D.below p hp) h, D.rise, Nat.le_trans D.few hm⟩
theorem Drawn.lnks {pl k : Int} {m : Nat} {ps : List (Addr × List Int)} (D : Drawn pl k m ps) (hm : m ≤ 20) : Lnks pl (ps.map (·.2)) := by
  refine ⟨fun l hl => ?_, ?_, by rw [List.length_map]; exact Nat.le_trans D.few hm⟩
  · obtain ⟨p, hp, rfl⟩ := List.mem_map.mp hl
    exact D.one p hp
  · have h := D.rise
    rw [show (ps.map fun p => lkey p.2) = (ps.map (·.2)).map lkey from by rw [List.map_map] <;> rfl] at h
    exact (List.Pairwise.of_map lkey (fun a b (h : lkey a < lkey b) e => by rw [e] at h; exact Int.lt_irrefl _ h) h)
/-- all that was tracked stands, but at g -/
def But (g : Addr) (H H' : Hp) : Prop := ∀ c o, H c = some o → c ≠ g → H' c = some o
section
variable {P : Program} {w : World} {K : PySem.W.Frag} {mg : Str → Option Value} {base : Heap} {f : Addr} {fd : FuncData}
def spParts : Sp := fun xs H Q _ => ∃ (g : Addr) (n : Nat), xs = [.ref g] ∧ Gen H g n ∧ n ≤ 2 ^ 39 ∧ ∀ (pl : Int) (ps : List (Addr × List Int)) (t a : Addr) (H' : Hp), 1 ≤ pl → pl ≤ 2 → Lnks pl (ps.map (·.2)) → But g H H' → Gen H' g (n + 200) →
  H t = none → H a = none → t ≠ a → H' t = some (.tup [.int pl, .ref a]) → H' a = some (.lst (ps.map fun p => V.ref p.1)) → TupsAt H' ps → (∀ p ∈ ps, H p.1 = none) → Q (.ref t) H'
theorem scParts : FnScope ["generator", "places", "far", "found", "few", "distance", "one", "other"] ["generator"] (defScope sParts) := ⟨rfl, rfl, rfl, by decide +kernel, rfl, by decide +kernel, by decide +kernel⟩
/-- between the turns -/
def Mid (H : Hp) (g a : Addr) (pl : Int) (n : Nat) (k : Int) (m : Nat) (H' : Hp) : Prop := ∃ ps, Gen H' g n ∧ H' a = some (.lst (ps.map fun p => V.ref p.1)) ∧ TupsAt H' ps ∧ Drawn pl k m ps ∧ But g H H' ∧ ∀ p ∈ ps, H p.1 = none
theorem Mid.up {H : Hp} {g a : Addr} {pl k k' : Int} {n n' m m' : Nat} {H' : Hp} (M : Mid H g a pl n k m H') (hn : n ≤ n') (hk : k ≤ k') (hm : m ≤ m') : Mid H g a pl n' k' m' H' := by
  obtain ⟨ps, ⟨g0, g1, g2, h1, h2, h3, h4, h5, h6, h7⟩, la, ta, D, b, nw⟩ := M
  exact ⟨ps, ⟨g0, g1, g2, h1, h2, h3, h4, h5, h6, by omega⟩, la, ta, D.up hk hm, b, nw⟩
theorem ok_parts {fR : Addr} {fdR fdC : FuncData} {fC : Addr} (F : FnP K "_law_web_parts" sParts f fd) (B : Bi mg) (FR : FnP K "_law_random" sRandom fR fdR) (gR : mg "_law_random" = some (.ref fR)) (FC : FnP K "_law_hash" sHash fC fdC) (gC : mg "_law_hash" = some (.ref fC)) :
    FnG P w K mg base 3 f fd ["generator"] spParts := by
  have GR : FnG P w K mg base 2 fR fdR ["generator", "bound"] spRandom := ok_random FR B FC gC
  have bR : Binds K fdR ["generator", "bound"] [] := FR.bindsN fun _ _ _ _ _ _ us hl => match us, hl with | [_, _], _ => rfl
  refine okG F scParts (fun xs H Q E h => ?_) (fun cdv A outer s H vs Q E hr hn h => ?_)
  · obtain ⟨g, n, rfl, _⟩ := h
    rfl
  · obtain ⟨g, n, rfl, hG, hn1, q⟩ := h
    refine ⟨_, pss_cons (ps_set (i := 1) scParts.nd rfl (Or.inl rfl) (pe_op op_add pe_int (pe_callG GR hr hn rfl gR FR.kp bR (pa_cons (pv 0) (pa1 pe_int)))))
      (pss_cons (ps_par (i := 2) (j := 3) (by rfl) scParts.nd rfl rfl (by decide) rfl rfl (pa_cons (pe_op op_sub pe_int (pv 1)) (pa1 (pe_lst pa_nil))) (by rfl))
      (pss_cons (ps_set (i := 4) scParts.nd rfl (Or.inl rfl) (pe_op op_add pe_int (pe_callG GR hr hn rfl gR FR.kp bR (pa_cons (pv 0) (pa1 pe_int)))))
      (pss_cons (ps_for PassesOwn.never rfl (pi_range2 (by rfl) B.range (pa_cons (pe_op op_sub pe_int (pv 2)) (pa1 (pe_op op_add (pv 2) pe_int)))) (pg_name (i := 5) scParts.nd rfl (Or.inl rfl))
        (pss_one (ps_for PassesOwn.never rfl (pi_range1 (by rfl) B.range (pa1 (pv 1))) (pg_name (i := 6) scParts.nd rfl (Or.inl rfl))
          (pss_one (ps_for PassesOwn.never rfl (pi_range1 (by rfl) B.range (pa1 (pv 1))) (pg_name (i := 7) scParts.nd rfl (Or.inl rfl))
            (pss_one (ps_if (pt_cmpR op_gt (pe_callG GR hr hn rfl gR FR.kp bR (pa_cons (pv 0) (pa1 (pv 4)))) pe_int (nomark _))
              (pss_one (ps_expr (pe_bm PySem.F.plainAttrs_list PySem.F.slot_list_append PySem.F.type_list_append mt_append (pv 3) (pa1 (pe_tup (pa_cons (pv 6) (pa_cons (pv 7) (pa1 (pv 5)))))))))
              pss_nil)))))))
      (pss_one (ps_ret (pe_tup (pa_cons (pv 1) (pa1 (pv 3))))))))), ?_⟩
    refine ⟨_, rfl, g, 2, n, rfl, by decide, by decide, hG, by omega, fun r H1 r0 r1 G1 k1 => ?_⟩
    refine ⟨_, _, rfl, rfl, _, rfl, _, _, rfl, rfl, by decide, fun a na => ?_⟩
    refine ⟨_, _, rfl, ?_⟩
    have aG : a ≠ g := fun e => by
      obtain ⟨_, _, _, z, _⟩ := G1
      rw [e, z] at na
      cases na
    have Gup : ∀ {X : Hp} {m : Nat} {b : Addr} {o : HO}, Gen X g m → b ≠ g → Gen (upd X b o) g m := fun ⟨g0, g1, g2, z, r⟩ hb => ⟨g0, g1, g2, by rw [upd_ne (Ne.symm hb)]; exact z, r⟩
    refine ⟨_, rfl, g, 3, n + 4, rfl, by decide, by decide, Gup G1 aG, by omega, fun r2 H3 r20 r21 G3 k3 => ?_⟩
    refine ⟨_, _, rfl, rfl, ?_⟩
    have p1 : (1 : Int) ≤ 1 + r := by omega
    have p2 : 1 + r ≤ 2 := by omega
    have hnone : H a = none := by rw [← k1 a aG]; exact na
    have nz : ∀ t : Addr, ∀ {X : Hp}, But g H X → X t = none → H t = none ∨ t = g := fun t X b z => by
      by_cases ht : t = g
      · exact .inr ht
      · refine .inl ?_
        cases e : H t with
        | none => rfl
        | some o =>
          rw [b t o e ht] at z
          cases z
    refine ⟨_, rfl, _, _, rfl, rfl, _, rfl, _, _, rfl, rfl, _, _, rfl, ⟨by omega, by omega, by omega, by omega⟩, ?_⟩
    refine for_range (fun i σ H' => ∃ dv ov tv : Option V, σ = [some (.ref g), some (.int (1 + r)), some (.int (3 - (1 + r))), some (.ref a), some (.int (2 + r2)), dv, ov, tv] ∧ Mid H g a (1 + r) (n + 8 + 16 * i) ((0 - (3 - (1 + r)) + i) * 4) (4 * i) H')
      ⟨none, none, none, rfl, [], G3, ?_, fun p hp => (by cases hp), ⟨fun p hp => (by cases hp), fun p hp => (by cases hp), List.Pairwise.nil, Nat.zero_le _⟩, ?_, fun p hp => (by cases hp)⟩ ?_ ?_
    · rw [k3 a aG, upd_same]
      rfl
    · intro c o e hc
      rw [k3 c hc, upd_ne (ne_of_none (by rw [k1 c hc]; exact e) na), k1 c hc]
      exact e
    · rintro i σ H' hi ⟨dv, ov, tv, rfl, M⟩
      have hi5 : i < 5 := by omega
      refine ⟨_, rfl, _, rfl, by omega, by omega, for_range (lo := 0) (fun j σ H' => ∃ ov tv : Option V, σ = [some (.ref g), some (.int (1 + r)), some (.int (3 - (1 + r))), some (.ref a), some (.int (2 + r2)), some (.int (0 - (3 - (1 + r)) + i)), ov, tv] ∧ Mid H g a (1 + r) (n + 8 + 16 * i + 8 * j) ((0 - (3 - (1 + r)) + i) * 4 + 2 * j) (4 * i + 2 * j) H')
        ⟨ov, tv, rfl, by simpa using M⟩ ?_ ?_⟩
      · rintro j σ H' hj ⟨ov, tv, rfl, M⟩
        refine ⟨_, rfl, _, rfl, by omega, by omega, for_range (lo := 0) (fun k σ H' => ∃ tv : Option V, σ = [some (.ref g), some (.int (1 + r)), some (.int (3 - (1 + r))), some (.ref a), some (.int (2 + r2)), some (.int (0 - (3 - (1 + r)) + i)), some (.int (0 + j)), tv] ∧ Mid H g a (1 + r) (n + 8 + 16 * i + 8 * j + 4 * k) ((0 - (3 - (1 + r)) + i) * 4 + 2 * j + k) (4 * i + 2 * j + k) H')
          ⟨tv, rfl, by simpa using M⟩ ?_ ?_⟩
        · rintro k σ H' hk ⟨tv, rfl, ps, G, la, ta, D, b, nw⟩
          refine ⟨_, rfl, _, rfl, g, (2 + r2), _, rfl, by omega, by omega, G, by omega, fun rr H4 rr0 rr1 G4 k4 => ?_⟩
          have la4 : H4 a = some (.lst (ps.map fun p => V.ref p.1)) := by rw [k4 a aG]; exact la
          have ng : ∀ p ∈ ps, p.1 ≠ g := fun p hp e => by
            obtain ⟨_, _, _, z, _⟩ := G
            have y := ta p hp
            rw [e, z] at y
            cases y
          have ta4 : TupsAt H4 ps := fun p hp => by rw [k4 p.1 (ng p hp)]; exact ta p hp
          have b4 : But g H H4 := fun c o e hc => by rw [k4 c hc]; exact b c o e hc
          refine ⟨_, _, rfl, rfl, _, rfl, ite2 (fun c => ?_) (fun c => ?_)⟩
          · refine ⟨_, rfl, .inl ⟨rfl, _, SqL.of la4⟩, _, rfl, _, rfl, _, rfl, (by show 3 ≤ sizeLine; decide), fun t nt => ?_⟩
            have tg : t ≠ g := fun e => by
              obtain ⟨_, _, _, z, _⟩ := G4
              rw [e, z] at nt
              cases nt
            have tA : a ≠ t := ne_of_none la4 nt
            refine ⟨a, _, _, rfl, rfl, by rw [upd_ne tA]; exact la4, ?_, ?_⟩
            · rw [List.length_map]
              exact small1000 (by have := D.few; omega)
            · refine ⟨some (.int (0 + k)), rfl, ps ++ [(t, [(0 + j : Int), 0 + k, 0 - (3 - (1 + r)) + i])], ?_, ?_, ?_, ?_, ?_, ?_⟩
              · exact Gup (Gup (by simpa [Nat.add_assoc, Nat.mul_add] using G4) tg) aG
              · rw [upd_same, List.map_append]
                rfl
              · intro p hp
                rcases List.mem_append.mp hp with hp | hp
                · have y := ta4 p hp
                  rw [upd_ne (fun e => by rw [e, la4] at y; cases y), upd_ne (ne_of_none y nt)]
                  exact y
                · rw [List.mem_singleton.mp hp]
                  show (upd (upd H4 t _) a _) t = _
                  rw [upd_ne (Ne.symm tA), upd_same]
                  rfl
              · refine (D.more (t := t) ⟨0 + j, 0 + k, 0 - (3 - (1 + r)) + i, rfl, by omega, by omega, by omega, by omega, by omega, by omega⟩ ?_).up (by omega) (by omega)
                show (0 - (3 - (1 + r)) + i) * 4 + (0 + (j : Int)) * 2 + (0 + k) = _
                omega
              · intro c o e hc
                rw [upd_ne (ne_of_none e hnone), upd_ne (ne_of_none (b4 c o e hc) nt)]
                exact b4 c o e hc
              · intro p hp
                rcases List.mem_append.mp hp with hp | hp
                · exact nw p hp
                · rw [List.mem_singleton.mp hp]
                  exact (nz t b4 nt).resolve_right tg
          · exact ⟨some (.int (0 + k)), rfl, Mid.up ⟨ps, G4, la4, ta4, D, b4, nw⟩ (by omega) (by omega) (by omega)⟩
        · rintro σ H' ⟨tv, rfl, M⟩
          exact ⟨_, tv, rfl, M.up (by omega) (by omega) (by omega)⟩
      · rintro σ H' ⟨ov, tv, rfl, M⟩
        exact ⟨_, ov, tv, rfl, M.up (by omega) (by omega) (by omega)⟩
    · rintro σ H' ⟨dv, ov, tv, rfl, ps, G, la, ta, D, b, nw⟩
      refine ⟨_, rfl, _, rfl, (by show 2 ≤ sizeLine; decide), fun t nt => ?_⟩
      have tA : a ≠ t := ne_of_none la nt
      have tg : t ≠ g := fun e => by
        obtain ⟨_, _, _, z, _⟩ := G
        rw [e, z] at nt
        cases nt
      refine q (1 + r) ps t a _ p1 p2 (D.lnks (by omega)) (fun c o e hc => ?_) (Gup ?_ tg) ((nz t b nt).resolve_right tg) hnone (Ne.symm tA) upd_same ?_ (fun p hp => ?_) nw
      · rw [upd_ne (ne_of_none (b c o e hc) nt)]
        exact b c o e hc
      · obtain ⟨g0, g1, g2, h1, h2, h3, h4, h5, h6, h7⟩ := G
        exact ⟨g0, g1, g2, h1, h2, h3, h4, h5, h6, by omega⟩
      · rw [upd_ne tA]
        exact la
      · rw [upd_ne (ne_of_none (ta p hp) nt)]
        exact ta p hp
end
end Kx
/-! Own ground, part M: methods called with keywords; what leaves them may be taken by a try. -/
namespace Xm
open PySem PySem.Spec PyProof.Rows L2 Xa Xb Xc Xp
/-- keywords for keyword-only parameters, no defaults ahead of these -/
theorem kb0 {K : PySem.W.Frag} {x qual : Str} {params : Arguments} {body : List Stmt} {scope : Scope} {kws : List (Str × V)} {f : Addr} {fd : FuncData} {ps : List Str} (F : FunD K x qual params body scope [] kws f fd) (n : Nat) (ks : List Str)
    (h : ∀ (kV doc pm : Value) (an : Option Addr) (cdv ct : Value) (us ws : List Value), us.length = n → ws.length = ks.length → bindArgs (PySem.W.fnOf x qual params body scope .none kV doc pm an cdv ct) ⟨us, ks.zip ws⟩ = pure (ps.zip (us ++ ws))) :
    KBn K fd ps n ks (fun us ws => us ++ ws) (fun vs zs => vs ++ zs) := by
  obtain ⟨oc, od, dV, kV, doc, pm, an, cdv, ct, osl, rfl, lk, hcd, hD, hK⟩ := F.ex
  rcases hD with ⟨_, rfl⟩ | ⟨e, _⟩
  · exact ⟨fun s us ws _ l1 l2 => .of_eq (h kV doc pm an cdv ct us ws l1 l2), fun r1 r2 => r1.append r2⟩
  · exact absurd rfl e
/-- nothing leaves -/
theorem passAt0 {X : Cx} (σ : L2.St) : PassesAt (L2.CX X.prog X.w) X σ E0 := fun _ _ _ _ _ _ ⟨_, _, _, _, _, _, _, _, _, _, _, _, q⟩ => False.elim q
/-- o.m(e, .., k = v, ..) -/
def tMethN (C : Addr) (m : Str) (n j : Nat) (sp : Sp) (gV : List V → List V → List V) (E : L2.St → XK) (ta : TE) (t tk : TA) : TE := fun σ H Q => ta σ H fun x H1 => ∃ a dx fs, x = .ref a ∧ H1 a = some (.ins C dx fs) ∧ fs.lookup m = none ∧
  t σ H1 fun vs H2 => tk σ H2 fun zs H3 => (x :: vs).length = n ∧ zs.length = j ∧ sp (gV (x :: vs) zs) H3 Q (E σ)
/-- o.m(e, ..) -/
def tMethD (C : Addr) (m : Str) (sp : Sp) (dvs : List V) (E : L2.St → XK) (ta : TE) (t : TA) : TE := fun σ H Q => ta σ H fun x H1 => ∃ a dx fs, x = .ref a ∧ H1 a = some (.ins C dx fs) ∧ fs.lookup m = none ∧ t σ H1 fun vs H2 => sp (x :: (vs ++ dvs)) H2 Q (E σ)
section
variable {X : Cx} {CX : CXT} {k n : Nat} {f C : Addr} {fd : FuncData} {ps ks : List Str} {sp : Sp} {E : L2.St → XK} {m : Str} {p pos apos : Pos} {o e : Expr} {es : List Expr} {kws : List Keyword} {ta : TE} {t tk : TA} {g : List Value → List Value → List Value} {gV : List V → List V → List V} {ds : List Value} {dvs : List V}
theorem fin_call {pins : List (Addr × Obj)} {σ : L2.St} {H : Hp} {s : Shared} {Q : VK} {ar : Args} {us : List Value} {vs : List V} (F : FnOk X.prog X.w X.K X.mg X.base CX k f fd ps sp) (hr : Room k X.A) (hx : PassesAt CX X σ (E σ)) (I : Inv X pins σ H s)
    (hb : BindsTo s fd ar (ps.zip us)) (r : Vals vs us) (h : sp vs H Q (E σ)) : wpAny (model X.prog X.w) X.A (call (.ref f) ar.pos ar.kw) (EP X pins σ Q) X.xe s := by
  refine wpAny_call (codeAny_mono (F.run X.A X.stack s H ar us vs Q (E σ) hr I.env0 hb r h) fun r s' hq => ?_)
  cases r with
  | error e => exact hx pins H s e s' I hq
  | ok fl =>
    cases fl with
    | ret u => exact I.after hq
    | next => exact False.elim hq
    | brk => exact False.elim hq
    | cont => exact False.elim hq
theorem pe_methN {pl : Sem Bool} (he : PE X o ta) (c : Cls X.K C) (hm : Meth X.K C m f) (F : FnOk X.prog X.w X.K X.mg X.base CX k f fd ps sp) (hr : Room k X.A) (hb : KBn X.K fd ps n ks g gV) (hx : ∀ σ, PassesAt CX X σ (E σ)) (ha : PA X (e :: es) t) (hkw : PK X kws tk)
    (hall : (backToKw pos (keywordEach kws X.env)).all (·.1.isSome) = true := by rfl) (hks : (backToKw pos (keywordEach kws X.env)).filterMap (·.1) = ks := by rfl)
    (hst : starEach (e :: es) X.env = (false, eval e X.env) :: starEach es X.env := by rfl) (hpl : ((backTo pos (starEach (e :: es) X.env)).any (·.1) || (backToKw pos (keywordEach kws X.env)).any (·.1.isNone)) = false := by rfl)
    (ht : eval (.Call (.Attribute o m apos) (e :: es) kws pos) X.env = (do
      let ov ← eval o X.env
      standAt apos.atName
      let (f, first) ← holding [ov] (getMethod ov m pl)
      callWith pos f first (backTo pos (starEach (e :: es) X.env)) (backToKw pos (keywordEach kws X.env))) := by rfl) :
    PE X (.Call (.Attribute o m apos) (e :: es) kws pos) (tMethN C m n ks.length sp gV E ta t tk) := by
  refine ⟨fun pins s σ H Q I h => ?_⟩
  refine PySem.W.methodCall_KW (pl := pl) (thn (he.run pins s σ H _ I h) fun u s1 ⟨x, H1, I1, rx, a, dx, fs, ex, ea, l, q⟩ => ?_) ht
  subst ex
  obtain rfl : u = Value.ref a := rx
  refine getmeth_ok I1 ea c hm l ?_
  refine PySem.W.callWith_KW (first := [.ref a]) (h₀ := X.base) I.ok.mod.kin hm.kp hall (thn (ha.run pos pins s1 σ H1 _ I1 q) fun us s2 ⟨vs, H2, I2, r, q2⟩ => ?_) hpl hst
  refine thn (hkw.run pos pins s2 σ H2 _ I2 q2) fun ws s3 ⟨zs, H3, I3, rz, l1, l2, q3⟩ => ⟨I3.kIn, ?_⟩
  rw [hks]
  have r1 : Vals (V.ref a :: vs) (Value.ref a :: us) := .cons rfl r
  exact fin_call (ar := ⟨.ref a :: us, ks.zip ws⟩) F hr (hx σ) I3 (hb.to s3 (.ref a :: us) ws I3.kIn (r1.length.symm.trans l1) (rz.length.symm.trans l2)) (hb.rel r1 rz) q3
theorem pe_methD {pl : Sem Bool} (he : PE X o ta) (c : Cls X.K C) (hm : Meth X.K C m f) (F : FnOk X.prog X.w X.K X.mg X.base CX k f fd ps sp) (hr : Room k X.A) (hb : Binds X.K fd ps ds) (hd : Vals dvs ds) (hx : ∀ σ, PassesAt CX X σ (E σ)) (ha : PA X (e :: es) t)
    (hst : starEach (e :: es) X.env = (false, eval e X.env) :: starEach es X.env := by rfl) (hpl : (backTo pos (starEach es X.env)).any (·.1) = false := by rfl)
    (ht : eval (.Call (.Attribute o m apos) (e :: es) [] pos) X.env = (do
      let ov ← eval o X.env
      standAt apos.atName
      let (f, first) ← holding [ov] (getMethod ov m pl)
      callWith pos f first (backTo pos (starEach (e :: es) X.env)) (backToKw pos (keywordEach [] X.env))) := by rfl) :
    PE X (.Call (.Attribute o m apos) (e :: es) [] pos) (tMethD C m sp dvs E ta t) := by
  refine ⟨fun pins s σ H Q I h => ?_⟩
  refine PySem.W.methodCall_KW (pl := pl) (thn (he.run pins s σ H _ I h) fun u s1 ⟨x, H1, I1, rx, a, dx, fs, ex, ea, l, q⟩ => ?_) ht
  subst ex
  obtain rfl : u = Value.ref a := rx
  refine getmeth_ok I1 ea c hm l ?_
  refine PySem.W.callWith_K (first := [.ref a]) (h₀ := X.base) I.ok.mod.kin hm.kp (thn (ha.run pos pins s1 σ H1 _ I1 q) fun us s2 ⟨vs, H2, I2, r, q2⟩ => ⟨I2.kIn, ?_⟩) hst hpl
  have r2 : Vals (V.ref a :: (vs ++ dvs)) (Value.ref a :: (us ++ ds)) := .cons rfl (r.append hd)
  have hl : (Value.ref a :: (us ++ ds)).length = ps.length := by rw [← r2.length]; exact F.len _ _ _ _ q2
  exact fin_call (ar := ⟨.ref a :: us, []⟩) F hr (hx σ) I2 (hb s2 (.ref a :: us) I2.kIn hl) r2 q2
end
end Xm
/-! The program's checks. -/
namespace Kx
open PySem PySem.Spec PyProof.Rows L2 Xa Xb Xc Xd Xs Xp Xm
abbrev sWhole : Stmt := top 8
abbrev sBetween : Stmt := top 9
abbrev sCkPlaces : Stmt := top 10
abbrev sIsItem : Stmt := top 14
structure Bi2 (mg : Str → Option Value) : Prop extends Bi mg where
  isi : mg "isinstance" = none
  bool : mg "bool" = none
  tuple : mg "tuple" = none
  list : mg "list" = none
  set : mg "set" = none
  sorted : mg "sorted" = none
  abs : mg "abs" = none
  repr : mg "repr" = none
/-- how a def of the text stands -/
structure Dfn (K : PySem.W.Frag) (mg : Str → Option Value) (x : Str) (st : Stmt) : Prop where
  at_ : ∃ (f : Addr) (fd : FuncData), FnP K x st f fd ∧ mg x = some (.ref f)
def Ref (E : XK) (H : Hp) (C : Addr) (v : V) : Prop := ∀ d, H d = none → E (.ref C) (some d) (upd H d (.xd [("value", v)]))
section
variable {P : Program} {w : World} {K : PySem.W.Frag} {mg : Str → Option Value} {base : Heap} {f : Addr} {fd : FuncData}
def spWhole (K : PySem.W.Frag) : Sp := fun xs H Q _ => ∃ v b, xs = [v] ∧ Whl K H v b ∧ Q (.bl b) H
theorem scWhole : FnScope ["value"] ["value"] (defScope sWhole) := ⟨rfl, rfl, rfl, by decide +kernel, rfl, by decide +kernel, by decide +kernel⟩
theorem can_whole (D : Dfn K mg "is_whole" sWhole) (B : Bi2 mg) : Can P w K mg base CX0 1 "is_whole" ["value"] (spWhole K) := by
  obtain ⟨f, fd, F, g⟩ := D.at_
  refine FnOk.can (F.ok scWhole (fun xs H Q E h => ?_) (fun cdv A outer s H vs Q E hr h => ?_)) F g fun _ _ _ _ _ _ us hl => match us, hl with | [_], _ => rfl
  · obtain ⟨v, b, rfl, _⟩ := h
    rfl
  · obtain ⟨v, b, rfl, ⟨T, b1, b2, kd, e1, e2, rfl⟩, q⟩ := h
    refine ⟨_, PSs.nox (pss_one (ps_ret (pe_and (pe_bi call_kd B.isi (pa_cons (pv 0) (pa1 (pe_tyv "int" B.int)))) (pe_one (pe_not (pe_bi call_kd B.isi (pa_cons (pv 0) (pa1 (pe_tyv "bool" B.bool))))))))), ?_⟩
    refine ⟨_, rfl, v, "int", b1, rfl, ⟨T, kd, e1⟩, b1, rfl, ?_⟩
    cases b1 with
    | true => exact iteT ⟨_, rfl, v, "bool", b2, rfl, ⟨T, kd, e2⟩, b2, rfl, q⟩
    | false => exact iteF q
def spBetween (K : PySem.W.Frag) : Sp := fun xs H Q _ => ∃ v o lo hi, xs = [v, .int lo, .int hi] ∧ Num K H v o ∧ Q (.bl (inR o lo hi)) H
theorem scBetween : FnScope ["value", "low", "high"] ["value", "low", "high"] (defScope sBetween) := ⟨rfl, rfl, rfl, by decide +kernel, rfl, by decide +kernel, by decide +kernel⟩
theorem can_between (D : Dfn K mg "is_between" sBetween) (cW : Can P w K mg base CX0 1 "is_whole" ["value"] (spWhole K)) : Can P w K mg base CX0 2 "is_between" ["value", "low", "high"] (spBetween K) := by
  obtain ⟨f, fd, F, g⟩ := D.at_
  refine FnOk.can (F.ok scBetween (fun xs H Q E h => ?_) (fun cdv A outer s H vs Q E hr h => ?_)) F g fun _ _ _ _ _ _ us hl => match us, hl with | [_, _, _], _ => rfl
  · obtain ⟨v, o, lo, hi, rfl, _⟩ := h
    rfl
  · obtain ⟨v, o, lo, hi, rfl, N, q⟩ := h
    refine ⟨_, PSs.nox (pss_one (ps_ret (pe_and (pe_can cW hr pass0 (pa1 (pv 0))) (pe_one (pe_chain op_le op_le (pv 1) (pv 0) (pv 2)))))), ?_⟩
    refine ⟨_, rfl, v, o.isSome, rfl, N.whl, _, rfl, ?_⟩
    cases N with
    | is i =>
      refine iteT ⟨_, rfl, _, rfl, lo, i, rfl, rfl, _, rfl, ?_⟩
      by_cases c : lo ≤ i
      · rw [decide_eq_true c]
        refine iteT ⟨_, rfl, i, hi, rfl, rfl, ?_⟩
        have e : inR (some i) lo hi = decide (i ≤ hi) := by
          show (decide (lo ≤ i) && decide (i ≤ hi)) = _
          rw [decide_eq_true c, Bool.true_and]
        rw [e] at q
        exact q
      · rw [decide_eq_false c]
        refine iteF ?_
        have e : inR (some i) lo hi = false := by
          show (decide (lo ≤ i) && decide (i ≤ hi)) = _
          rw [decide_eq_false c, Bool.false_and]
        rw [e] at q
        exact q
    | no h => exact iteF q
def spCkPlaces (K : PySem.W.Frag) (CN : Addr) : Sp := fun xs H Q E => ∃ v o, xs = [v] ∧ Num K H v o ∧ (inR o 1 2 = true → Q .non H) ∧ (inR o 1 2 = false → Ref E H CN v)
theorem scCkPlaces : FnScope ["places"] ["places"] (defScope sCkPlaces) := ⟨rfl, rfl, rfl, by decide +kernel, rfl, by decide +kernel, by decide +kernel⟩
theorem can_ckplaces {CN : Addr} {tm : Tok} (D : Dfn K mg "check_places" sCkPlaces) (gM : mg "MOST_PLACES" = some (.int 2 tm)) (M : Xc.XMake P w K mg base "InvalidNumber" CN "value") (cB : Can P w K mg base CX0 2 "is_between" ["value", "low", "high"] (spBetween K)) :
    Can P w K mg base (L2.CX P w) 3 "check_places" ["places"] (spCkPlaces K CN) := by
  obtain ⟨f, fd, F, g⟩ := D.at_
  refine FnOk.can (F.ok scCkPlaces (fun xs H Q E h => ?_) (fun cdv A outer s H vs Q E hr h => ?_)) F g fun _ _ _ _ _ _ us hl => match us, hl with | [_], _ => rfl
  · obtain ⟨v, o, rfl, _⟩ := h
    rfl
  · obtain ⟨v, o, rfl, N, yes, no⟩ := h
    refine ⟨_, pss_one (ps_if (pt_not (pt_val (pe_can cB hr pass0 (pa_cons (pv 0) (pa_cons pe_int (pa1 (pe_glob (v := .int 2) (by rfl) gM ⟨_, rfl⟩))))))) (pss_one (ps_rz rfl M (hr.mono (by decide)) (takes_of rfl rfl rfl rfl) (by rfl) (pv 0))) pss_nil), ?_⟩
    refine ⟨_, rfl, v, o, 1, 2, rfl, N, _, rfl, ?_⟩
    cases e : inR o 1 2 with
    | true => exact iteF (yes e)
    | false => exact iteT ⟨_, rfl, no e⟩
/-! ### items -/
/-- whether v is a tuple of a web with so many places -/
inductive Item (K : PySem.W.Frag) (H : Hp) (pl : Int) : V → Bool → Prop
  | kind {v : V} (h : IsK K H v "tuple" false) : Item K H pl v false
  | size {t : Addr} {xs : List V} (h : H t = some (.tup xs)) (hn : xs.length ≠ 3) : Item K H pl (.ref t) false
  | three {t : Addr} {x y z : V} {ox oy oz : Option Int} (h : H t = some (.tup [x, y, z])) (hx : Num K H x ox) (hy : Num K H y oy) (hz : Num K H z oz) :
      Item K H pl (.ref t) (inR ox 0 (pl - 1) && (inR oy 0 (pl - 1) && inR oz (-(3 - pl)) (3 - pl)))
def spIsItem (K : PySem.W.Frag) : Sp := fun xs H Q _ => ∃ v pl b, xs = [v, .int pl] ∧ (pl = 1 ∨ pl = 2) ∧ Item K H pl v b ∧ Q (.bl b) H
theorem scIsItem : FnScope ["value", "places", "i", "j", "d", "far"] ["value", "places"] (defScope sIsItem) := ⟨rfl, rfl, rfl, by decide +kernel, rfl, by decide +kernel, by decide +kernel⟩
theorem can_isitem (D : Dfn K mg "is_item" sIsItem) (B : Bi2 mg) (cB : Can P w K mg base CX0 2 "is_between" ["value", "low", "high"] (spBetween K)) {Fa : Addr} (gF : mg "FARTHEST" = some (.ref Fa)) (hF : farB K Fa = true) :
    Can P w K mg base CX0 3 "is_item" ["value", "places"] (spIsItem K) := by
  obtain ⟨f, fd, F, g⟩ := D.at_
  refine FnOk.can (F.ok scIsItem (fun xs H Q E h => ?_) (fun cdv A outer s H vs Q E hr h => ?_)) F g fun _ _ _ _ _ _ us hl => match us, hl with | [_, _], _ => rfl
  · obtain ⟨v, pl, b, rfl, _⟩ := h
    rfl
  · obtain ⟨v, pl, b, rfl, pp, S, q⟩ := h
    refine ⟨_, PSs.nox (pss_cons (ps_if (PW.pt (pw_or (pt_not (pt_val (pe_bi call_kd B.isi (pa_cons (pv 0) (pa1 (pe_tyv "tuple" B.tuple)))))) (pw_or1 (pt_cmpR op_ne (pe_bi call_len_seq B.len (pa1 (pv 0))) pe_int (nomark _))))) (pss_one (ps_ret pe_bl)) pss_nil)
      (pss_cons (ps_asg (pv 0) (pg_tup (by rfl) (pgs_cons (pg_name (i := 2) scIsItem.nd rfl (.inl rfl)) (pgs_cons (pg_name (i := 3) scIsItem.nd rfl (.inl rfl)) (pgs_cons (pg_name (i := 4) scIsItem.nd rfl (.inl rfl)) pgs_nil)))))
      (pss_cons (ps_set (i := 5) scIsItem.nd rfl (.inl rfl) (pe_ix ix_far (pe_glob (v := .ref Fa) (by rfl) gF rfl) (pv 1) (fun _ _ => rfl)))
      (pss_one (ps_ret (pe_and (pe_can cB hr pass0 (pa_cons (pv 2) (pa_cons pe_int (pa1 (pe_op op_sub (pv 1) pe_int)))))
        (pe_and (pe_can cB hr pass0 (pa_cons (pv 3) (pa_cons pe_int (pa1 (pe_op op_sub (pv 1) pe_int))))) (pe_one (pe_can cB hr pass0 (pa_cons (pv 4) (pa_cons (pe_un un_neg (pv 5)) (pa1 (pv 5))))))))))))), ?_⟩
    cases S with
    | kind h => exact ⟨_, rfl, v, "tuple", false, rfl, h, false, rfl, iteT (iteT q)⟩
    | @size t xs h hn =>
      refine ⟨_, rfl, _, "tuple", true, rfl, isk_tup h _ (by decide +kernel), true, rfl, iteF ⟨_, rfl, t, xs, rfl, .inr (SqT.of h), rfl, _, rfl, ?_⟩⟩
      have e : decide (V.int (xs.length : Int) = V.int 3) = false := decide_eq_false fun z => hn (by injection z with z; omega)
      show if (!decide (V.int (xs.length : Int) = V.int 3)) = true then _ else _
      rw [e]
      exact iteT q
    | @three t x y z ox oy oz h hx hy hz =>
      refine ⟨_, rfl, _, "tuple", true, rfl, isk_tup h _ (by decide +kernel), true, rfl, iteF ⟨_, rfl, t, _, rfl, .inr (SqT.of h), rfl, _, rfl, iteF ?_⟩⟩
      refine ⟨_, rfl, t, _, rfl, SqT.of h, rfl, ?_⟩
      refine ⟨x, _, rfl, y, _, rfl, z, _, rfl, rfl, ?_⟩
      rcases pp with rfl | rfl
      · refine ⟨_, rfl, Fa, rfl, hF, .inl ⟨rfl, ?_⟩⟩
        refine ⟨_, rfl, _, rfl, _, _, rfl, rfl, x, ox, 0, 1 - 1, rfl, hx, _, rfl, ?_⟩
        cases e1 : inR ox 0 (1 - 1) with
        | false =>
          rw [e1] at q
          exact iteF q
        | true =>
          rw [e1] at q
          refine iteT ⟨_, rfl, _, rfl, _, _, rfl, rfl, y, oy, 0, 1 - 1, rfl, hy, _, rfl, ?_⟩
          cases e2 : inR oy 0 (1 - 1) with
          | false =>
            rw [e2] at q
            exact iteF q
          | true =>
            rw [e2] at q
            exact iteT ⟨_, rfl, _, rfl, _, rfl, _, rfl, z, oz, -2, 2, rfl, hz, q⟩
      · refine ⟨_, rfl, Fa, rfl, hF, .inr ⟨rfl, ?_⟩⟩
        refine ⟨_, rfl, _, rfl, _, _, rfl, rfl, x, ox, 0, 2 - 1, rfl, hx, _, rfl, ?_⟩
        cases e1 : inR ox 0 (2 - 1) with
        | false =>
          rw [e1] at q
          exact iteF q
        | true =>
          rw [e1] at q
          refine iteT ⟨_, rfl, _, rfl, _, _, rfl, rfl, y, oy, 0, 2 - 1, rfl, hy, _, rfl, ?_⟩
          cases e2 : inR oy 0 (2 - 1) with
          | false =>
            rw [e2] at q
            exact iteF q
          | true =>
            rw [e2] at q
            exact iteT ⟨_, rfl, _, rfl, _, rfl, _, rfl, z, oz, -1, 1, rfl, hz, q⟩
end
end Kx
/-! Own ground, part R: what can be told by repr; kinds, under growth. -/
namespace Xr
open PySem PySem.Spec PyProof.Rows L2 Xa Xb Xc Xp
section
variable {K : PySem.W.Frag} {H H' : Hp}
theorem sqt_same (e : Same H H') {a : Addr} {xs : List V} (h : SqT K H a xs) : SqT K H' a xs := by
  rcases h with (h | ⟨o, h⟩) | h
  · exact .inl (.inl (e _ _ h))
  · exact .inl (.inr ⟨o, e _ _ h⟩)
  · exact .inr h
mutual
theorem dq_same (e : Same H H') : ∀ {v : V} {d : PyData} {ls : List Addr}, Dq K H v d ls → Dq K H' v d ls
  | _, _, _, .non => .non
  | _, _, _, .bl b => .bl b
  | _, _, _, .int i => .int i
  | _, _, _, .str z => .str z
  | _, _, _, .lst h t => .lst (e.seq h) (dqs_same e t)
  | _, _, _, .tup h t => .tup (sqt_same e h) (dqs_same e t)
  | _, _, _, .dic h t1 t2 => .dic (e _ _ h) (dqs_same e t1) (dqs_same e t2)
theorem dqs_same (e : Same H H') : ∀ {v : List V} {d : List PyData} {ls : List Addr}, Dqs K H v d ls → Dqs K H' v d ls
  | _, _, _, .nil => .nil
  | _, _, _, .cons h t => .cons (dq_same e h) (dqs_same e t)
end
theorem ty_same (e : Same H H') {v : V} {t : Value} (h : TyX K H v t) : TyX K H' v t := by
  cases h with
  | base h =>
    cases h with
    | non => exact .base .non
    | bl x => exact .base (.bl x)
    | int x => exact .base (.int x)
    | str x => exact .base (.str x)
    | flt x => exact .base (.flt x)
    | lst h => exact .base (.lst (e _ _ h))
    | frz h => exact .base (.frz (e _ _ h))
    | tup h => exact .base (.tup (e _ _ h))
    | dK h => exact .base (.dK (e _ _ h))
    | dT h => exact .base (.dT (e _ _ h))
    | ins h a b c d k => exact .base (.ins (e _ _ h) a b c d k)
  | byt b => exact .byt b
  | set h => exact .set (e _ _ h)
  | kList h c => exact .kList h c
  | kTuple h c => exact .kTuple h c
  | kDict h c => exact .kDict h c
  | fTuple h => exact .fTuple (e _ _ h)
  | fDict h => exact .fDict (e _ _ h)
theorem isk_same (e : Same H H') {v : V} {T : String} {b : Bool} (h : IsK K H v T b) : IsK K H' v T b :=
  let ⟨t, k, q⟩ := h
  ⟨t, ty_same e k, q⟩
end
/-- v is told as txt -/
def Rep (K : PySem.W.Frag) (H : Hp) (v : V) (txt : Str) : Prop := ∃ (d : PyData) (ls : List Addr), Dq K H v d ls ∧ (d.hasDict = true → sysModules ∉ ls) ∧ d.showable = true ∧ d.depth ≤ 60 ∧ d.shown.length ≤ sizeLine ∧ PyData.strOk d.shown = true ∧ txt = d.shown
theorem rep_same {K : PySem.W.Frag} {H H' : Hp} (e : Same H H') {v : V} {t : Str} : Rep K H v t → Rep K H' v t := fun ⟨d, ls, h, r⟩ => ⟨d, ls, dq_same e h, r⟩
theorem Rep.ok {K : PySem.W.Frag} {H : Hp} {v : V} {t : Str} : Rep K H v t → PyData.strOk t = true := fun ⟨_, _, _, _, _, _, _, h, e⟩ => by rw [e] <;> exact h
/-- the reading of repr, by Rep -/
theorem rep_r {K : PySem.W.Frag} {H : Hp} {v : V} {t : Str} {Q : VK} (r : Rep K H v t) (q : Q (.str t) H) : rRepr K [v] H Q := by
  obtain ⟨d, ls, h, h1, h2, h3, h4, h5, rfl⟩ := r
  exact ⟨v, d, ls, rfl, h, h1, h2, h3, h4, q⟩
/-- v is told as txt by one who lengthens lists; behind that the heap is the last -/
inductive Res (K : PySem.W.Frag) (H : Hp) : V → Str → Hp → Prop
  | other {v : V} {t : Str} (k : IsK K H v "list" false) (r : Rep K H v t) : Res K H v t H
  | list {a : Addr} {xs : List V} {t : Str} (e : H a = some (.lst xs)) (z : xs.length < 900) (r : Rep K (upd H a (.lst (xs ++ [.str "more"]))) (.ref a) t) : Res K H (.ref a) t (upd H a (.lst (xs ++ [.str "more"])))
theorem Res.rep {K : PySem.W.Frag} {H H2 : Hp} {v : V} {t : Str} : Res K H v t H2 → Rep K H2 v t
  | .other _ r => r
  | .list _ _ r => r
end Xr
/-! check_items on good items; Web's __init__ and hears. -/
namespace Kx
open PySem PySem.Spec PyProof.Rows L2 Xa Xb Xc Xd Xs Xp Xm Xr
abbrev sItems : Stmt := top 15
section
variable {P : Program} {w : World} {K : PySem.W.Frag} {mg : Str → Option Value} {base : Heap} {f : Addr} {fd : FuncData} {CN CS : Addr}
theorem inR_t {i lo hi : Int} (h1 : lo ≤ i) (h2 : i ≤ hi) : inR (some i) lo hi = true := by
  show (decide (lo ≤ i) && decide (i ≤ hi)) = true
  rw [decide_eq_true h1, decide_eq_true h2]
  rfl
theorem Lnk.item {H : Hp} {pl : Int} {l : List Int} {t : Addr} (h : Lnk pl l) (ht : H t = some (.tup (l.map V.int))) : Item K H pl (.ref t) true := by
  obtain ⟨i, j, d, rfl, h1, h2, h3, h4, h5, h6⟩ := h
  have r : Item K H pl (.ref t) (inR (some i) 0 (pl - 1) && (inR (some j) 0 (pl - 1) && inR (some d) (-(3 - pl)) (3 - pl))) := .three (x := .int i) (y := .int j) (z := .int d) ht (.is i) (.is j) (.is d)
  rw [inR_t h1 (by omega), inR_t h3 (by omega), inR_t (by omega) h6] at r
  exact r
theorem num_same {K : PySem.W.Frag} {H H' : Hp} (e : Same H H') {v : V} {o : Option Int} : Num K H v o → Num K H' v o
  | .is i => .is i
  | .no ⟨T, b1, b2, k, e1, e2, e3⟩ => .no ⟨T, b1, b2, ty_same e k, e1, e2, e3⟩
theorem item_same {H H' : Hp} (e : Same H H') {pl : Int} {v : V} {b : Bool} : Item K H pl v b → Item K H' pl v b
  | .kind h => .kind (Xr.isk_same e h)
  | .size h n => .size (e _ _ h) n
  | .three h x y z => .three (e _ _ h) (num_same e x) (num_same e y) (num_same e z)
/-! ### check_items -/
/-- good tuples, no two alike; behind them nothing, or one that is none or was ahead of it -/
def spItems (K : PySem.W.Frag) (CI : Addr) : Sp := fun xs H Q E => ∃ (pl : Int) (h : Addr) (ps : List (Addr × List Int)) (rest : List V), xs = [.int pl, .ref h] ∧ (pl = 1 ∨ pl = 2) ∧ H h = some (.lst ((ps.map fun p => V.ref p.1) ++ rest)) ∧ TupsAt H ps ∧ Lnks pl (ps.map (·.2)) ∧
  (rest = [] → ∀ H', Same H H' → Q .non H') ∧ ∀ v vs, rest = v :: vs → (Item K H pl v false ∨ ∃ (p : Addr) (l : List Int), v = .ref p ∧ H p = some (.tup (l.map V.int)) ∧ l ∈ ps.map (·.2)) ∧ ∀ H', Same H H' → Ref E H' CI v
theorem scItems : FnScope ["places", "hears", "seen", "item"] ["places", "hears"] (defScope sItems) := ⟨rfl, rfl, rfl, by decide +kernel, rfl, by decide +kernel, by decide +kernel⟩
theorem can_items {CI : Addr} (D : Dfn K mg "check_items" sItems) (B : Bi2 mg) (MI : Xc.XMake P w K mg base "InvalidItem" CI "value") (cI : Can P w K mg base CX0 3 "is_item" ["value", "places"] (spIsItem K)) : Can P w K mg base (L2.CX P w) 4 "check_items" ["places", "hears"] (spItems K CI) := by
  obtain ⟨f, fd, F, g⟩ := D.at_
  refine FnOk.can (F.ok scItems (fun xs H Q E h => ?_) (fun cdv A outer s H vs Q E hr h => ?_)) F g fun _ _ _ _ _ _ us hl => match us, hl with | [_, _], _ => rfl
  · obtain ⟨pl, h, ps, rest, rfl, _⟩ := h
    rfl
  · obtain ⟨pl, h, ps, rest, rfl, pp, hh, ht, hl, q, bad⟩ := h
    refine ⟨_, pss_cons (ps_set (i := 2) scItems.nd rfl (.inl rfl) (pe_callTy0 cr_setT0 (by rfl) B.set (by decide +kernel)))
      (pss_one (ps_for (passes_of rfl) rfl (pi_list (pv 1)) (pg_name (i := 3) scItems.nd rfl (.inl rfl))
        (pss_cons (ps_if (PW.pt (pw_or (pt_not (pt_val (pe_can cI hr pass0 (pa_cons (pv 3) (pa1 (pv 0)))))) (pw_or1 (pt_cmpR (op_inT hr.units) (pv 3) (pv 2) (by rfl))))) (pss_one (ps_rz rfl MI (hr.mono (by decide)) (takes_of rfl rfl rfl rfl) (by rfl) (pv 3))) pss_nil)
        (pss_one (ps_expr (pe_addT hr.units (pv 2) (pv 3))))))), ?_⟩
    refine ⟨rfl, fun sA ns => ?_⟩
    refine ⟨_, rfl, h, rfl, ⟨_, SqL.of (by rw [upd_ne (ne_of_none hh ns)]; exact hh)⟩, for_list (K := K) (a := h) (xs := (ps.map fun p => V.ref p.1) ++ rest)
      (fun i σ H' => ∃ (L : List (Addr × List Int)) (tv : Option V), σ = [some (.int pl), some (.ref h), some (.ref sA), tv] ∧ H' sA = some (SetTO P w sA L) ∧ Same H H' ∧ (∀ q ∈ L, q ∈ ps) ∧ (∀ x, x ∈ L.map (·.2) → x ∈ (ps.take i).map (·.2)) ∧ L.length ≤ i ∧ (∀ x, x ∈ (ps.take i).map (·.2) → x ∈ L.map (·.2)) ∧ i ≤ ps.length)
      ⟨[], none, rfl, upd_same, fun b o e => by rw [upd_ne (ne_of_none e ns)]; exact e, fun q hq => (by cases hq), fun x hx => (by cases hx), Nat.le_refl _, fun x hx => (by simp at hx), Nat.zero_le _⟩ (fun i σ H' _ ⟨_, _, _, _, sm, _⟩ => SqL.of (sm _ _ hh)) ?_ ?_⟩
    · rintro i y σ H' hi ⟨L, tv, rfl, hs, sm, sub, mem, len, mem2, ip⟩
      by_cases last : i = ps.length
      · subst last
        rw [List.getElem?_append_right (by rw [List.length_map] <;> exact Nat.le_refl _), List.length_map, Nat.sub_self] at hi
        cases rest with
        | nil => cases hi
        | cons v vs =>
          obtain rfl := Option.some.inj hi
          obtain ⟨why, rf⟩ := bad v vs rfl
          rcases why with why | ⟨p, l, rfl, hp, hin⟩
          · have why2 : Item K H' pl v false := item_same sm why
            exact ⟨_, rfl, _, rfl, v, pl, false, rfl, pp, why2, false, rfl, iteT (iteT ⟨_, rfl, rf H' sm⟩)⟩
          · have tp := sm _ _ hp
            have tps : ∀ q ∈ L, SqT K H' q.1 (q.2.map V.int) := fun q hq => SqT.of (sm _ _ (ht q (sub q hq)))
            refine ⟨_, rfl, _, rfl, .ref p, pl, true, rfl, pp, (hl.one l hin).item tp, true, rfl, iteF ?_⟩
            refine ⟨_, rfl, _, rfl, p, sA, l, L, rfl, rfl, SqT.of tp, hs, tps, _, rfl, ?_⟩
            have inL : l ∈ L.map (·.2) := mem2 l (by rw [List.take_length]; exact hin)
            show if (if false = true then !decide (l ∈ L.map (·.2)) else decide (l ∈ L.map (·.2))) = true then _ else _
            rw [if_neg Bool.false_ne_true, decide_eq_true inL]
            exact iteT ⟨_, rfl, rf H' sm⟩
      have ilt : i < ps.length := by omega
      rw [List.getElem?_append_left (by rw [List.length_map]; exact ilt)] at hi
      obtain ⟨p, hp, rfl⟩ : ∃ p, ps[i]? = some p ∧ y = .ref p.1 := by
        rw [List.getElem?_map] at hi
        cases e : ps[i]? with
        | none =>
          rw [e] at hi
          cases hi
        | some p =>
          rw [e] at hi
          exact ⟨p, rfl, (Option.some.inj hi).symm⟩
      have hil : i < ps.length := (List.getElem?_eq_some_iff.mp hp).1
      have hpin := List.mem_of_getElem? hp
      have tp := sm _ _ (ht p hpin)
      have tps : ∀ q ∈ L, SqT K H' q.1 (q.2.map V.int) := fun q hq => SqT.of (sm _ _ (ht q (sub q hq)))
      have new : p.2 ∉ L.map (·.2) := fun z => by
        have y1 := mem _ z
        obtain ⟨j, hj, e⟩ := List.getElem_of_mem y1
        have hj2 : j < i := by
          rw [List.length_map, List.length_take] at hj
          omega
        have y2 : (ps.map (·.2))[j]? = some p.2 := by
          rw [← e, List.getElem_map, List.getElem_take, List.getElem?_map, List.getElem?_eq_getElem (by omega)]
          rfl
        have y3 : (ps.map (·.2))[i]? = some p.2 := by rw [List.getElem?_map, hp] <;> rfl
        have := nd_ix hl.nd y2 y3
        omega
      refine ⟨_, rfl, _, rfl, .ref p.1, pl, true, rfl, pp, (hl.one p.2 (List.mem_map.mpr ⟨p, hpin, rfl⟩)).item tp, true, rfl, iteF ?_⟩
      refine ⟨_, rfl, _, rfl, p.1, sA, p.2, L, rfl, rfl, SqT.of tp, hs, tps, _, rfl, ?_⟩
      show if (if false = true then !decide (p.2 ∈ L.map (·.2)) else decide (p.2 ∈ L.map (·.2))) = true then _ else _
      rw [if_neg Bool.false_ne_true, decide_eq_false new]
      refine iteF ⟨_, rfl, ⟨sA, L, rfl, hs, tps⟩, _, rfl, sA, p.1, p.2, L, rfl, rfl, hs, tps, SqT.of tp, ?_, fun L' _ i2 => ?_⟩
      · have := hl.few
        rw [List.length_map] at this
        omega
      · have pm := i2 new
        have tk : (ps.take (i + 1)).map (·.2) = (ps.take i).map (·.2) ++ [p.2] := by
          rw [List.take_add_one, hp, List.map_append]
          rfl
        refine ⟨L', _, rfl, upd_same, fun b o e => ?_, fun q hq => ?_, fun x hx => ?_, ?_, fun x hx => ?_, by omega⟩
        · rw [upd_ne (ne_of_none e ns)]
          exact sm b o e
        · rcases List.mem_cons.mp (pm.mem_iff.mp hq) with e | e
          · rw [e]
            exact hpin
          · exact sub q e
        · obtain ⟨q, hq, rfl⟩ := List.mem_map.mp hx
          rw [tk]
          rcases List.mem_cons.mp (pm.mem_iff.mp hq) with e | e
          · rw [e]
            exact List.mem_append_right _ List.mem_cons_self
          · exact List.mem_append_left _ (mem _ (List.mem_map.mpr ⟨q, e, rfl⟩))
        · rw [pm.length_eq, List.length_cons]
          omega
        · rw [tk] at hx
          refine (pm.map (·.2)).mem_iff.mpr ?_
          rcases List.mem_append.mp hx with hx | hx
          · exact List.mem_cons_of_mem _ (mem2 x hx)
          · rw [List.mem_singleton.mp hx]
            exact List.mem_cons_self
    · rintro σ H' ⟨L, tv, rfl, hs, sm, _, _, _, _, ip⟩
      refine q ?_ H' sm
      rw [List.length_append, List.length_map] at ip
      exact List.length_eq_zero_iff.mp (by omega)
end
end Kx
/-! Own ground, part L: written data, laid anew. -/
namespace Xl
open PySem PySem.Spec PyProof.Rows L2 Xa Xb Xc Xp Xr
mutual
inductive Lt (H : Hp) : V → PyData → List Addr → Prop
  | non : Lt H .non .none []
  | bl (b : Bool) : Lt H (.bl b) (.bool b) []
  | int (i : Int) : Lt H (.int i) (.int i) []
  | str (z : Str) : Lt H (.str z) (.str z) []
  | lst {a : Addr} {xs : List V} {ds : List PyData} {ls : List Addr} : H a = some (.lst xs) → Lts H xs ds ls → Lt H (.ref a) (.list ds) (a :: ls)
  | tup {a : Addr} {xs : List V} {ds : List PyData} {ls : List Addr} : H a = some (.tup xs) → Lts H xs ds ls → Lt H (.ref a) (.tuple ds) ls
  | dic {a : Addr} : H a = some (.dK []) → Lt H (.ref a) (.dict []) []
inductive Lts (H : Hp) : List V → List PyData → List Addr → Prop
  | nil : Lts H [] [] []
  | cons {v : V} {vs : List V} {d : PyData} {ds : List PyData} {l1 l2 : List Addr} : Lt H v d l1 → Lts H vs ds l2 → Lts H (v :: vs) (d :: ds) (l1 ++ l2)
end
section
variable {H H' : Hp} {K : PySem.W.Frag}
mutual
theorem lt_dq : ∀ {v : V} {d : PyData} {ls : List Addr}, Lt H v d ls → Dq K H v d ls
  | _, _, _, .non => .non
  | _, _, _, .bl b => .bl b
  | _, _, _, .int i => .int i
  | _, _, _, .str z => .str z
  | _, _, _, .lst h t => .lst (SqL.of h) (lts_dq t)
  | _, _, _, .tup h t => .tup (SqT.of h) (lts_dq t)
  | _, _, _, .dic h => .dic (kvs := []) (ds := []) h .nil .nil
theorem lts_dq : ∀ {v : List V} {d : List PyData} {ls : List Addr}, Lts H v d ls → Dqs K H v d ls
  | _, _, _, .nil => .nil
  | _, _, _, .cons h t => .cons (lt_dq h) (lts_dq t)
end
mutual
theorem lt_but {a : Addr} (e : ∀ c o, H c = some o → c ≠ a → H' c = some o) (ha : ∃ xs, H a = some (.lst xs)) : ∀ {v : V} {d : PyData} {ls : List Addr}, Lt H v d ls → a ∉ ls → Lt H' v d ls
  | _, _, _, .non, _ => .non
  | _, _, _, .bl b, _ => .bl b
  | _, _, _, .int i, _ => .int i
  | _, _, _, .str z, _ => .str z
  | _, _, _, .lst h t, n => .lst (e _ _ h fun z => n (by rw [z] <;> exact List.mem_cons_self)) (lts_but e ha t fun z => n (List.mem_cons_of_mem _ z))
  | _, _, _, .tup h t, n => .tup (e _ _ h fun z => by obtain ⟨xs, q⟩ := ha; rw [z, q] at h; cases h) (lts_but e ha t n)
  | _, _, _, .dic h, _ => .dic (e _ _ h fun z => by obtain ⟨xs, q⟩ := ha; rw [z, q] at h; cases h)
theorem lts_but {a : Addr} (e : ∀ c o, H c = some o → c ≠ a → H' c = some o) (ha : ∃ xs, H a = some (.lst xs)) : ∀ {v : List V} {d : List PyData} {ls : List Addr}, Lts H v d ls → a ∉ ls → Lts H' v d ls
  | _, _, _, .nil, _ => .nil
  | _, _, _, .cons h t, n => .cons (lt_but e ha h fun z => n (List.mem_append_left _ z)) (lts_but e ha t fun z => n (List.mem_append_right _ z))
end
mutual
theorem lt_same (e : Same H H') : ∀ {v : V} {d : PyData} {ls : List Addr}, Lt H v d ls → Lt H' v d ls
  | _, _, _, .non => .non
  | _, _, _, .bl b => .bl b
  | _, _, _, .int i => .int i
  | _, _, _, .str z => .str z
  | _, _, _, .lst h t => .lst (e _ _ h) (lts_same e t)
  | _, _, _, .tup h t => .tup (e _ _ h) (lts_same e t)
  | _, _, _, .dic h => .dic (e _ _ h)
theorem lts_same (e : Same H H') : ∀ {v : List V} {d : List PyData} {ls : List Addr}, Lts H v d ls → Lts H' v d ls
  | _, _, _, .nil => .nil
  | _, _, _, .cons h t => .cons (lt_same e h) (lts_same e t)
end
mutual
theorem lt_at : ∀ {v : V} {d : PyData} {ls : List Addr}, Lt H v d ls → ∀ a ∈ ls, ∃ xs, H a = some (.lst xs)
  | _, _, _, .non, _, z => nomatch z
  | _, _, _, .bl b, _, z => nomatch z
  | _, _, _, .int i, _, z => nomatch z
  | _, _, _, .str s, _, z => nomatch z
  | _, _, _, .lst h t, b, z => (List.mem_cons.mp z).elim (fun q => ⟨_, (congrArg H q).trans h⟩) fun q => lts_at t b q
  | _, _, _, .tup h t, b, z => lts_at t b z
  | _, _, _, .dic h, _, z => nomatch z
theorem lts_at : ∀ {v : List V} {d : List PyData} {ls : List Addr}, Lts H v d ls → ∀ a ∈ ls, ∃ xs, H a = some (.lst xs)
  | _, _, _, .nil, _, z => nomatch z
  | _, _, _, .cons h t, b, z => (List.mem_append.mp z).elim (lt_at h b) (lts_at t b)
end
theorem lts_app : ∀ {vs vs' : List V} {ds ds' : List PyData} {ls ls' : List Addr}, Lts H vs ds ls → Lts H vs' ds' ls' → Lts H (vs ++ vs') (ds ++ ds') (ls ++ ls')
  | _, _, _, _, _, _, .nil, t => t
  | _, _, _, _, _, _, .cons (l1 := l1) (l2 := l2) h t, t' => by
    rw [List.append_assoc]
    exact .cons h (lts_app t t')
theorem lts_len : ∀ {vs : List V} {ds : List PyData} {ls : List Addr}, Lts H vs ds ls → vs.length = ds.length
  | _, _, _, .nil => rfl
  | _, _, _, .cons _ t => congrArg Nat.succ (lts_len t)
theorem lts_get : ∀ {vs : List V} {ds : List PyData} {ls : List Addr}, Lts H vs ds ls → ∀ (i : Nat) (v : V), vs[i]? = some v → ∃ d l, ds[i]? = some d ∧ Lt H v d l ∧ ∀ a ∈ l, a ∈ ls
  | _, _, _, .nil, i, v, h => by simp at h
  | _, _, _, .cons (d := d) (l1 := l1) h t, 0, v, e => by
    obtain rfl := Option.some.inj e
    exact ⟨d, l1, rfl, h, fun a z => List.mem_append_left _ z⟩
  | _, _, _, .cons h t, i + 1, v, e => by
    obtain ⟨d, l, e1, e2, e3⟩ := lts_get t i v e
    exact ⟨d, l, e1, e2, fun a z => List.mem_append_right _ (e3 a z)⟩
/-- a list of the data at the top: it is met in no other one -/
theorem lts_sep : ∀ {vs : List V} {ds : List PyData} {ls : List Addr}, Lts H vs ds ls → ls.Nodup → ∀ (j : Nat) (v : V), vs[j]? = some v → ∃ d l, ds[j]? = some d ∧ Lt H v d l ∧ (∀ a ∈ l, a ∈ ls) ∧
    ∀ (i : Nat) (x : V), i ≠ j → vs[i]? = some x → ∃ d' l', ds[i]? = some d' ∧ Lt H x d' l' ∧ ∀ a ∈ l, a ∉ l'
  | _, _, _, .nil, _, i, v, h => by simp at h
  | _, _, _, .cons (d := d) (l1 := l1) (l2 := l2) h t, nd, 0, v, e => by
    obtain rfl := Option.some.inj e
    refine ⟨d, l1, rfl, h, fun a z => List.mem_append_left _ z, fun i x ne ex => ?_⟩
    cases i with
    | zero => exact absurd rfl ne
    | succ i =>
      obtain ⟨d', l', e1, e2, e3⟩ := lts_get t i x ex
      exact ⟨d', l', e1, e2, fun a z z' => (List.nodup_append.mp nd).2.2 a z a (e3 a z') rfl⟩
  | _, _, _, .cons (d := d) (l1 := l1) (l2 := l2) h t, nd, j + 1, v, e => by
    obtain ⟨d1, l, e1, e2, e3, e4⟩ := lts_sep t (List.nodup_append.mp nd).2.1 j v e
    refine ⟨d1, l, e1, e2, fun a z => List.mem_append_right _ (e3 a z), fun i x ne ex => ?_⟩
    cases i with
    | zero =>
      obtain rfl := Option.some.inj ex
      exact ⟨d, l1, rfl, h, fun a z z' => (List.nodup_append.mp nd).2.2 a z' a (e3 a z) rfl⟩
    | succ i => exact e4 i x (fun z => ne (by rw [z])) ex
end
/-! ### kinds of data -/
def numD : PyData → Option Int
  | .int i => some i
  | _ => none
def kindD : PyData → String
  | .none => "NoneType"
  | .bool _ => "bool"
  | .int _ => "int"
  | .str _ => "str"
  | .list _ => "list"
  | .tuple _ => "tuple"
  | .dict _ => "dict"
mutual
def nol : PyData → Bool
  | .list _ => false
  | .tuple ds => nols ds
  | .dict _ => true
  | _ => true
def nols : List PyData → Bool
  | [] => true
  | d :: ds => nol d && nols ds
end
section
variable {H : Hp} {K : PySem.W.Frag}
theorem lt_num {v : V} {d : PyData} {ls : List Addr} (h : Lt H v d ls) : Num K H v (numD d) := by
  cases h with
  | non => exact .no whl_non
  | bl b => exact .no (whl_bl b)
  | int i => exact .is i
  | str z => exact .no (whl_str z)
  | lst h t => exact .no (whl_lst h)
  | tup h t => exact .no (whl_tup h)
  | dic h => exact .no (whl_dic h)
theorem lt_isk {v : V} {d : PyData} {ls : List Addr} {T : String} {b : Bool} (h : Lt H v d ls) (e : kitB (kindD d) T = some b) : IsK K H v T b := by
  cases h with
  | non => exact isk_non _ e
  | bl b => exact isk_bl b _ e
  | int i => exact isk_int i _ e
  | str z => exact isk_str z _ e
  | lst h t => exact isk_lst h _ e
  | tup h t => exact isk_tup h _ e
  | dic h => exact isk_dic h _ e
mutual
theorem lt_nol : ∀ {v : V} {d : PyData} {ls : List Addr}, Lt H v d ls → nol d = true → ls = []
  | _, _, _, .non, _ => rfl
  | _, _, _, .bl b, _ => rfl
  | _, _, _, .int i, _ => rfl
  | _, _, _, .str z, _ => rfl
  | _, _, _, .lst h t, e => by simp [nol] at e
  | _, _, _, .tup h t, e => lts_nol t (by simpa [nol] using e)
  | _, _, _, .dic h, _ => rfl
theorem lts_nol : ∀ {v : List V} {d : List PyData} {ls : List Addr}, Lts H v d ls → nols d = true → ls = []
  | _, _, _, .nil, _ => rfl
  | _, _, _, .cons h t, e => by
    have e2 := Bool.and_eq_true_iff.mp (by simpa [nols] using e)
    rw [lt_nol h e2.1, lts_nol t e2.2] <;> rfl
end
end
/-- such a datum is told by repr -/
def okD (d : PyData) : Bool := (nol d || !d.hasDict) && (d.showable && (decide (d.depth ≤ 60) && (decide (d.shown.length ≤ sizeLine) && PyData.strOk d.shown)))
theorem lt_rep {H : Hp} {K : PySem.W.Frag} {v : V} {d : PyData} {ls : List Addr} (h : Lt H v d ls) (e : okD d = true) : Rep K H v d.shown := by
  obtain ⟨e1, e⟩ := He.ba e
  obtain ⟨e2, e⟩ := He.ba e
  obtain ⟨e3, e⟩ := He.ba e
  obtain ⟨e4, e5⟩ := He.ba e
  refine ⟨d, ls, lt_dq h, fun z => ?_, e2, of_decide_eq_true e3, of_decide_eq_true e4, e5, rfl⟩
  rw [z] at e1
  rw [lt_nol h (by simpa using e1)]
  exact List.not_mem_nil
/-! ### displays -/
def tLit (S : L2.St → Prop) (d : PyData) : TE := fun σ H Q => S σ ∧ ∀ v H' ls, Same H H' → Lt H' v d ls → ls.Nodup → (∀ a ∈ ls, H a = none) → Q v H'
def tLits (S : L2.St → Prop) (ds : List PyData) : TA := fun σ H Q => S σ ∧ ∀ vs H' ls, Same H H' → Lts H' vs ds ls → ls.Nodup → (∀ a ∈ ls, H a = none) → Q vs H'
theorem upd_same_as {H : Hp} {p : Addr} {o : HO} (n : H p = none) : Same H (upd H p o) := fun c q e => by rw [upd_ne (ne_of_none e n)] <;> exact e
section
variable {X : Cx} {S : L2.St → Prop} {d : PyData} {ds : List PyData} {e : Expr} {es : List Expr} {pos : Pos}
theorem pe_of {te te' : TE} (h : ∀ σ H Q, te' σ H Q → te σ H Q) (p : PE X e te) : PE X e te' := ⟨fun pins s σ H Q I q => p.run pins s σ H Q I (h _ _ _ q)⟩
theorem pa_of {te te' : TA} (h : ∀ σ H Q, te' σ H Q → te σ H Q) (p : PA X es te) : PA X es te' := ⟨fun ps pins s σ H Q I q => p.run ps pins s σ H Q I (h _ _ _ q)⟩
theorem li_non {j : Nat} : PE X (.Constant .none j pos) (tLit S .none) := pe_of (fun σ H Q h => h.2 .non H [] (Same.refl H) .non List.nodup_nil fun _ z => nomatch z) pe_non
theorem li_bl {b : Bool} {j : Nat} : PE X (.Constant (.bool b) j pos) (tLit S (.bool b)) := pe_of (fun σ H Q h => h.2 (.bl b) H [] (Same.refl H) (.bl b) List.nodup_nil fun _ z => nomatch z) pe_bl
theorem li_str {x : Str} {j : Nat} : PE X (.Constant (.str x) j pos) (tLit S (.str x)) := pe_of (fun σ H Q h => h.2 (.str x) H [] (Same.refl H) (.str x) List.nodup_nil fun _ z => nomatch z) pe_str
theorem li_of {te : TE} (i : Int) (h : ∀ σ H Q, S σ → Q (.int i) H → te σ H Q) (p : PE X e te) : PE X e (tLit S (.int i)) := pe_of (fun σ H Q q => h σ H Q q.1 (q.2 (.int i) H [] (Same.refl H) (.int i) List.nodup_nil fun _ z => nomatch z)) p
theorem li_int {i : Int} {j : Nat} : PE X (.Constant (.int i) j pos) (tLit S (.int i)) := li_of i (fun _ _ _ _ q => q) pe_int
theorem li_neg {i : Int} {j : Nat} {pos2 : Pos} : PE X (.UnaryOp .USub (.Constant (.int i) j pos) pos2) (tLit S (.int (-i))) := li_of (-i) (fun _ _ _ _ q => ⟨_, rfl, q⟩) (pe_un un_neg pe_int)
theorem li_dic : PE X (.Dict [] [] pos) (tLit S (.dict [])) := pe_of (fun σ H Q h p np => h.2 (.ref p) _ [] (upd_same_as np) (.dic upd_same) List.nodup_nil fun _ z => nomatch z) pe_dnewK
theorem lis_nil : PA X [] (tLits S []) := pa_of (fun σ H Q h => h.2 [] H [] (Same.refl H) .nil List.nodup_nil fun _ z => nomatch z) pa_nil
theorem lis_cons (h : PE X e (tLit S d)) (t : PA X es (tLits S ds)) (hs : starEach (e :: es) X.env = (false, eval e X.env) :: starEach es X.env := by rfl) : PA X (e :: es) (tLits S (d :: ds)) := by
  refine pa_of (fun σ H Q q => ?_) (pa_cons h t hs)
  refine ⟨q.1, fun v H1 l1 s1 t1 n1 f1 => ⟨q.1, fun vs H2 l2 s2 t2 n2 f2 => q.2 (v :: vs) H2 (l1 ++ l2) (s1.trans s2) (.cons (lt_same s2 t1) t2) ?_ fun a z => ?_⟩⟩
  · refine List.nodup_append.mpr ⟨n1, n2, fun a z b z2 e => ?_⟩
    obtain ⟨xs, y⟩ := lt_at t1 a z
    rw [e, f2 b z2] at y
    cases y
  · rcases List.mem_append.mp z with z | z
    · exact f1 a z
    · exact s1.free (f2 a z)
theorem li_tup {x : Nat} (h : PA X es (tLits S ds)) (z : ds.length ≤ 1000) : PE X (.Tuple es x pos) (tLit S (.tuple ds)) := by
  refine pe_of (fun σ H Q q => ?_) (pe_tup h)
  refine ⟨q.1, fun vs H1 ls s1 t1 n1 f1 => ⟨?_, fun p np => q.2 (.ref p) _ ls (s1.trans (upd_same_as np)) (.tup upd_same (lts_same (upd_same_as np) t1)) n1 f1⟩⟩
  rw [lts_len t1, sizeLine_eq]
  omega
theorem li_lst (h : PA X es (tLits S ds)) (z : ds.length ≤ 1000) : PE X (.List es pos) (tLit S (.list ds)) := by
  refine pe_of (fun σ H Q q => ?_) (pe_lst h)
  refine ⟨q.1, fun vs H1 ls s1 t1 n1 f1 => ⟨?_, fun p np => q.2 (.ref p) _ (p :: ls) (s1.trans (upd_same_as np)) (.lst upd_same (lts_same (upd_same_as np) t1)) (List.nodup_cons.mpr ⟨fun z => ?_, n1⟩) fun a z => ?_⟩⟩
  · rw [lts_len t1, sizeLine_eq]
    omega
  · obtain ⟨xs, y⟩ := lts_at t1 p z
    rw [np] at y
    cases y
  · rcases List.mem_cons.mp z with z | z
    · rw [z]
      exact s1.free np
    · exact f1 a z
end
end Xl
/-! Own ground, part K: written lists gone through, one of whose elements is a list that is lengthened. -/
namespace Xk
open PySem PySem.Spec PyProof.Rows L2 Xa Xb Xc Xp Xr Xl
/-- all but a is as it was -/
def Evo (a : Addr) (H H' : Hp) : Prop := ∀ c o, H c = some o → c ≠ a → H' c = some o
theorem Evo.same {a : Addr} {H H' H2 : Hp} (e : Evo a H H') (s : Same H' H2) : Evo a H H2 := fun c o h n => s c o (e c o h n)
theorem Evo.trans {a : Addr} {H H' H2 : Hp} (e : Evo a H H') (s : Evo a H' H2) : Evo a H H2 := fun c o h n => s c o (e c o h n) n
theorem Evo.of {a : Addr} {H H' : Hp} (s : Same H H') : Evo a H H' := fun c o h _ => s c o h
theorem Evo.all {a : Addr} {H0 H H' : Hp} (s : Same H0 H) (n : H0 a = none) (e : Evo a H H') : Same H0 H' := fun c o h => e c o (s c o h) (ne_of_none h n)
def mores (k : Nat) : List V := List.replicate k (.str "more")
def mored (base : List PyData) (k : Nat) : PyData := .list (base ++ List.replicate k (.str "more"))
structure Pk (H : Hp) (vs : List V) (ds : List PyData) (j : Nat) (base : List PyData) (a : Addr) (xs : List V) : Prop where
  pos : vs[j]? = some (.ref a)
  lst : H a = some (.lst xs)
  els : Lts H xs base []
  oth : ∀ (i : Nat) (x : V), i ≠ j → vs[i]? = some x → ∃ d l, ds[i]? = some d ∧ Lt H x d l ∧ a ∉ l
theorem pick {H : Hp} {vs : List V} {ds : List PyData} {ls : List Addr} {j : Nat} {base : List PyData} (t : Lts H vs ds ls) (nd : ls.Nodup) (hj : ds[j]? = some (.list base)) (nb : nols base = true) : ∃ a xs, Pk H vs ds j base a xs ∧ a ∈ ls := by
  have hl : j < vs.length := by
    rw [lts_len t]
    exact (List.getElem?_eq_some_iff.mp hj).1
  obtain ⟨d, l, e1, e2, e3, e4⟩ := lts_sep t nd j vs[j] (List.getElem?_eq_getElem hl)
  rw [hj] at e1
  obtain rfl := Option.some.inj e1
  generalize hv : vs[j] = v at e2
  cases e2 with
  | lst h t2 =>
    have z := lts_nol t2 nb
    subst z
    exact ⟨_, _, ⟨by rw [List.getElem?_eq_getElem hl, hv], h, t2, fun i x ne ex => let ⟨d', l', q1, q2, q3⟩ := e4 i x ne ex; ⟨d', l', q1, q2, q3 _ List.mem_cons_self⟩⟩, e3 _ List.mem_cons_self⟩
section
variable {H H' : Hp} {vs : List V} {ds : List PyData} {j : Nat} {base : List PyData} {a : Addr} {xs : List V} {i : Nat} {x : V} {K : PySem.W.Frag}
theorem lts_more (k : Nat) : Lts H (mores k) (List.replicate k (.str "more")) [] := by
  induction k with
  | zero => exact .nil
  | succ k ih => exact .cons (.str _) ih
theorem Pk.elem (p : Pk H vs ds j base a xs) (k : Nat) (e : Evo a H H') (hk : i = j → H' a = some (.lst (xs ++ mores k))) (hx : vs[i]? = some x) : ∃ d l, Lt H' x d l ∧ (i ≠ j → ds[i]? = some d) ∧ (i = j → d = mored base k ∧ x = .ref a) := by
  by_cases ij : i = j
  · subst ij
    rw [p.pos] at hx
    obtain rfl := Option.some.inj hx
    have q : Lts H' (xs ++ mores k) (base ++ List.replicate k (.str "more")) ([] ++ []) := lts_app (lts_but e ⟨_, p.lst⟩ p.els (by simp)) (lts_more k)
    exact ⟨_, _, .lst (hk rfl) q, fun z => absurd rfl z, fun _ => ⟨rfl, rfl⟩⟩
  · obtain ⟨d, l, q1, q2, q3⟩ := p.oth i x ij hx
    exact ⟨d, l, lt_but e ⟨_, p.lst⟩ q2 q3, fun _ => q1, fun z => absurd z ij⟩
theorem Pk.res (p : Pk H vs ds j base a xs) (k : Nat) (kz : k < 100) (e : Evo a H H') (hk : i = j → H' a = some (.lst (xs ++ mores k))) (hx : vs[i]? = some x) (bz : base.length < 100)
    (ok : ∀ d, i ≠ j → ds[i]? = some d → okD d = true ∧ kitB (kindD d) "list" = some false) (okm : i = j → okD (mored base (k + 1)) = true) :
    ∃ t H2, Res K H' x t H2 ∧ Evo a H' H2 ∧ (i ≠ j → H2 = H') ∧ (i = j → H2 a = some (.lst (xs ++ mores (k + 1)))) := by
  by_cases ij : i = j
  · have hk2 := hk ij
    have okm2 := okm ij
    subst ij
    rw [p.pos] at hx
    obtain rfl := Option.some.inj hx
    have em : (xs ++ mores k) ++ [V.str "more"] = xs ++ mores (k + 1) := by
      unfold mores
      rw [List.append_assoc, List.replicate_succ']
    have hs : (upd H' a (.lst (xs ++ mores (k + 1)))) a = some (.lst (xs ++ mores (k + 1))) := upd_same
    have ev : Evo a H' (upd H' a (.lst (xs ++ mores (k + 1)))) := fun c o h n => by rw [upd_ne n] <;> exact h
    have q : Lts (upd H' a (.lst (xs ++ mores (k + 1)))) (xs ++ mores (k + 1)) (base ++ List.replicate (k + 1) (.str "more")) ([] ++ []) := lts_app (lts_but (e.trans ev) ⟨_, p.lst⟩ p.els (by simp)) (lts_more (k + 1))
    have r : Rep K (upd H' a (.lst ((xs ++ mores k) ++ [V.str "more"]))) (.ref a) (mored base (k + 1)).shown := by
      rw [em]
      exact lt_rep (.lst hs q) okm2
    have len := lts_len p.els
    have R : Res K H' (.ref a) (mored base (k + 1)).shown (upd H' a (.lst ((xs ++ mores k) ++ [V.str "more"]))) := Res.list hk2 (by rw [List.length_append]; unfold mores; rw [List.length_replicate]; omega) r
    refine ⟨_, _, R, by rw [em] <;> exact ev, fun z => absurd rfl z, fun _ => ?_⟩
    rw [em] <;> exact hs
  · obtain ⟨d, l, q1, q2, q3⟩ := p.oth i x ij hx
    obtain ⟨o1, o2⟩ := ok d ij q1
    have q4 := lt_but e ⟨_, p.lst⟩ q2 q3
    exact ⟨_, H', .other (lt_isk q4 o2) (lt_rep q4 o1), Evo.of (Same.refl _), fun _ => rfl, fun z => absurd z ij⟩
end
/-! ### the told triple -/
def triple (b1 b2 : Bool) (t : Str) : PyData := .list [.bool b1, .bool b2, .str t]
theorem triple_shaped (b1 b2 : Bool) {t : Str} (h : PyData.strOk t = true) : SeqAt.shaped (triple b1 b2 t) = true := by
  simp [h, SeqAt.shaped, triple, PyData.canLay0, PyData.canLayAll0, PyData.depth, PyData.depthAll]
theorem triple_eqv (b1 b2 : Bool) (t : Str) : PyData.eqv (triple b1 b2 t) (triple b1 b2 t) = true := by
  simp [triple, PyData.eqv, PyData.eqvAll]
theorem triple_at {K : PySem.W.Frag} {H : Hp} {r : Addr} {b1 b2 : Bool} {t : Str} (h : H r = some (.lst [.bl b1, .bl b2, .str t])) : Dp K H (.ref r) (triple b1 b2 t) :=
  .lst (SqL.of h) (.cons (.bl _) (.cons (.bl _) (.cons (.str _) .nil)))
end Xk
/-! Own ground, part T: lists of tuples of ints as data. -/
namespace Xt
open PySem PySem.Spec PyProof.Rows L2 Xa Xb Xc Xp Xr Xl Xk
def tupD (l : List Int) : PyData := .tuple (l.map .int)
def lisD (ls : List (List Int)) : PyData := .list (ls.map tupD)
section
theorem ints_lay : ∀ l : List Int, PyData.canLayAll0 (l.map .int) = true
  | [] => by simp [PyData.canLayAll0]
  | x :: l => by simp [PyData.canLayAll0, PyData.canLay0, ints_lay l]
theorem tups_lay : ∀ ls : List (List Int), PyData.canLayAll0 (ls.map tupD) = true
  | [] => by simp [PyData.canLayAll0]
  | x :: l => by simp [PyData.canLayAll0, PyData.canLay0, tupD, ints_lay x, tups_lay l]
theorem ints_depth : ∀ l : List Int, PyData.depthAll (l.map .int) = 0
  | [] => by simp [PyData.depthAll]
  | x :: l => by simp [PyData.depthAll, PyData.depth, ints_depth l]
theorem tups_depth : ∀ ls : List (List Int), PyData.depthAll (ls.map tupD) ≤ 1
  | [] => by simp [PyData.depthAll]
  | x :: l => by
    have := tups_depth l
    simp only [List.map_cons, PyData.depthAll, PyData.depth, tupD, ints_depth]
    omega
theorem lis_depth (ls : List (List Int)) : (lisD ls).depth ≤ 2 := by
  have := tups_depth ls
  simp only [lisD, PyData.depth]
  omega
theorem ints_nodict : ∀ l : List Int, PyData.hasDictAll (l.map .int) = false
  | [] => by simp [PyData.hasDictAll]
  | x :: l => by simp [PyData.hasDictAll, PyData.hasDict, ints_nodict l]
theorem tups_nodict : ∀ ls : List (List Int), PyData.hasDictAll (ls.map tupD) = false
  | [] => by simp [PyData.hasDictAll]
  | x :: l => by simp [PyData.hasDictAll, PyData.hasDict, tupD, ints_nodict x, tups_nodict l]
theorem lis_shaped (ls : List (List Int)) : SeqAt.shaped (lisD ls) = true := by
  have h1 : (lisD ls).canLay0 = true := by simp [lisD, PyData.canLay0, tups_lay]
  have h2 := lis_depth ls
  have h3 : (lisD ls).depth ≤ 64 := by omega
  simp [SeqAt.shaped, h1, h3]
theorem lis_eqv (ls : List (List Int)) : PyData.eqv (lisD ls) (lisD ls) = true := SeqAt.eqv_refl _ (by simp [lisD, PyData.canLay0, tups_lay])
/-- short ones of bounded ints -/
def Short (ls : List (List Int)) : Prop := ls.length < 64 ∧ ∀ l ∈ ls, l.length ≤ 3 ∧ ∀ z ∈ l, z.natAbs < 10 ^ 30
theorem log_lt {z : Int} (h : z.natAbs < 10 ^ 30) : z.natAbs.log2 < 100 := by
  have h1 : z.natAbs < 2 ^ 100 := Nat.lt_of_lt_of_le h (by decide)
  exact PySem.Flt.log2_lt_of (k := 100) (by decide) h1
theorem ints_showable : ∀ l : List Int, (∀ z ∈ l, z.natAbs < 10 ^ 30) → PyData.showableAll (l.map .int) = true
  | [], _ => by simp [PyData.showableAll]
  | x :: l, h => by
    have h1 := log_lt (h x List.mem_cons_self)
    have h2 : x.natAbs.log2 < 1920 := by omega
    simp [PyData.showableAll, PyData.showable, h2, ints_showable l fun z hz => h z (List.mem_cons_of_mem _ hz)]
theorem tups_showable : ∀ ls : List (List Int), (∀ l ∈ ls, ∀ z ∈ l, z.natAbs < 10 ^ 30) → PyData.showableAll (ls.map tupD) = true
  | [], _ => by simp [PyData.showableAll]
  | x :: l, h => by simp [PyData.showableAll, PyData.showable, tupD, ints_showable x (h x List.mem_cons_self), tups_showable l fun z hz => h z (List.mem_cons_of_mem _ hz)]
theorem int_short {z : Int} (h : z.natAbs < 10 ^ 30) : (PyData.int z).shown.length ≤ 32 := by
  have e := int_text_length_le10 (k := 30) (by decide) h
  show (Str.ofString (toString z)).length ≤ 32
  rw [PySem.ofString_length]
  omega
theorem ints_short : ∀ l : List Int, (∀ z ∈ l, z.natAbs < 10 ^ 30) → PyData.leavesShortAll 32 (l.map .int) = true
  | [], _ => by simp [PyData.leavesShortAll]
  | x :: l, h => by simp [PyData.leavesShortAll, PyData.leavesShort, int_short (h x List.mem_cons_self), ints_short l fun z hz => h z (List.mem_cons_of_mem _ hz)]
theorem tups_short : ∀ ls : List (List Int), (∀ l ∈ ls, ∀ z ∈ l, z.natAbs < 10 ^ 30) → PyData.leavesShortAll 32 (ls.map tupD) = true
  | [], _ => by simp [PyData.leavesShortAll]
  | x :: l, h => by simp [PyData.leavesShortAll, PyData.leavesShort, tupD, ints_short x (h x List.mem_cons_self), tups_short l fun z hz => h z (List.mem_cons_of_mem _ hz)]
theorem ints_weight : ∀ l : List Int, (∀ z ∈ l, z.natAbs < 10 ^ 30) → PyData.weightAll (l.map .int) ≤ 101 * l.length
  | [], _ => by simp [PyData.weightAll]
  | x :: l, h => by
    have h1 := log_lt (h x List.mem_cons_self)
    have h2 := ints_weight l fun z hz => h z (List.mem_cons_of_mem _ hz)
    have h3 : PyData.weight (.int x) ≤ 100 := by
      simp only [PyData.weight]
      split <;> omega
    simp only [List.map_cons, PyData.weightAll, List.length_cons]
    omega
theorem tups_weight : ∀ ls : List (List Int), (∀ l ∈ ls, l.length ≤ 3 ∧ ∀ z ∈ l, z.natAbs < 10 ^ 30) → PyData.weightAll (ls.map tupD) ≤ 304 * ls.length
  | [], _ => by simp [PyData.weightAll]
  | x :: l, h => by
    obtain ⟨h1, h4⟩ := h x List.mem_cons_self
    have h2 := tups_weight l fun z hz => h z (List.mem_cons_of_mem _ hz)
    have h3 := ints_weight x h4
    simp only [List.map_cons, PyData.weightAll, List.length_cons, tupD, PyData.weight]
    omega
theorem lis_len {ls : List (List Int)} (h : Short ls) : (lisD ls).shown.length ≤ sizeLine := by
  obtain ⟨h1, h2⟩ := h
  have h3 := tups_short ls fun l hl => (h2 l hl).2
  have h4 := tups_weight ls h2
  have h5 := PyData.shown_le 32 (by decide) (lisD ls) (by simpa [lisD, PyData.leavesShort] using h3)
  have h6 : (lisD ls).weight ≤ 304 * 64 := by
    simp only [lisD, PyData.weight]
    omega
  have h7 : (32 + 2) * (lisD ls).weight ≤ 34 * (304 * 64) := Nat.mul_le_mul (Nat.le_refl _) h6
  rw [sizeLine_eq]
  omega
end
section
variable {K : PySem.W.Frag} {H : Hp}
theorem dqs_ints : ∀ l : List Int, Dqs K H (l.map V.int) (l.map .int) []
  | [] => .nil
  | x :: l => .cons (l1 := []) (.int x) (dqs_ints l)
theorem dqs_tups : ∀ ks : List (Addr × List Int), (∀ q ∈ ks, H q.1 = some (.tup (q.2.map V.int))) → Dqs K H (ks.map fun q => V.ref q.1) ((ks.map (·.2)).map tupD) []
  | [], _ => .nil
  | q :: ks, h => .cons (l1 := []) (.tup (SqT.of (h q List.mem_cons_self)) (dqs_ints q.2)) (dqs_tups ks fun z hz => h z (List.mem_cons_of_mem _ hz))
/-- the reading of repr of such a list -/
theorem rr_lis {u : Addr} {ks : List (Addr × List Int)} {Q : VK} (h : H u = some (.lst (ks.map fun q => V.ref q.1))) (t : ∀ q ∈ ks, H q.1 = some (.tup (q.2.map V.int))) (s : Short (ks.map (·.2))) (q : Q (.str (lisD (ks.map (·.2))).shown) H) : rRepr K [V.ref u] H Q := by
  refine ⟨.ref u, lisD (ks.map (·.2)), [u], rfl, .lst (SqL.of h) (dqs_tups ks t), fun z => ?_, ?_, ?_, lis_len s, q⟩
  · have := tups_nodict (ks.map (·.2))
    simp only [lisD, PyData.hasDict] at z
    rw [this] at z
    cases z
  · simp only [lisD, PyData.showable]
    exact tups_showable _ fun l hl => (s.2 l hl).2
  · have := lis_depth (ks.map (·.2))
    omega
/-- what the reading of repr of such a list asks -/
theorem lis_in {u : Addr} {ks : List (Addr × List Int)} (h : H u = some (.lst (ks.map fun q => V.ref q.1))) (t : ∀ q ∈ ks, H q.1 = some (.tup (q.2.map V.int))) (s : Short (ks.map (·.2))) :
    Dq K H (.ref u) (lisD (ks.map (·.2))) [u] ∧ ((lisD (ks.map (·.2))).hasDict = true → sysModules ∉ [u]) ∧ (lisD (ks.map (·.2))).showable = true ∧ (lisD (ks.map (·.2))).depth ≤ 60 ∧ (lisD (ks.map (·.2))).shown.length ≤ sizeLine := by
  refine ⟨.lst (SqL.of h) (dqs_tups ks t), fun z => ?_, ?_, ?_, lis_len s⟩
  · have := tups_nodict (ks.map (·.2))
    simp only [lisD, PyData.hasDict] at z
    rw [this] at z
    cases z
  · simp only [lisD, PyData.showable]
    exact tups_showable _ fun l hl => (s.2 l hl).2
  · have := lis_depth (ks.map (·.2))
    omega
theorem dp_ints : ∀ l : List Int, DpAll K H (l.map V.int) (l.map .int)
  | [] => .nil
  | x :: l => .cons (.int x) (dp_ints l)
theorem dp_tups : ∀ ks : List (Addr × List Int), (∀ q ∈ ks, H q.1 = some (.tup (q.2.map V.int))) → DpAll K H (ks.map fun q => V.ref q.1) ((ks.map (·.2)).map tupD)
  | [], _ => .nil
  | q :: ks, h => .cons (.tup (SqT.of (h q List.mem_cons_self)) (dp_ints q.2)) (dp_tups ks fun z hz => h z (List.mem_cons_of_mem _ hz))
theorem dp_lis {u : Addr} {ks : List (Addr × List Int)} (h : H u = some (.lst (ks.map fun q => V.ref q.1))) (t : ∀ q ∈ ks, H q.1 = some (.tup (q.2.map V.int))) : Dp K H (.ref u) (lisD (ks.map (·.2))) := .lst (SqL.of h) (dp_tups ks t)
end
end Xt
/-! Web: __init__, hears. -/
namespace Kx
open PySem PySem.Spec PyProof.Rows L2 Xa Xb Xc Xd Xs Xp Xm Xr
abbrev sWInit : Stmt := inClass (top 13) 0
abbrev sWHears : Stmt := inClass (top 13) 1
theorem lc_yes {A B : Hp → Prop} {σ : L2.St} {H : Hp} (h : A H) : tYes σ H (fun b H3 => if b = true then A H3 else B H3) := by
  show if true = true then A H else B H
  rw [if_pos rfl]
  exact h
/-! ### a web -/
def wFlds (pl rc : Int) (l : Addr) : List (Str × V) := putF "_hears" (.ref l) (putF "reach" (.int rc) (putF "places" (.int pl) []))
theorem n1 : ¬ (("reach" : Str) = "places") := by decide +kernel
theorem n2 : ¬ (("_hears" : Str) = "places") := by decide +kernel
theorem n3 : ¬ (("_hears" : Str) = "reach") := by decide +kernel
theorem wf_pl (pl rc : Int) (l : Addr) : (wFlds pl rc l).lookup ("places" : Str) = some (.int pl) := by
  unfold wFlds
  rw [lookup_putF, if_neg (Ne.symm n2), lookup_putF, if_neg (Ne.symm n1), lookup_putF, if_pos rfl]
theorem wf_rc (pl rc : Int) (l : Addr) : (wFlds pl rc l).lookup ("reach" : Str) = some (.int rc) := by
  unfold wFlds
  rw [lookup_putF, if_neg (Ne.symm n3), lookup_putF, if_pos rfl]
theorem wf_he (pl rc : Int) (l : Addr) : (wFlds pl rc l).lookup ("_hears" : Str) = some (.ref l) := by
  unfold wFlds
  rw [lookup_putF, if_pos rfl]
theorem wf_no (pl rc : Int) (l : Addr) {m : Str} (h1 : ¬ m = "places") (h2 : ¬ m = "reach") (h3 : ¬ m = "_hears") : (wFlds pl rc l).lookup m = none := by
  unfold wFlds
  rw [lookup_putF, if_neg h3, lookup_putF, if_neg h2, lookup_putF, if_neg h1]
  rfl
/-- a web stands at p: its places, its reach, its tuples in order at l -/
structure WebAt (C : Addr) (H : Hp) (p : Addr) (pl rc : Int) (l : Addr) (qs : List (Addr × List Int)) : Prop where
  ob : ∃ dx, H p = some (.ins C dx (wFlds pl rc l))
  li : H l = some (.lst (qs.map fun q => V.ref q.1))
  tu : TupsAt H qs
/-- what of the class Web the text says -/
structure WTxt (K : PySem.W.Frag) (mg : Str → Option Value) (C : Addr) : Prop where
  cl : Cls K C
  nP : NoAttr K C "places"
  nR : NoAttr K C "reach"
  nH : NoAttr K C "_hears"
  gl : mg "Web" = some (.ref C)
/-- the reach of the tuples -/
def Reach (rc : Int) (ls : List (List Int)) : Prop := 1 ≤ rc ∧ (∀ l ∈ ls, ∀ i j d, l = [i, j, d] → d ≤ rc ∧ -d ≤ rc) ∧ (rc = 1 ∨ ∃ l ∈ ls, ∃ i j d, l = [i, j, d] ∧ (d = rc ∨ -d = rc))
def absd : List Int → Int
  | [_, _, d] => if d < 0 then -d else d
  | _ => 0
section
variable {P : Program} {w : World} {K : PySem.W.Frag} {mg : Str → Option Value} {base : Heap} {f C : Addr} {fd : FuncData}
/-- __init__ -/
def spWInit (K : PySem.W.Frag) (C CN CL CI : Addr) : Sp := fun xs H Q E => ∃ (p dx : Addr) (v hv : V) (o : Option Int), xs = [.ref p, v, hv] ∧ H p = some (.ins C dx []) ∧ Num K H v o ∧ (inR o 1 2 = false → Ref E H CN v) ∧ (inR o 1 2 = true → ∃ (pl : Int) (b : Bool), v = .int pl ∧ (pl = 1 ∨ pl = 2) ∧ IsK K H hv "list" b ∧
  (b = false → Ref E H CL hv) ∧ (b = true → ∃ (h : Addr) (ps : List (Addr × List Int)) (rest : List V), hv = .ref h ∧ H h = some (.lst ((ps.map fun q => V.ref q.1) ++ rest)) ∧ TupsAt H ps ∧ Lnks pl (ps.map (·.2)) ∧
    (∀ v vs, rest = v :: vs → (Item K H pl v false ∨ ∃ (p : Addr) (l : List Int), v = .ref p ∧ H p = some (.tup (l.map V.int)) ∧ l ∈ ps.map (·.2)) ∧ ∀ H', Same H H' → Ref E H' CI v) ∧
    (rest = [] → ∀ (rc : Int) (l : Addr) (H' : Hp), WebAt C H' p pl rc l (srt ps) → Reach rc (ps.map (·.2)) → (∀ c o, H c = some o → c ≠ p → H' c = some o) → H l = none → Q .non H')))
theorem scWInit : FnScope ["self", "places", "hears", "item"] ["self", "places", "hears"] (defScope sWInit) := ⟨rfl, rfl, rfl, by decide +kernel, rfl, by decide +kernel, by decide +kernel⟩
theorem ok_winit (F : FunD K "__init__" "Web.__init__" (defArgs sWInit) (defBody sWInit) (defScope sWInit) [] [] f fd) (T : WTxt K mg C) (B : Bi2 mg) {CN : Addr} (cP : Can P w K mg base (L2.CX P w) 3 "check_places" ["places"] (spCkPlaces K CN))
    {CI CL : Addr} (cC : Can P w K mg base (L2.CX P w) 4 "check_items" ["places", "hears"] (spItems K CI)) (ML : Xc.XMake P w K mg base "InvalidList" CL "value") : FnOk P w K mg base (L2.CX P w) 5 f fd ["self", "places", "hears"] (spWInit K C CN CL CI) := by
  refine F.ok scWInit (fun xs H Q E h => ?_) (fun cdv A outer s H vs Q E hr h => ?_)
  · obtain ⟨p, dx, v, hv, o, rfl, _⟩ := h
    rfl
  · obtain ⟨p, dx, v, hv, o, rfl, hp, N, noN, yesN⟩ := h
    have pass : Passes (L2.CX P w) (cxOf (L2.CX P w) P w K mg base ["self", "places", "hears", "item"] "Web.__init__" (defScope sWInit) f cdv A outer s H E) E := passes_call (takes_of rfl rfl rfl rfl) fun _ _ _ _ z => z
    refine ⟨_, pss_cons (ps_expr (pe_can cP (hr.mono (by decide)) pass (pa1 (pv 1))))
      (pss_cons (ps_if (pt_not (pt_val (pe_bi call_kd B.isi (pa_cons (pv 2) (pa1 (pe_tyv "list" B.list)))))) (pss_one (ps_rz rfl ML (hr.mono (by decide)) (takes_of rfl rfl rfl rfl) (by rfl) (pv 2))) pss_nil)
      (pss_cons (ps_expr (pe_can cC hr pass (pa_cons (pv 1) (pa1 (pv 2)))))
      (pss_cons (ps_fld (pv 0) (pv 1) rfl)
      (pss_cons (ps_fld (pv 0) (pe_bi (cr_max rfl) B.max (pa1 (pe_op op_cat (pe_lst (pa1 pe_int)) (pe_lc (own := [("item", 3)]) (g := gName 3) (tt := tYes) rfl scWInit.nd (pi_list (pv 2)) (blkOk_by (own := [("item", 3)]) (N := ["self", "places", "hears", "item"]) (sc := defScope sWInit) (by decide +kernel))
          (fun _ _ _ _ _ => pg_name (i := 3) scWInit.nd rfl (Or.inl rfl)) (fun _ _ _ _ _ => pts_nil) (fun _ _ _ _ _ => pe_bi call_abs B.abs (pa1 (pe_ix (r := rIxT K) ix_tup (pv 3) pe_int (fun _ _ => rfl)))))))) rfl)
      (pss_one (ps_fld (pv 0) (pe_bi (cr_sortL rfl hr.units) B.sorted (pa1 (pv 2))) rfl)))))), ?_⟩
    refine ⟨_, rfl, v, o, rfl, N, fun e1 => ?_, noN⟩
    obtain ⟨pl, bb, rfl, pp, ib, noL, yesL⟩ := yesN e1
    refine ⟨_, rfl, hv, "list", bb, rfl, ib, bb, rfl, ?_⟩
    cases bb with
    | false => exact iteT ⟨_, rfl, noL rfl⟩
    | true =>
    obtain ⟨h, ps, rest, rfl, hh, ht, hl, bad, good⟩ := yesL rfl
    refine iteF ⟨_, rfl, _, rfl, pl, h, ps, rest, rfl, pp, hh, ht, hl, fun er H1 sm => ?_, bad⟩
    subst er
    rw [List.append_nil] at hh
    have q := good rfl
    have hp1 := sm _ _ hp
    have hph : h ≠ p := ne_of hh hp (by intro z; cases z)
    refine ⟨_, rfl, _, rfl, p, C, dx, [], rfl, hp1, T.cl, T.nP, (by show 0 < 1000; decide), ?_⟩
    -- self.reach
    have nf1 : ∀ {a : Addr} {o : HO} {fs : List (Str × V)}, (upd H1 p (.ins C dx fs)) a = none → H1 a = none := fun {a o fs} z => by
      by_cases e : a = p
      · rw [e, upd_same] at z
        cases z
      · rw [upd_ne e] at z
        exact z
    refine ⟨(by show 1 ≤ sizeLine; decide), fun a1 m1 => ?_⟩
    have hA : ∀ c o, (upd H1 p (.ins C dx (putF "places" (.int pl) []))) c = some o → (upd (upd H1 p (.ins C dx (putF "places" (.int pl) []))) a1 (.lst [V.int 1])) c = some o := fun c o e => by
      rw [upd_ne (ne_of_none e m1)]
      exact e
    have hh2 : (upd H1 p (.ins C dx (putF "places" (.int pl) []))) h = some (.lst (ps.map fun q => V.ref q.1)) := by
      rw [upd_ne hph]
      exact sm _ _ hh
    have tu2 : TupsAt (upd H1 p (.ins C dx (putF "places" (.int pl) []))) ps := fun q hq => by
      have y := sm _ _ (ht q hq)
      rw [upd_ne (ne_of y hp1 (by intro z; cases z))]
      exact y
    refine ⟨_, rfl, h, rfl, ⟨_, SqL.of (hA _ _ hh2)⟩, fun D nD => ?_⟩
    generalize hG : upd (upd H1 p (.ins C dx (putF "places" (.int pl) []))) a1 (.lst [V.int 1]) = G at hA nD ⊢
    have hh3 := hA _ _ hh2
    have tu3 : TupsAt G ps := fun q hq => hA _ _ (tu2 q hq)
    have ga1 : G a1 = some (.lst [V.int 1]) := by
      rw [← hG]
      exact upd_same
    refine lc_list (K := K) (a := h) (xs := ps.map fun q => V.ref q.1) (fun i H' => H' = upd G D (.lst (((ps.take i).map fun q => absd q.2).map V.int))) rfl (fun i H' _ e => by
      rw [e]
      exact SqL.of (by rw [upd_ne (ne_of_none hh3 nD)]; exact hh3)) ?_ ?_
    · rintro i x H' hx rfl
      obtain ⟨r, hr, rfl⟩ : ∃ r, ps[i]? = some r ∧ x = .ref r.1 := by
        rw [List.getElem?_map] at hx
        cases e : ps[i]? with
        | none =>
          rw [e] at hx
          cases hx
        | some r =>
          rw [e] at hx
          exact ⟨r, rfl, (Option.some.inj hx).symm⟩
      have rin := List.mem_of_getElem? hr
      obtain ⟨i1, j1, d1, el, b1⟩ := hl.one r.2 (List.mem_map.mpr ⟨r, rin, rfl⟩)
      have tr := tu3 r rin
      rw [el] at tr
      refine ⟨rfl, lc_yes ?_⟩
      refine ⟨_, rfl, r.1, _, 2, .int d1, rfl, rfl, SqT.of (xs := [V.int i1, V.int j1, V.int d1]) (by rw [upd_ne (ne_of_none tr nD)]; exact tr), atI_nat (j := 2) rfl, d1, rfl, _, upd_same, ?_, ?_⟩
      · rw [List.length_map, List.length_map]
        refine small1000 ?_
        rw [List.length_take]
        have := hl.few
        rw [List.length_map] at this
        omega
      · rw [upd_upd, List.take_add_one, hr, List.map_append, List.map_append]
        have e : absd r.2 = if d1 < 0 then -d1 else d1 := by rw [el] <;> rfl
        show upd G D (.lst (_ ++ [V.int (if d1 < 0 then -d1 else d1)])) = upd G D (.lst (_ ++ [V.int (absd r.2)]))
        rw [e]
    · rintro H' rfl
      rw [List.length_map, List.take_length]
      have few : ps.length ≤ 20 := by
        have := hl.few
        rwa [List.length_map] at this
      refine ⟨a1, D, [V.int 1], _, rfl, rfl, by rw [upd_ne (ne_of_none ga1 nD)]; exact ga1, upd_same, ?_, fun b nb => ?_⟩
      · rw [List.length_map, List.length_map]
        show 1 + ps.length ≤ sizeLine
        exact Nat.le_of_lt (small1000 (by omega))
      refine ⟨b, 1 :: ps.map fun q => absd q.2, rfl, SqL.of upd_same, Nat.succ_pos _, fun rc hm hle => ?_⟩
      have rea : Reach rc (ps.map (·.2)) := by
        refine ⟨hle 1 List.mem_cons_self, fun l hl2 i j d el => ?_, ?_⟩
        · obtain ⟨r, hr, rfl⟩ := List.mem_map.mp hl2
          have y := hle (absd r.2) (List.mem_cons_of_mem _ (List.mem_map.mpr ⟨r, hr, rfl⟩))
          have el : r.2 = [i, j, d] := el
          rw [el] at y
          have y : (if d < 0 then -d else d) ≤ rc := y
          split at y <;> omega
        · rcases List.mem_cons.mp hm with e | e
          · exact .inl e
          · obtain ⟨r, hr, er⟩ := List.mem_map.mp e
            obtain ⟨i1, j1, d1, el, _⟩ := hl.one r.2 (List.mem_map.mpr ⟨r, hr, rfl⟩)
            rw [el] at er
            have er : (if d1 < 0 then -d1 else d1) = rc := er
            refine .inr ⟨r.2, List.mem_map.mpr ⟨r, hr, rfl⟩, i1, j1, d1, el, ?_⟩
            split at er <;> omega
      have gp : G p = some (.ins C dx (putF "places" (.int pl) [])) := hA _ _ upd_same
      have gp2 : (upd (upd G D (.lst ((ps.map fun q => absd q.2).map V.int))) b (.lst ([V.int 1] ++ (ps.map fun q => absd q.2).map V.int))) p = some (.ins C dx (putF "places" (.int pl) [])) := by
        have y : (upd G D (.lst ((ps.map fun q => absd q.2).map V.int))) p = some (.ins C dx (putF "places" (.int pl) [])) := by
          rw [upd_ne (ne_of_none gp nD)]
          exact gp
        rw [upd_ne (ne_of_none y nb)]
        exact y
      refine ⟨_, rfl, p, C, dx, _, rfl, gp2, T.cl, T.nR, (by show 1 < 1000; decide), ?_⟩
      -- self._hears
      have old : ∀ c o, G c = some o → c ≠ p → (upd (upd (upd G D (.lst ((ps.map fun q => absd q.2).map V.int))) b (.lst ([V.int 1] ++ (ps.map fun q => absd q.2).map V.int))) p (.ins C dx (putF "reach" (.int rc) (putF "places" (.int pl) [])))) c = some o := fun c o e hc => by
        have y : (upd G D (.lst ((ps.map fun q => absd q.2).map V.int))) c = some o := by
          rw [upd_ne (ne_of_none e nD)]
          exact e
        rw [upd_ne hc, upd_ne (ne_of_none y nb)]
        exact y
      generalize hM : upd (upd (upd G D (.lst ((ps.map fun q => absd q.2).map V.int))) b (.lst ([V.int 1] ++ (ps.map fun q => absd q.2).map V.int))) p (.ins C dx (putF "reach" (.int rc) (putF "places" (.int pl) []))) = M at old
      have mp : M p = some (.ins C dx (putF "reach" (.int rc) (putF "places" (.int pl) []))) := by
        rw [← hM]
        exact upd_same
      have mh := old _ _ hh3 hph
      have mt : TupsAt M ps := fun r hr => old _ _ (tu3 r hr) (ne_of (tu3 r hr) gp (by intro z; cases z))
      refine ⟨_, rfl, h, ps, 2, rfl, SqL.of mh, fun r hr => SqT.of (mt r hr), fun r hr => ?_, fun l nl => ?_⟩
      · obtain ⟨i1, j1, d1, el, _⟩ := hl.one r.2 (List.mem_map.mpr ⟨r, hr, rfl⟩)
        rw [el] <;> rfl
      have lp : p ≠ l := ne_of_none mp nl
      refine ⟨_, rfl, p, C, dx, _, rfl, by rw [upd_ne lp]; exact mp, T.cl, T.nH, (by show 2 < 1000; decide), ?_⟩
      have keep : ∀ c o, H c = some o → c ≠ p → M c = some o := fun c o e hc => by
        refine old c o (hA c o ?_) hc
        rw [upd_ne hc]
        exact sm c o e
      refine q rc l _ ⟨⟨dx, upd_same⟩, by rw [upd_ne (Ne.symm lp), upd_same], fun r hr => ?_⟩ rea (fun c o e hc => ?_) ?_
      · have y := mt r ((srt_perm ps).mem_iff.mp hr)
        rw [upd_ne (ne_of y mp (by intro z; cases z)), upd_ne (ne_of_none y nl)]
        exact y
      · rw [upd_ne hc, upd_ne (ne_of_none (keep c o e hc) nl)]
        exact keep c o e hc
      · cases e : H l with
        | none => rfl
        | some o =>
          rw [keep l o e (Ne.symm lp)] at nl
          cases nl
end
end Kx
/-! Own ground, part YL: an own class called within a try. -/
namespace Yl
open PySem PySem.Spec PyProof.Rows L2 Xa Xb Xc Xp Xm
def tMakeS (C : Addr) (sp : Sp) (E : L2.St → XK) (t : TA) : TE := fun σ H Q => t σ H fun vs H1 => ∀ x dx, H1 x = none → H1 dx = none → dx ≠ x → sp (.ref x :: vs) (upd (upd H1 dx (.own x)) x (.ins C dx [])) (fun v H2 => v = .non ∧ Q (.ref x) H2) (E σ)
section
variable {X : Cx} {CX : CXT} {k : Nat} {f C : Addr} {fd : FuncData} {ps : List Str} {sp : Sp} {E : L2.St → XK} {x : Str} {p pos : Pos} {e : Expr} {es : List Expr} {t : TA}
theorem run_makeS {pins : List (Addr × Obj)} {σ : L2.St} {H : Hp} {s : Shared} {Q : VK} {us : List Value} {vs : List V} (M : Mk X.K C f) (F : FnOk X.prog X.w X.K X.mg X.base CX k f fd ps sp) (hr : Room (k + 1) X.A) (hb : Binds X.K fd ps [])
    (hx : PassesAt CX X σ (E σ)) (I : Inv X pins σ H s) (r : Vals vs us)
    (h : ∀ x dx, H x = none → H dx = none → dx ≠ x → sp (.ref x :: vs) (upd (upd H dx (.own x)) x (.ins C dx [])) (fun v H2 => v = .non ∧ Q (.ref x) H2) (E σ)) :
    wpAny (model X.prog X.w) X.A (call (.ref C) us) (EP X pins σ Q) X.xe s := by
  have hq := h (s.heap.objs.size + 1) s.heap.objs.size (I.hok.fresh (Nat.le_succ _)) (I.hok.fresh (Nat.le_refl _)) (Nat.ne_of_lt (Nat.lt_succ_self _))
  have I2 := Inv.made (C := C) I
  have r2 : Vals (V.ref (s.heap.objs.size + 1) :: vs) (Value.ref (s.heap.objs.size + 1) :: us) := .cons rfl r
  have hl : (Value.ref (s.heap.objs.size + 1) :: us).length = ps.length := by
    have e := r2.length
    rw [F.len _ _ _ _ hq] at e
    exact e.symm
  have b := hb { s with heap := _ } (Value.ref (s.heap.objs.size + 1) :: us) I2.kIn (by rw [List.append_nil]; exact hl)
  rw [List.append_nil] at b
  refine wpAny_call (make_map (f := f) I.kIn M.makes M.init (beq_iff_eq.mp M.fn) (codeAny_mono (F.run _ X.stack _ _ ⟨Value.ref (s.heap.objs.size + 1) :: us, []⟩ (Value.ref (s.heap.objs.size + 1) :: us) _ _ (E σ) (hr.make C us [])
    (I2.env0.make C us []) b r2 hq) fun r s' hq' => ?_))
  cases r with
  | error e => exact hx pins _ _ e s' I2 hq'
  | ok fl =>
    cases fl with
    | ret u =>
      obtain ⟨v, H', I3, rv, ev, q3⟩ := I2.after hq'
      subst ev
      exact ⟨rv, ⟨V.ref (s.heap.objs.size + 1), H', I3, rfl, q3⟩⟩
    | next => exact False.elim hq'
    | brk => exact False.elim hq'
    | cont => exact False.elim hq'
/-- C(e, ..), where what leaves is taken -/
theorem pe_makeS (M : Mk X.K C f) (F : FnOk X.prog X.w X.K X.mg X.base CX k f fd ps sp) (hr : Room (k + 1) X.A) (hg : Gl X x) (hm : X.mg x = some (.ref C)) (hb : Binds X.K fd ps []) (hx : ∀ σ, PassesAt CX X σ (E σ))
    (ha : PA X (e :: es) t) (hdb : (x == ("__debug__" : Str)) = false := by decide) (he : starEach (e :: es) X.env = (false, eval e X.env) :: starEach es X.env := by rfl) (hpl : (backTo pos (starEach es X.env)).any (·.1) = false := by rfl) :
    PE X (.Call (.Name x p) (e :: es) [] pos) (tMakeS C sp E t) := by
  refine ⟨fun pins s σ H Q I h => ?_⟩
  refine wpAny_Call_Name_kw (ld_glob I hg hm ?_ hdb)
  refine PySem.W.callWith_K (h₀ := X.base) I.ok.mod.kin M.kp (thn (ha.run pos pins s σ H _ I h) fun us s1 ⟨vs, H1, I1, r, q⟩ => ⟨I1.kIn, ?_⟩) he hpl
  exact run_makeS M F hr hb (hx σ) I1 r q
end
end Yl
/-! Own ground, part YM: == with an own `__eq__`, the other of any kind. -/
namespace Ym
open PySem PySem.Spec PyProof.Rows L2 Xa Xb Xc Xp Xm
/-- v is of the type t -/
inductive KindV (K : PySem.W.Frag) (H : Hp) : V → Value → Prop
  | base {v : V} {T : String} (h : TyB K H v T) : KindV K H v (.type T)
  | ins {a C dx : Addr} {fs : List (Str × V)} (h : H a = some (.ins C dx fs)) : KindV K H (.ref a) (.ref C)
theorem looks_typeIs {M : Model} {s : Shared} {u : Value} {T : String} (h : s.TypeIs u T) : PySem.W.Looks M s.heap (typeOf u) (.type T) := by
  cases u with
  | ref a =>
    obtain ⟨o, ho, hc⟩ := h
    exact hc ▸ (PySem.W.Looks.ld ho).andThen .now
  | _ => exact PySem.W.Looks.of_pure h
section
variable {X : Cx} {pins : List (Addr × Obj)} {σ : L2.St} {H : Hp} {s : Shared}
theorem looks_kind (I : Inv X pins σ H s) {v : V} {u t : Value} (rx : RelV v u) (k : KindV X.K H v t) : PySem.W.Looks (model X.prog X.w) s.heap (typeOf u) t := by
  cases k with
  | base h => exact looks_typeIs (h.is I rx)
  | ins h =>
    cases rx
    obtain ⟨mA, J, _⟩ := ins_get I.hok h
    obtain ⟨od, J, _⟩ := J.look
    exact J.type
def rOwnEq (K : PySem.W.Frag) (C : Addr) (sp : Sp) (E : XK) : R2 := fun x y H Q => ∃ a dx fs t, x = .ref a ∧ H a = some (.ins C dx fs) ∧ KindV K H y t ∧ PySem.W.notFirst K C t = true ∧ sp [x, y] H (fun v H' => ∃ b, v = .bl b ∧ Q v H') E
/-- x == y, x of an own class -/
theorem op_ownEq {CX : CXT} {n : Nat} {C f : Addr} {fd : FuncData} {ps : List Str} {sp : Sp} {E : XK} (F : FnOk X.prog X.w X.K X.mg X.base CX n f fd ps sp)
    (hs : PySem.W.findIn X.K (.ref C) "__eq__" = some (some (.ref f))) (hf : PySem.W.isFn X.K (.ref f) = true) (hb : Binds X.K fd ps []) (hx : Passes CX X E) (hr : Room n X.A) : OpR X (compareOp .Eq) (rOwnEq X.K C sp E) := by
  intro pins s σ H x y v u Q I rx ry h
  obtain ⟨a, dx, fs, t, rfl, ha, hk, nf, q⟩ := h
  have ly := looks_kind I ry hk
  cases rx
  obtain ⟨mA, J, _⟩ := ins_get I.hok ha
  obtain ⟨od, J, _⟩ := J.look
  obtain ⟨m, hF⟩ := I.fr
  show wpAny (model X.prog X.w) X.A (richCompare .Eq (.ref a) u) (EP X pins σ Q) X.xe s
  refine PySem.W.cmp_K (op := .Eq) hr.units0 hF I.ok.mod.kin J ly nf hs hf ?_
  have hl := F.len _ _ _ _ q
  have r2 : Vals [V.ref a, y] [Value.ref a, u] := .cons rfl (.cons ry .nil)
  refine wpAny_call (codeAny_mono (F.run X.A X.stack s H ⟨[.ref a, u], []⟩ [.ref a, u] [.ref a, y] _ E hr I.env0 (by
    have := hb s [.ref a, u] I.kIn (by simpa using hl)
    simpa using this) r2 q) fun r s' hq => ?_)
  cases r with
  | error e => exact hx pins σ H s e s' I hq
  | ok fl =>
    cases fl with
    | ret w =>
      obtain ⟨z, H', I', rz, b, ez, qq⟩ := I.after hq
      subst ez
      cases rz
      exact ⟨.bl b, H', I', rfl, qq⟩
    | next => exact False.elim hq
    | brk => exact False.elim hq
    | cont => exact False.elim hq
end
end Ym
/-! Own ground, part YN: y == x, y of a built-in kind, x with an own `__eq__`. -/
namespace Yn
open PySem PySem.Spec PyProof.Rows L2 Xa Xb Xc Xp Xm Ym
open AutoSeq1 (wpAny_loadPart')
open MeetsSeq
theorem wpAny_isInst {M : Model} {A : Around} {E : Value → Shared → Prop} {s : Shared} {K : PySem.W.Frag} {x C : Addr} {o : Obj} {t : Value} {b : Bool} {Q : Bool → Shared → Prop} (hx : s.heap.get? x = some o) (hc : o.cls = .ref C) (X : K.In s.heap) (e : PySem.W.subIn K (.ref C) t = some b) (h : Q b s) :
    wpAny M A (isInstance (.ref x) t) Q E s := by
  unfold isInstance
  have l1 : PySem.W.Looks M s.heap (typeOf (.ref x)) (.ref C) := hc ▸ (PySem.W.Looks.ld hx).andThen .now
  exact wpAny_bind (l1.here ((PySem.W.looks_subIn X e).here h))
theorem list_back (K : PySem.W.Frag) (l x C : Addr) (o od : Obj) (hd : od.cls = .type "list") :
    Meets (Builtin.«list.__eq__» ⟨[.ref l, .ref x], []⟩) (fun _ R s => s.heap.get? l = some od ∧ s.heap.get? x = some o ∧ o.cls = .ref C ∧ K.In s.heap ∧ PySem.W.subIn K (.ref C) (.type "list") = some false ∧ R (.ok (.ret .notImplemented)) s) :=
  .of_wp fun prog w A R s h => by
    obtain ⟨hp, g, d, tk, os⟩ := s
    obtain ⟨hl, hx, hc, X, e, h⟩ := h
    wp_walk using wpAny_loadPart' hl, wpAny_load hl, wpAny_isInst hx hc X e
    exact ⟨_, rfl, h⟩
theorem tuple_back (K : PySem.W.Frag) (l x C : Addr) (o od : Obj) (hd : od.cls = .type "tuple") :
    Meets (Builtin.«tuple.__eq__» ⟨[.ref l, .ref x], []⟩) (fun _ R s => s.heap.get? l = some od ∧ s.heap.get? x = some o ∧ o.cls = .ref C ∧ K.In s.heap ∧ PySem.W.subIn K (.ref C) (.type "tuple") = some false ∧ R (.ok (.ret .notImplemented)) s) :=
  .of_wp fun prog w A R s h => by
    obtain ⟨hp, g, d, tk, os⟩ := s
    obtain ⟨hl, hx, hc, X, e, h⟩ := h
    wp_walk using wpAny_loadPart' hl, wpAny_load hl, wpAny_isInst hx hc X e
    exact ⟨_, rfl, h⟩
theorem none_back (x : Addr) : Gives (Builtin.«NoneType.__eq__» ⟨[.none, .ref x], []⟩) (.val (Value.notImplemented)) := PySem.SeqAt.NoneType___eq___none_ref_0 x
theorem int_back (b : Int) (u : Tok) (x : Addr) (c : Value) (dd : Option Addr) (sl : Array (Option Value)) :
    Meets (Builtin.«int.__eq__» ⟨[.int b u, .ref x], []⟩) (fun _ R s => s.heap.get? x = some { cls := c, dict := dd, data := .plain, slots := sl } ∧ R (.ok (.ret .notImplemented)) s) :=
  .of_wp fun prog w A R s h => by
    obtain ⟨hp, g, d, tk, os⟩ := s
    obtain ⟨hl, h⟩ := h
    wp_walk using wpAny_loadPart' hl, wpAny_load hl
    exact ⟨_, rfl, h⟩
theorem str_back (b : Str) (u : Tok) (x : Addr) (c : Value) (dd : Option Addr) (sl : Array (Option Value)) :
    Meets (Builtin.«str.__eq__» ⟨[.str b u, .ref x], []⟩) (fun _ R s => s.heap.get? x = some { cls := c, dict := dd, data := .plain, slots := sl } ∧ R (.ok (.ret .notImplemented)) s) :=
  .of_wp fun prog w A R s h => by
    obtain ⟨hp, g, d, tk, os⟩ := s
    obtain ⟨hl, h⟩ := h
    wp_walk using wpAny_loadPart' hl, wpAny_load hl
    exact ⟨_, rfl, h⟩
theorem dict_back (K : PySem.W.Frag) (l x C : Addr) (o od : Obj) (hd : od.cls = .type "dict") :
    Meets (Builtin.«dict.__eq__» ⟨[.ref l, .ref x], []⟩) (fun _ R s => s.heap.get? l = some od ∧ s.heap.get? x = some o ∧ o.cls = .ref C ∧ K.In s.heap ∧ PySem.W.subIn K (.ref C) (.type "dict") = some false ∧ R (.ok (.ret .notImplemented)) s) :=
  .of_wp fun prog w A R s h => by
    obtain ⟨hp, g, d, tk, os⟩ := s
    obtain ⟨hl, hx, hc, X, e, h⟩ := h
    wp_walk using wpAny_loadPart' hl, wpAny_load hl, wpAny_isInst hx hc X e

    exact ⟨_, rfl, h⟩
section
variable {prog : Program} {w : World} {A : Around} {E : Value → Shared → Prop} {s : Shared} {K : PySem.W.Frag} {x C L f : Addr} {h₀ : Heap} {m : Str → Option Value} {ox : Obj} {od : Option Obj}
theorem back_K {u : Value} {T id : String} {Q : Value → Shared → Prop} (hu : A.units < cLine) (F : Fr h₀ L s.heap m) (X₀ : K.In h₀) (hT : s.TypeIs u T) (I : PySem.W.InstAt s.heap x ox C od) (hsub : PySem.W.subIn K (.ref C) (.type T) = some false)
    (h1 : Slot T (cmpInfo .Eq).2.1 id) (hc1 : ∀ Q' : Value → Shared → Prop, Q' .notImplemented s → wpAny (model prog w) A (call (.builtin id) [u, .ref x]) Q' E s)
    (hs : PySem.W.findIn K (.ref C) "__eq__" = some (some (.ref f))) (hf : PySem.W.isFn K (.ref f) = true)
    (h : wpAny (model prog w) A (call (.ref f) [.ref x, u]) (PySem.W.CmpBack Q) E s) : wpAny (model prog w) A (richCompare .Eq u (.ref x)) Q E s := by
  have X := X₀.keeps F.keep
  have one : wpAny (model prog w) A (tryCompare (.ref x) (cmpInfo .Eq).2.2 u) (fun r s' => ∃ v, r = some v ∧ Q v s') E s := by
    unfold tryCompare
    refine wpAny_bind (PySem.W.ifBound_K X I hs hf (wpAny_mono h (fun v s' hv => ?_) fun _ _ e => e))
    cases v <;> first | exact hv.elim | exact wpAny_pure ⟨_, rfl, hv⟩
  rcases hi : cmpInfo CmpOp.Eq with ⟨sym, f1, r1⟩
  rw [hi] at h1 one
  simp only [richCompare, hi, hT.oneThing_none]
  refine wpAny_holding (wpAny_bind (wpAny_cRoomFor hu ?_))
  refine wpAny_bind (wpAny_typeOf hT (wpAny_bind (I.type.here ?_)))
  have ne : (Value.type T != Value.ref C) = true := by simp
  simp only [ne, if_true]
  refine wpAny_bind ((PySem.W.looks_subIn X hsub).here ?_)
  simp only [Bool.false_eq_true, if_false, Bool.not_false, if_true]
  refine wpAny_bind (m := tryCompare u _ (.ref x)) (wpAny_tryCompare_declines hT h1 (hc1 _ ⟨rfl, ?_⟩))
  refine wpAny_bind (wpAny_mono one (fun r s' z => ?_) fun _ _ e => e)
  obtain ⟨v, rfl, hq⟩ := z
  exact wpAny_pure hq
end
end Yn
/-! Own ground, part YO: x != y, x with an own `__eq__` and no own `__ne__`. -/
namespace Yo
open PySem PySem.Spec PyProof.Rows L2 Xa Xb Xc Xp Xm Ym Yn
section
variable {prog : Program} {w : World} {A : Around} {E : Value → Shared → Prop} {s : Shared} {K : PySem.W.Frag} {x C L f : Addr} {h₀ : Heap} {m : Str → Option Value} {ox : Obj} {od : Option Obj}
theorem check_K {M : Model} {id owner n : String} {rest : List Value} {Q : Unit → Shared → Prop} (hk : builtinKind id = some .slot) (hs : splitId id = some (owner, n)) (ha : argsOk id ⟨.ref x :: rest, []⟩) (hx : s.heap.get? x = some ox) (hc : ox.cls = .ref C) (X : K.In s.heap)
    (e : PySem.W.subIn K (.ref C) (.type owner) = some true) (hq : Q () s) : wpAny M A (checkBuiltinCall id ⟨.ref x :: rest, []⟩) Q E s := by
  simp only [checkBuiltinCall, hk, hs]
  refine wpAny_bind (wpAny_isInst hx hc X e ?_)
  cases hsig : Manifest.signature? id with
  | none => exact wpAny_pure hq
  | some sig =>
    simp only [argsOk, hsig] at ha
    have h2 : Bind.checkArgs id sig ⟨.ref x :: rest, []⟩ = pure () := ha
    show wpAny M A (Bind.checkArgs id sig ⟨.ref x :: rest, []⟩) Q E _
    rw [h2]
    exact wpAny_pure hq
theorem ifBoundB_K {M : Model} {name : Str} {id : String} {args : List Value} {Q : Option Value → Shared → Prop} (X : K.In s.heap) (I : PySem.W.InstAt s.heap x ox C od) (hs : PySem.W.findIn K (.ref C) name = some (some (.builtin id))) (hb : ∀ self, bindSpecial (.builtin id) self = pure (.builtin id, [self]))
    (h : wpAny M A (call (.builtin id) (.ref x :: args)) (fun v => Q (some v)) E s) : wpAny M A (callSpecialIfBound? (.ref x) name args) Q E s := by
  simp only [callSpecialIfBound?, bindSpecialIfBound?]
  refine wpAny_holding (wpAny_bind (wpAny_bind (wpAny_bind (I.type.here ((PySem.W.looks_findIn X hs).here ?_)))))
  simp only [hb]
  refine wpAny_bind (wpAny_askSetting (wpAny_ite ?_))
  have fin : wpAny M A (call (.builtin id) ([.ref x] ++ args) >>= fun v => pure (some v)) Q E s := wpAny_bind (wpAny_mono h (fun v s' h' => wpAny_pure h') fun _ _ h' => h')
  split
  · exact wpAny_bind (wpAny_pure (wpAny_pure fin))
  · exact wpAny_tryCatch (wpAny_bind (wpAny_pure (wpAny_pure fin)))
theorem objNe_K {u : Value} (X : K.In s.heap) (I : PySem.W.InstAt s.heap x ox C od) (hs : PySem.W.findIn K (.ref C) "__eq__" = some (some (.ref f))) (hf : PySem.W.isFn K (.ref f) = true) (hu : A.units < cLine) {Q : Fin → Shared → Prop}
    (hcall : wpAny (model prog w) A (call (.ref f) [.ref x, u]) (fun v s' => ∃ b, v = .bool b ∧ Q (.done (.ret (.bool (!b)))) s') E s) :
    wpAny (model prog w) A (Builtin.«object.__ne__» ⟨[.ref x, u], []⟩) Q E s := by
  unfold Builtin.«object.__ne__»
  repeat (first
    | with_reducible refine wpAny_cRoomFor hu ?_
    | (refine wpAny_bind (m := callSpecialIfBound? (.ref x) (Str.ofString "__eq__") [u])
        (PySem.W.ifBound_K X I hs hf (wpAny_mono hcall (fun r s' hr => by
          obtain ⟨b, rfl, hq⟩ := hr
          repeat (first | exact hq | exact wpAny_pure hq | exact wpAny_truthy_bool hq | (refine wpAny_bind (m := truthy (.bool _)) (wpAny_truthy_bool ?_)) | wp_step)) fun _ _ e => e)))
    | wp_step)
theorem ne_K {u tb : Value} {Q : Value → Shared → Prop} (hu : A.units + 1 < cLine) (Fr0 : Fr h₀ L s.heap m) (X₀ : K.In h₀) (I : PySem.W.InstAt s.heap x ox C od) (hb : PySem.W.Looks (model prog w) s.heap (typeOf u) tb) (hn : PySem.W.notFirst K C tb = true)
    (hs : PySem.W.findIn K (.ref C) "__eq__" = some (some (.ref f))) (hf : PySem.W.isFn K (.ref f) = true) (hne : PySem.W.findIn K (.ref C) "__ne__" = some (some (.builtin "object.__ne__"))) (ho : PySem.W.subIn K (.ref C) (.type "object") = some true)
    (h : wpAny (model prog w) A.in1 (call (.ref f) [.ref x, u]) (fun v s' => ∃ b, v = .bool b ∧ Q (.bool (!b)) s') E s) : wpAny (model prog w) A (richCompare .NotEq (.ref x) u) Q E s := by
  have X := X₀.keeps Fr0.keep
  have one : wpAny (model prog w) A (tryCompare (.ref x) (cmpInfo .NotEq).2.1 u) (fun r s' => ∃ v, r = some v ∧ Q v s') E s := by
    show wpAny (model prog w) A (tryCompare (.ref x) "__ne__" u) _ E s
    unfold tryCompare
    refine wpAny_bind (ifBoundB_K X I hne PySem.F.cmp_object.ne.bind (wpAny_call (codeAny_call_builtin PySem.F.cmp_object.ne.plain PySem.F.cmpEntry_ne (check_K PySem.F.cmpKind_ne PySem.F.cmpSplit_ne (PySem.F.cmpArgs_ne _ _) I.at_ I.cls X ho
      (objNe_K (A := A.in1) X I hs hf hu (wpAny_mono h (fun v s' hv => ?_) fun _ _ e => e))))))
    obtain ⟨b, rfl, hq⟩ := hv
    first | exact ⟨b, rfl, wpAny_pure ⟨_, rfl, hq⟩⟩ | exact ⟨b, rfl, wpAny_pure (wpAny_pure ⟨_, rfl, hq⟩)⟩ | exact ⟨b, rfl, ⟨_, rfl, hq⟩⟩
  unfold richCompare
  simp only [oneThing_ref]
  refine wpAny_holding (wpAny_bind (wpAny_cRoomFor (Nat.lt_of_succ_lt hu) ?_))
  refine wpAny_bind (I.type.here (wpAny_bind (hb.here ?_)))
  split
  · rename_i q
    have e : PySem.W.subIn K tb (.ref C) = some false := by
      rcases Bool.or_eq_true_iff.mp hn with e | e
      · rw [beq_iff_eq.mp e] at q
        simp at q
      · exact beq_iff_eq.mp e
    refine wpAny_bind ((PySem.W.looks_subIn X e).here ?_)
    simp only [Bool.false_eq_true, if_false]
    refine wpAny_bind (wpAny_mono one (fun r s' z => ?_) fun _ _ e => e)
    obtain ⟨v, rfl, hq⟩ := z
    exact wpAny_pure hq
  · refine wpAny_bind (wpAny_pure ?_)
    simp only [Bool.false_eq_true, if_false]
    refine wpAny_bind (wpAny_mono one (fun r s' z => ?_) fun _ _ e => e)
    obtain ⟨v, rfl, hq⟩ := z
    exact wpAny_pure hq
end
section
variable {X : Cx} {CX : CXT} {n : Nat} {C f : Addr} {fd : FuncData} {ps : List Str} {sp : Sp} {E : XK}
theorem run_eq {A : Around} {pins : List (Addr × Obj)} {σ : L2.St} {H : Hp} {s : Shared} {a : Addr} {y : V} {u : Value} {Q : VK} (sb : Sub X n A) (F : FnOk X.prog X.w X.K X.mg X.base CX n f fd ps sp) (hb : Binds X.K fd ps []) (hx : Passes CX X E) (I : Inv X pins σ H s) (ry : RelV y u)
    (q : sp [V.ref a, y] H (fun v H' => ∃ b, v = .bl b ∧ Q v H') E) : wpAny (model X.prog X.w) A (call (.ref f) [.ref a, u]) (fun v s' => ∃ b, v = .bool b ∧ ∃ H', Inv X pins σ H' s' ∧ Q (.bl b) H') X.xe s := by
  have e0 : Env0 X.prog X.w X.K X.mg X.base A X.stack s H := by
    have e := I.env0
    exact ⟨by rw [sb.fr]; exact e.frames, e.mod, e.bs, e.bsz, e.funs, e.frf, e.hok, e.bare⟩
  have hl := F.len _ _ _ _ q
  have r2 : Vals [V.ref a, y] [Value.ref a, u] := .cons rfl (.cons ry .nil)
  refine wpAny_call (codeAny_mono (F.run A X.stack s H ⟨[.ref a, u], []⟩ [.ref a, u] [.ref a, y] _ E sb.room e0 (by
    have := hb s [.ref a, u] I.kIn (by simpa using hl)
    simpa using this) r2 q) fun r s' hq => ?_)
  cases r with
  | error e => exact hx pins σ H s e s' I hq
  | ok fl =>
    cases fl with
    | ret w =>
      obtain ⟨z, H', I', rz, b, ez, qq⟩ := I.after hq
      subst ez
      cases rz
      exact ⟨b, rfl, H', I', qq⟩
    | next => exact False.elim hq
    | brk => exact False.elim hq
    | cont => exact False.elim hq
/-- x != y, x of an own class with an own `__eq__` -/
def rOwnNe (K : PySem.W.Frag) (C : Addr) (sp : Sp) (E : XK) : R2 := fun x y H Q => ∃ a dx fs t, x = .ref a ∧ H a = some (.ins C dx fs) ∧ KindV K H y t ∧ PySem.W.notFirst K C t = true ∧ sp [x, y] H (fun v H' => ∃ b, v = .bl b ∧ Q (.bl (!b)) H') E
theorem op_ownNe (F : FnOk X.prog X.w X.K X.mg X.base CX n f fd ps sp)
    (hs : PySem.W.findIn X.K (.ref C) "__eq__" = some (some (.ref f))) (hf : PySem.W.isFn X.K (.ref f) = true) (hne : PySem.W.findIn X.K (.ref C) "__ne__" = some (some (.builtin "object.__ne__"))) (ho : PySem.W.subIn X.K (.ref C) (.type "object") = some true)
    (hb : Binds X.K fd ps []) (hx : Passes CX X E) (hr : Room (n + 1) X.A) : OpR X (compareOp .NotEq) (rOwnNe X.K C sp E) := by
  intro pins s σ H x y v u Q I rx ry h
  obtain ⟨a, dx, fs, t, rfl, ha, hk, nf, q⟩ := h
  have ly := looks_kind I ry hk
  cases rx
  obtain ⟨mA, J, _⟩ := ins_get I.hok ha
  obtain ⟨od, J, _⟩ := J.look
  obtain ⟨m, hF⟩ := I.fr
  have sb : Sub X (n + 1) X.A := ⟨hr, rfl⟩
  show wpAny (model X.prog X.w) X.A (richCompare .NotEq (.ref a) u) (EP X pins σ Q) X.xe s
  refine ne_K (by exact sb.in1.room.units0) hF I.ok.mod.kin J ly nf hs hf hne ho (wpAny_mono (run_eq (Q := fun v H' => ∃ b, v = .bl b ∧ Q (.bl (!b)) H') sb.in1 F hb hx I ry ?_) (fun r s' z => ?_) fun _ _ e => e)
  · have : (fun v H' => ∃ b, v = V.bl b ∧ ∃ b', v = V.bl b' ∧ Q (V.bl !b') H') = fun v H' => ∃ b, v = V.bl b ∧ Q (.bl (!b)) H' := by
      funext v H'
      refine propext ⟨fun ⟨b, e, b', e', q⟩ => ⟨b', e', q⟩, fun ⟨b, e, q⟩ => ⟨b, e, b, e, q⟩⟩
    rw [this]
    exact q
  · obtain ⟨b, rfl, H', I', b', e, qq⟩ := z
    injection e with e
    subst e
    exact ⟨b, rfl, .bl (!b), H', I', rfl, qq⟩
/-- y == x, y of a built-in kind: the own `__eq__` is asked -/
def rBackEq (K : PySem.W.Frag) (C : Addr) (sp : Sp) (E : XK) : R2 := fun y x H Q => ∃ a dx fs T, x = .ref a ∧ H a = some (.ins C dx fs) ∧ TyB K H y T ∧ T ∈ ["NoneType", "int", "str", "list", "tuple", "dict"] ∧ PySem.W.subIn K (.ref C) (.type T) = some false ∧ sp [x, y] H (fun v H' => ∃ b, v = .bl b ∧ Q v H') E
theorem op_backEq (F : FnOk X.prog X.w X.K X.mg X.base CX n f fd ps sp)
    (hs : PySem.W.findIn X.K (.ref C) "__eq__" = some (some (.ref f))) (hf : PySem.W.isFn X.K (.ref f) = true) (hb : Binds X.K fd ps []) (hx : Passes CX X E) (hr : Room n X.A) : OpR X (compareOp .Eq) (rBackEq X.K C sp E) := by
  intro pins s σ H y x v u Q I ry rx h
  obtain ⟨a, dx, fs, T, rfl, ha, hk, hT, hsub, q⟩ := h
  have ty := hk.is I ry
  cases rx
  obtain ⟨mA, O, _⟩ := ins_get I.hok ha
  have ob := O.obj
  obtain ⟨od, J, _⟩ := O.look
  obtain ⟨m, hF⟩ := I.fr
  have X1 := PySem.W.Frag.In.keeps I.ok.mod.kin hF.keep
  have oc : (PySem.W.instObj C dx).cls = .ref C := rfl
  have fin : wpAny (model X.prog X.w) X.A (call (.ref f) [.ref a, v]) (PySem.W.CmpBack (EP X pins σ Q)) X.xe s := by
    refine wpAny_mono (run_eq ⟨hr, rfl⟩ F hb hx I ry q) (fun r s' z => ?_) fun _ _ e => e
    obtain ⟨b, rfl, H', I', qq⟩ := z
    exact ⟨.bl b, H', I', rfl, qq⟩
  show wpAny (model X.prog X.w) X.A (richCompare .Eq v (.ref a)) (EP X pins σ Q) X.xe s
  cases hk with
  | non =>
    cases (show v = Value.none from ry)
    exact back_K hr.units0 hF I.ok.mod.kin ty J hsub PySem.F.slot_NoneType_eq (fun Q' hq => call_gives PySem.F.slot_NoneType_eq ty PySem.F.entry_NoneType_eq (PySem.F.args_NoneType_eq_2 _ _) (none_back a) hq) hs hf fin
  | int i =>
    obtain ⟨t, rfl⟩ := (show ∃ t, v = Value.int i t from ry)
    exact back_K hr.units0 hF I.ok.mod.kin ty J hsub PySem.F.slot_int_eq (fun Q' hq => call_meets PySem.F.slot_int_eq ty PySem.F.entry_int_eq (PySem.F.args_int_eq_2 _ _) (int_back i t a _ _ _) ⟨ob, hq⟩) hs hf fin
  | str z =>
    obtain ⟨t, rfl⟩ := (show ∃ t, v = Value.str z t from ry)
    exact back_K hr.units0 hF I.ok.mod.kin ty J hsub PySem.F.slot_str_eq (fun Q' hq => call_meets PySem.F.slot_str_eq ty PySem.F.entry_str_eq (PySem.F.args_str_eq_2 _ _) (str_back z t a _ _ _) ⟨ob, hq⟩) hs hf fin
  | @lst l xs h =>
    cases (show v = Value.ref l from ry)
    obtain ⟨o, g1, g2⟩ := ty
    exact back_K hr.units0 hF I.ok.mod.kin ⟨o, g1, g2⟩ J hsub PySem.F.slot_list_eq (fun Q' hq => call_meets PySem.F.slot_list_eq ⟨o, g1, g2⟩ PySem.F.entry_list_eq (PySem.F.args_list_eq_2 _ _) (list_back X.K l a C _ o g2) ⟨g1, ob, oc, X1, hsub, hq⟩) hs hf fin
  | @tup l xs h =>
    cases (show v = Value.ref l from ry)
    obtain ⟨o, g1, g2⟩ := ty
    exact back_K hr.units0 hF I.ok.mod.kin ⟨o, g1, g2⟩ J hsub PySem.F.slot_tuple_eq (fun Q' hq => call_meets PySem.F.slot_tuple_eq ⟨o, g1, g2⟩ PySem.F.entry_tuple_eq (PySem.F.args_tuple_eq_2 _ _) (tuple_back X.K l a C _ o g2) ⟨g1, ob, oc, X1, hsub, hq⟩) hs hf fin
  | @dK l xs h =>
    cases (show v = Value.ref l from ry)
    obtain ⟨o, g1, g2⟩ := ty
    exact back_K hr.units0 hF I.ok.mod.kin ⟨o, g1, g2⟩ J hsub PySem.F.slot_dict_eq (fun Q' hq => call_meets PySem.F.slot_dict_eq ⟨o, g1, g2⟩ PySem.F.entry_dict_eq (PySem.F.args_dict_eq_2 _ _) (dict_back X.K l a C _ o g2) ⟨g1, ob, oc, X1, hsub, hq⟩) hs hf fin
  | bl b => simp at hT
  | byt b => simp at hT
end
end Yo
/-! Web: __eq__, hears; how webs are compared. -/
namespace Kx
open PySem PySem.Spec PyProof.Rows L2 Xa Xb Xc Xd Xs Xp Xm Xr Xt Ym Yn Yo
abbrev sWEq : Stmt := inClass (top 13) 3
/-- what of the class's kind the text says -/
structure WKind (K : PySem.W.Frag) (C : Addr) : Prop where
  ha : PySem.W.findIn K (.ref C) "__class__" = some (some (.builtin "object.__class__"))
  hn : PySem.W.specialIn K (.builtin "object.__class__") "__get__" = some (some (.builtin "getset_descriptor.__get__"))
  htk : PySem.W.takesIn K (.builtin "object.__class__") = some true
  hm : PySem.W.mroIn K C (.type "object") = some true
  own : PySem.W.kitOne K (.ref C) (.ref C) = some true
section
variable {P : Program} {w : World} {K : PySem.W.Frag} {mg : Str → Option Value} {base : Heap} {f C : Addr} {fd : FuncData}
theorem web_kind {H : Hp} {p l : Addr} {pl rc : Int} {qs : List (Addr × List Int)} (T : WTxt K mg C) (W : WKind K C) (h : WebAt C H p pl rc l qs) : TyX K H (.ref p) (.ref C) :=
  let ⟨_, ob⟩ := h.ob
  .base (.ins ob T.cl W.ha W.hn W.htk W.hm)
def webEqv (pl pl2 : Int) (qs qs2 : List (Addr × List Int)) : Bool := decide (pl = pl2) && PyData.eqv (lisD (qs.map (·.2))) (lisD (qs2.map (·.2)))
def spWEq (K : PySem.W.Frag) (C : Addr) : Sp := fun xs H Q _ => ∃ (p l : Addr) (pl rc : Int) (qs : List (Addr × List Int)) (y : V), xs = [.ref p, y] ∧ WebAt C H p pl rc l qs ∧
  ((∃ t, TyX K H y t ∧ PySem.W.kitOne K t (.ref C) = some false ∧ Q (.bl false) H) ∨ ∃ (p2 l2 : Addr) (pl2 rc2 : Int) (qs2 : List (Addr × List Int)), y = .ref p2 ∧ WebAt C H p2 pl2 rc2 l2 qs2 ∧ Q (.bl (webEqv pl pl2 qs qs2)) H)
theorem scWEq : FnScope ["self", "other"] ["self", "other"] (defScope sWEq) := ⟨rfl, rfl, rfl, by decide +kernel, rfl, by decide +kernel, by decide +kernel⟩
theorem ok_weq (F : FunD K "__eq__" "Web.__eq__" (defArgs sWEq) (defBody sWEq) (defScope sWEq) [] [] f fd) (T : WTxt K mg C) (W : WKind K C) (B : Bi2 mg) : FnOk P w K mg base CX0 1 f fd ["self", "other"] (spWEq K C) := by
  refine F.ok scWEq (fun xs H Q E h => ?_) (fun cdv A outer s H vs Q E hr h => ?_)
  · obtain ⟨p, l, pl, rc, qs, y, rfl, _⟩ := h
    rfl
  · obtain ⟨p, l, pl, rc, qs, y, rfl, wa, q⟩ := h
    refine ⟨_, PSs.nox (pss_one (ps_ret (pe_and (pe_bi call_isi B.isi (pa_cons (pv 1) (pa1 (pe_glob (v := .ref C) (by rfl) T.gl rfl))))
      (pe_and (pe_cmpR op_eq (pe_fld (pv 0) rfl) (pe_fld (pv 1) rfl) (nomark _)) (pe_one (pe_cmpR (op_eqD hr.units) (pe_fld (pv 0) rfl) (pe_fld (pv 1) rfl) (nomark _))))))), ?_⟩
    rcases q with ⟨t, ty, k, q⟩ | ⟨p2, l2, pl2, rc2, qs2, rfl, wb, q⟩
    · exact ⟨_, rfl, y, .ref C, t, .ref C, false, rfl, .own C, ty, k, _, rfl, iteF q⟩
    · obtain ⟨dx, ob⟩ := wa.ob
      obtain ⟨dx2, ob2⟩ := wb.ob
      refine ⟨_, rfl, .ref p2, .ref C, .ref C, .ref C, true, rfl, .own C, web_kind T W wb, W.own, _, rfl, iteT ?_⟩
      refine ⟨_, rfl, p, C, dx, _, _, rfl, ob, T.cl, T.nP, wf_pl _ _ _, _, rfl, p2, C, dx2, _, _, rfl, ob2, T.cl, T.nP, wf_pl _ _ _, rfl, ?_⟩
      by_cases e : pl = pl2
      · subst e
        have q : Q (.bl (PyData.eqv (lisD (qs.map (·.2))) (lisD (qs2.map (·.2))))) H := by
          unfold webEqv at q
          rw [decide_eq_true rfl, Bool.true_and] at q
          exact q
        refine ⟨_, rfl, ?_⟩
        rw [decide_eq_true rfl]
        refine iteT ⟨_, rfl, p, C, dx, _, _, rfl, ob, T.cl, T.nH, wf_he _ _ _, _, rfl, p2, C, dx2, _, _, rfl, ob2, T.cl, T.nH, wf_he _ _ _, _, _, dp_lis wa.li wa.tu, dp_lis wb.li wb.tu, lis_shaped _, lis_shaped _, q⟩
      · have q : Q (.bl false) H := by
          unfold webEqv at q
          rw [decide_eq_false e, Bool.false_and] at q
          exact q
        refine ⟨_, rfl, ?_⟩
        have e2 : decide (V.int pl = V.int pl2) = false := decide_eq_false fun z => e (by injection z)
        rw [e2]
        exact iteF q
end
end Kx
/-! Own ground, part YP: `links != kept`, the elements one by one the same. -/
namespace Yp
open PySem PySem.Spec PyProof.Rows L2 Xa Xb Xc Xp Xm Ym Yn Yo
open AutoSeq1 (wpAny_loadPart')
open MeetsSeq MeetsSeq2 MeetsSeq3 SeqRoads2 PySem.SeqAt GQ
section
variable {prog : Program} {w : World} {A : Around} {R : Result → Shared → Prop}
theorem ne_loop (l b : Addr) (N : Nat) (J : Nat → Shared → Prop) (hl : ListI prog w A (fun e s' => R (.error e) s') l b N J) (fin : ∀ s, J N s → R (.ok (.ret (.bool false))) s) : ∀ (k i : Nat), N - i = k → i ≤ N → ∀ s, J i s →
      wpAny (model prog w) A.in1 (Builtin.«list.__eq__.loop» ⟨[.ref l, .ref b, rawInt i, rawInt 3], []⟩) (FinOf prog w A R) (fun e s' => R (.error e) s') s
  | 0, i, hk, hi, s, h => by
    obtain ⟨items, items2, n, n2, hl1, hb1, hs1, hs2, _⟩ := hl _ _ h
    have iN : i = N := by omega
    have hR := fin s (iN ▸ h)
    obtain ⟨hp, g, d, tk, os⟩ := s
    wp_walk using wpAny_loadPart' hl1, wpAny_loadPart' hb1
    have no1 : items[((i : Nat) : Int).toNat]? = none := by simp; omega
    have no2 : items2[((i : Nat) : Int).toNat]? = none := by simp; omega
    rw [no1, no2]
    wp_walk using wpAny_loadPart' hl1, wpAny_loadPart' hb1
    show R (.ok (.ret (.bool (items.size != items2.size)))) _
    rw [hs1, hs2]
    simpa using hR
  | k + 1, i, hk, hi, s, h => by
    obtain ⟨items, items2, n, n2, hl1, hb1, hs1, hs2, turn⟩ := hl _ _ h
    have il : i < items.size := by omega
    have il2 : i < items2.size := by omega
    have ht := turn il il2
    obtain ⟨hp, g, d, tk, os⟩ := s
    wp_walk using wpAny_loadPart' hl1, wpAny_loadPart' hb1
    have at1 : items[((i : Nat) : Int).toNat]? = some items[i] := by simp [il]
    have at2 : items2[((i : Nat) : Int).toNat]? = some items2[i] := by simp [il2]
    have up : ((i : Int) + 1) = ((i + 1 : Nat) : Int) := by omega
    rw [at1, at2]
    refine wpAny_bind (wpAny_mono ht (fun r s2 h2 => ?_) fun _ _ x => x)
    obtain ⟨rfl, h2⟩ := h2
    have rec_ := ne_loop l b N J hl fin k (i + 1) (by omega) (by omega) s2 h2
    obtain ⟨hp2, g2, d2, tk2, os2⟩ := s2
    wp_walk
    rw [up]
    exact ⟨plainId_quiet plain_eq_loop _, codeAny_builtin entry_eq_loop (by rw [Around.under_plainId plain_eq_loop _] <;> exact rec_)⟩
theorem list_ne (l b : Addr) (N : Nat) (J : Nat → Shared → Prop) (hl : ListI prog w A (fun e s' => R (.error e) s') l b N J) (fin : ∀ s, J N s → R (.ok (.ret (.bool false))) s) {s : Shared} (h : J 0 s) :
    wpAny (model prog w) A.in1 (Builtin.«list.__ne__» ⟨[.ref l, .ref b], []⟩) (FinOf prog w A R) (fun e s' => R (.error e) s') s := by
  obtain ⟨items, items2, n, n2, hl1, hb1, hs1, hs2, _⟩ := hl _ _ h
  have rec_ := ne_loop (A := A) (R := R) l b N J hl fin _ 0 rfl (Nat.zero_le _) s h
  obtain ⟨hp, g, d, tk, os⟩ := s
  have sub := AutoSeq1.sub_list_list
  have same : ¬ (items.size != items2.size) = true := by simp [hs1, hs2]
  wp_walk using wpAny_loadPart' hl1, wpAny_loadPart' hb1
  exact ⟨plainId_quiet plain_eq_loop _, codeAny_builtin entry_eq_loop (by rw [Around.under_plainId plain_eq_loop _] <;> exact rec_)⟩
end
section
variable {prog : Program} {w : World} {A : Around} {E : Value → Shared → Prop} {s : Shared}
theorem rc_ne {l b : Addr} {N : Nat} {Q : Value → Shared → Prop} (hu : A.units < cLine) (J : Nat → Shared → Prop) (hl : ListI prog w A E l b N J) (fin : ∀ s, J N s → Q (.bool false) s) (h : J 0 s) : wpAny (model prog w) A (richCompare .NotEq (.ref l) (.ref b)) Q E s := by
  obtain ⟨items, items2, n, n2, hl1, hb1, _, _, _⟩ := hl _ _ h
  refine wpAny_richCompare_same_room (op := .NotEq) ⟨_, hl1, rfl⟩ ⟨_, hb1, rfl⟩ PySem.F.slot_list_ne (call_here PySem.F.slot_list_ne ⟨_, hl1, rfl⟩ PySem.F.entry_list_ne (PySem.F.args_list_ne_2 _ _) ?_) hu
  exact list_ne (R := wants (fun v s' => v ≠ .notImplemented ∧ Q v s') E) l b N J hl (fun s' q => ⟨(fun x => nomatch x), fin s' q⟩) h
end
section
variable {X : Cx}
theorem eqV_self {x : V} (h : flatV x = true) : eqV x x = true := by
  cases x <;> first | rfl | (simp [eqV]; done) | cases h
/-- a thing beside itself -/
def DSame : Eqv := fun x y _ => x = y ∧ (flatV x = true ∨ ∃ a, x = .ref a)
theorem same_eq : EqG X 0 DSame := by
  intro A pins s σ H x y u v sb I ru rv d
  obtain ⟨rfl, k⟩ := d
  rcases k with k | ⟨a, rfl⟩
  · exact eqG_flat A pins s σ H x x u v sb I ru rv ⟨k, k, eqV_self k⟩
  · cases ru
    cases rv
    exact SeqAt.EqAt.same (A := A) (s := s) (.ref a) X.prog X.w X.xe _ ⟨rfl, H, I, Ext.rfl'⟩
/-- links != kept -/
def rNeSame : R2 := fun x y H Q => ∃ a b xs, x = .ref a ∧ y = .ref b ∧ H a = some (.lst xs) ∧ H b = some (.lst xs) ∧ (∀ v ∈ xs, flatV v = true ∨ ∃ a, v = .ref a) ∧ ∀ H', Ext H H' → Q (.bl false) H'
theorem op_neSame (hr : Room 1 X.A) : OpR X (compareOp .NotEq) rNeSame := by
  intro pins s σ H x y v u Q I rx ry h
  obtain ⟨a, b, xs, rfl, rfl, ha, hb, ok, q⟩ := h
  cases rx
  cases ry
  have sb : Sub X 1 X.A := ⟨hr, rfl⟩
  show wpAny (model X.prog X.w) X.A (richCompare .NotEq (.ref a) (.ref b)) (EP X pins σ Q) X.xe s
  refine rc_ne (N := xs.length) sb.room.units0 (fun _ s' => LoopI X pins σ H s') (fun i s' z => ?_) (fun s' z => ?_) ⟨H, I, Ext.rfl'⟩
  · obtain ⟨H1, I1, e1⟩ := id z
    obtain ⟨_, its, k, r, e⟩ := I1.hok a _ (e1 _ _ ha)
    obtain ⟨_, its2, k2, r2, e2⟩ := I1.hok b _ (e1 _ _ hb)
    have p : Prs DSame xs xs H := ⟨rfl, fun i x y h1 h2 => by
      rw [h1] at h2
      obtain rfl := Option.some.inj h2
      exact ⟨rfl, ok x (List.mem_of_getElem? h1)⟩⟩
    refine ⟨its.toArray, its2.toArray, k, k2, e, e2, by rw [List.size_toArray, ← r.length], by rw [List.size_toArray, ← r2.length], fun h1 h2 => ?_⟩
    exact turnG (fun _ _ _ _ _ d => d) same_eq sb p r r2 i h1 h2 s' z
  · obtain ⟨H1, I1, e1⟩ := z
    exact ⟨.bl false, H1, I1, rfl, q H1 e1⟩
end
end Yp
/-! The law's catching. -/
namespace Kx
open PySem PySem.Spec PyProof.Rows L2 Xa Xb Xc Xd Xs Xp Xm Xr Xl Xt Yl Ym Yn Yo Yp
abbrev sCaught : Stmt := top 22
structure ErrF (K : PySem.W.Frag) (mg : Str → Option Value) (CW CN CL CI : Addr) : Prop where
  w : mg "WatchError" = some (.ref CW)
  n : mg "InvalidNumber" = some (.ref CN)
  l : mg "InvalidList" = some (.ref CL)
  i : mg "InvalidItem" = some (.ref CI)
  kN : PySem.W.kitOne K (.ref CN) (.ref CN) = some true ∧ PySem.W.kitOne K (.ref CN) (.ref CL) = some false ∧ PySem.W.kitOne K (.ref CN) (.ref CI) = some false
  kL : PySem.W.kitOne K (.ref CL) (.ref CN) = some false ∧ PySem.W.kitOne K (.ref CL) (.ref CL) = some true ∧ PySem.W.kitOne K (.ref CL) (.ref CI) = some false
  kI : PySem.W.kitOne K (.ref CI) (.ref CN) = some false ∧ PySem.W.kitOne K (.ref CI) (.ref CL) = some false ∧ PySem.W.kitOne K (.ref CI) (.ref CI) = some true
  xN : PySem.W.exmOne K (.ref CN) (.ref CW) = some true
  xL : PySem.W.exmOne K (.ref CL) (.ref CW) = some true
  xI : PySem.W.exmOne K (.ref CI) (.ref CW) = some true
  cN : XCls K CN "value"
  cL : XCls K CL "value"
  cI : XCls K CI "value"
/-- an error with the value v is told -/
def Ans (K : PySem.W.Frag) (H : Hp) (v : V) (j : Nat) (Q : VK) : Prop := ∀ H1, Same H H1 → ∃ t H2, Res K H1 v t H2 ∧ ∀ r H', Same H2 H' → H1 r = none → H' r = some (.lst [.int j, .str t]) → Q (.ref r) H'
theorem Ans.up {K : PySem.W.Frag} {H H' : Hp} {v : V} {j : Nat} {Q : VK} (a : Ans K H v j Q) (s : Same H H') : Ans K H' v j Q := fun H1 s1 => a H1 (s.trans s1)
/-- the list that was kept, if it is one -/
inductive Kept (K : PySem.W.Frag) (H : Hp) : V → V → Prop
  | no {hv : V} : Kept K H hv .non
  | is {h k : Addr} {xs : List V} (e : H h = some (.lst xs)) (e2 : H k = some (.lst xs)) (ok : ∀ v ∈ xs, flatV v = true ∨ ∃ a, v = .ref a) : Kept K H (.ref h) (.ref k)
theorem Kept.same {K : PySem.W.Frag} {H H' : Hp} (s : Same H H') {hv kp : V} : Kept K H hv kp → Kept K H' hv kp
  | .no => .no
  | .is e e2 ok => .is (s _ _ e) (s _ _ e2) ok
section
variable {P : Program} {w : World} {K : PySem.W.Frag} {mg : Str → Option Value} {base : Heap} {f C CW CN CL CI fI : Addr} {fd fdI : FuncData}
def spCaught (K : PySem.W.Frag) : Sp := fun xs H Q _ => ∃ (v hv : V) (o : Option Int) (bk : Bool), xs = [v, hv] ∧ Num K H v o ∧ IsK K H hv "list" bk ∧ (bk = true → ∃ h xs, hv = .ref h ∧ H h = some (.lst xs) ∧ ∀ v ∈ xs, flatV v = true ∨ ∃ a, v = .ref a) ∧ (inR o 1 2 = false → Ans K H v 0 Q) ∧ (inR o 1 2 = true → ∃ (pl : Int), v = .int pl ∧ (pl = 1 ∨ pl = 2) ∧
  (bk = false → Ans K H hv 1 Q) ∧ (bk = true → ∃ (h : Addr) (ps : List (Addr × List Int)) (rest : List V), hv = .ref h ∧ H h = some (.lst ((ps.map fun q => V.ref q.1) ++ rest)) ∧ TupsAt H ps ∧ Lnks pl (ps.map (·.2)) ∧
    (∀ v vs, rest = v :: vs → (Item K H pl v false ∨ ∃ (p : Addr) (l : List Int), v = .ref p ∧ H p = some (.tup (l.map V.int)) ∧ l ∈ ps.map (·.2)) ∧ Ans K H v 2 Q) ∧
    (rest = [] → ∀ H', Same H H' → Q .non H')))
theorem scCaught : FnScope ["places", "links", "caught", "kept_here", "error", "classes"] ["places", "links"] (defScope sCaught) := ⟨rfl, rfl, rfl, by decide +kernel, rfl, by decide +kernel, by decide +kernel⟩
theorem can_caught (D : Dfn K mg "_law_caught" sCaught) (B : Bi2 mg) (EF : ErrF K mg CW CN CL CI) (M : Mk K C fI) (FI : FnOk P w K mg base (L2.CX P w) 5 fI fdI ["self", "places", "hears"] (spWInit K C CN CL CI)) (gW : mg "Web" = some (.ref C)) (bI : Binds K fdI ["self", "places", "hears"] []) :
    CanG P w K mg base 7 "_law_caught" ["places", "links"] (spCaught K) := by
  obtain ⟨f, fd, F, g⟩ := D.at_
  refine FnG.can (okG F scCaught (fun xs H Q E h => ?_) (fun cdv A outer s H vs Q E hr hn h => ?_)) F g fun _ _ _ _ _ _ us hl => match us, hl with | [_, _], _ => rfl
  · obtain ⟨v, hv, o, bk, rfl, _⟩ := h
    rfl
  · obtain ⟨v, hv, o, bk, rfl, N, ik, lk, no1, yes1⟩ := h
    have tail : ∃ t : TS, PSs (cxOf CX0 P w K mg base ["places", "links", "caught", "kept_here", "error", "classes"] "_law_caught" (defScope sCaught) f cdv A outer s H E).nox ((defBody sCaught).drop 3) t ∧
        (∀ H' (kp : V) (e c : Option V), Kept K H' hv kp → (∀ H'', Same H' H'' → Q .non H'') → t { nx := fun _ H' => Q .non H', rt := Q } [some v, some hv, some .non, some kp, e, c] H') ∧
        (∀ (Ce dx a : Addr) (u kp : V) (b1 b2 b3 : Bool) (j : Nat) (e c : Option V) (H0 : Hp), XCls K Ce "value" → PySem.W.kitOne K (.ref Ce) (.ref CN) = some b1 → PySem.W.kitOne K (.ref Ce) (.ref CL) = some b2 → PySem.W.kitOne K (.ref Ce) (.ref CI) = some b3 →
          (([V.bl b1, .bl b2, .bl b3, .bl true] : List V)[j]? = some (.bl true)) → (∀ (m : Nat) (z : V), m < j → ([V.bl b1, .bl b2, .bl b3, .bl true] : List V)[m]? = some z → eqV z (.bl true) = false) → Kept K H0 hv kp →
          Ans K H0 u j Q → H0 dx = none → (upd H0 dx (.xd [("value", u)])) a = none →
          t { nx := fun _ H' => Q .non H', rt := Q } [some v, some hv, some (.ref a), some kp, e, c] (upd (upd H0 dx (.xd [("value", u)])) a (xob a Ce dx))) := by
      refine ⟨_, PSs.nox (pss_cons (ps_if (PW.pt (pw_and (pt_cmpR op_notN (pv 3) pe_non (nomark _)) (pw_and1 (pt_cmpR (op_neSame (hr.mono (by decide))) (pv 1) (pv 3) (nomark _))))) (pss_one (ps_ret pe_str)) pss_nil)
        (pss_cons (ps_if (pt_cmpR op_isN (pv 2) pe_non (nomark _)) (pss_one (ps_ret pe_non)) pss_nil)
        (pss_cons (ps_set (i := 5) scCaught.nd rfl (.inl rfl) (pe_lst (pa_cons (pe_bi call_isx B.isi (pa_cons (pv 2) (pa1 (pe_glob (v := .ref CN) (by rfl) EF.n rfl)))) (pa_cons (pe_bi call_isx B.isi (pa_cons (pv 2) (pa1 (pe_glob (v := .ref CL) (by rfl) EF.l rfl)))) (pa1 (pe_bi call_isx B.isi (pa_cons (pv 2) (pa1 (pe_glob (v := .ref CI) (by rfl) EF.i rfl)))))))))
        (pss_cons (ps_if (pt_val (pe_bi call_kd B.isi (pa_cons (pe_xv (pv 2)) (pa1 (pe_tyv "list" B.list))))) (pss_one (ps_expr (pe_bm PySem.F.plainAttrs_list PySem.F.slot_list_append PySem.F.type_list_append mt_append (pe_xv (pv 2)) (pa1 pe_str)))) pss_nil)
        (pss_one (ps_ret (pe_lst (pa_cons (pe_bm PySem.F.plainAttrs_list PySem.F.slot_list_index PySem.F.type_list_index mt_index (pe_op op_cat (pv 5) (pe_lst (pa1 pe_bl))) (pa1 pe_bl)) (pa1 (pe_bi (call_repr hn hr.units) B.repr (pa1 (pe_xv (pv 2)))))))))))))
        , fun H' kp e c kk q => ?_, fun Ce dx a u kp b1 b2 b3 j e c H0 X k1 k2 k3 hj hno kk an nd na => ?_⟩
      · cases kk with
        | no => exact ⟨_, rfl, rfl, _, rfl, iteF ⟨_, rfl, rfl, _, rfl, iteT (q _ (Same.refl _))⟩⟩
        | is e1 e2 ok => exact ⟨_, rfl, rfl, _, rfl, iteT ⟨_, rfl, _, rfl, _, _, _, rfl, rfl, e1, e2, ok, fun H'' x => ⟨_, rfl, iteF ⟨_, rfl, rfl, _, rfl, iteT (q _ x)⟩⟩⟩⟩
      · have dxa : dx ≠ a := fun z => by
          rw [← z, upd_same] at na
          cases na
        have sm : Same H0 (upd (upd H0 dx (.xd [("value", u)])) a (xob a Ce dx)) := fun c o e => by
          have y : (upd H0 dx (.xd [("value", u)])) c = some o := by
            rw [upd_ne (ne_of_none e nd)]
            exact e
          rw [upd_ne (ne_of_none y na)]
          exact y
        have h3a : (upd (upd H0 dx (.xd [("value", u)])) a (xob a Ce dx)) a = some (xob a Ce dx) := upd_same
        have h3d : (upd (upd H0 dx (.xd [("value", u)])) a (xob a Ce dx)) dx = some (.xd [("value", u)]) := by
          rw [upd_ne dxa]
          exact upd_same
        generalize upd (upd H0 dx (.xd [("value", u)])) a (xob a Ce dx) = G0 at sm h3a h3d ⊢
        have kk2 := kk.same sm
        obtain ⟨t, H2, res, fin⟩ := an G0 sm
        cases kk2
        case no =>
          refine ⟨_, rfl, rfl, _, rfl, iteF ?_⟩
          obtain ⟨G1, eG⟩ : ∃ G1, G1 = G0 := ⟨_, rfl⟩
          have s1 : Same G0 G1 := by rw [eG]; exact Same.refl _
          rw [← eG]
          have s1 : Same G0 G1 := s1
          have h4a := s1 _ _ h3a
          have h4d := s1 _ _ h3d
          refine ⟨_, rfl, rfl, _, rfl, iteF ?_⟩
          refine ⟨_, rfl, a, Ce, dx, _, _, _, b1, rfl, h4a, h4d, X.isx, .own CN, k1, _, rfl, a, Ce, dx, _, _, _, b2, rfl, h4a, h4d, X.isx, .own CL, k2, _, rfl, a, Ce, dx, _, _, _, b3, rfl, h4a, h4d, X.isx, .own CI, k3, (by show 3 ≤ sizeLine; decide), fun cl ncl => ?_⟩
          have hcl : (upd G1 cl (.lst [.bl b1, .bl b2, .bl b3])) cl = some (.lst [.bl b1, .bl b2, .bl b3]) := upd_same
          have s2 : Same G0 (upd G1 cl (.lst [.bl b1, .bl b2, .bl b3])) := s1.trans (upd_same_as ncl)
          have nc0 : G0 cl = none := s1.free ncl
          generalize upd G1 cl (.lst [.bl b1, .bl b2, .bl b3]) = G2 at hcl s2 ⊢
          have h5a := s2 _ _ h3a
          have h5d := s2 _ _ h3d
          cases res with
          | other k r =>
            refine ⟨_, rfl, a, Ce, dx, _, u, rfl, h5a, h5d, X, rfl, u, "list", false, rfl, isk_same s2 k, false, rfl, iteF ?_⟩
            have rp := rep_same s2 r
            have s3 := s2
            have hc3 := hcl
            have ha3 := h5a
            have hd3 := h5d
            have fr : ∀ r, G2 r = none → G0 r = none := fun r n => s2.free n
            obtain ⟨d, ls, hq, q1, q2, q3, q4, q5, rfl⟩ := rp
            refine ⟨_, rfl, (by show 1 ≤ sizeLine; decide), fun p1 n1 => ⟨cl, p1, _, _, rfl, rfl, upd_same_as n1 _ _ hc3, upd_same, (by show 4 ≤ sizeLine; decide), fun p2 n2 => ?_⟩⟩
            have t1 := upd_same_as (o := .lst [V.bl true]) n1
            have t2 := upd_same_as (o := .lst ([V.bl b1, .bl b2, .bl b3] ++ [.bl true])) n2
            have t12 := t1.trans t2
            refine ⟨.inl ⟨rfl, _, SqL.of upd_same⟩, p2, _, .bl true, j, .bl true, rfl, rfl, SqL.of upd_same, rfl, rfl, hj, rfl, hno, ?_⟩
            refine ⟨_, rfl, a, Ce, dx, _, u, rfl, t12 _ _ ha3, t12 _ _ hd3, X, rfl, u, d, ls, rfl, dq_same t12 hq, q1, q2, q3, q4, (by show 2 ≤ sizeLine; decide), fun r nr => ?_⟩
            exact fin r _ (s3.trans (t12.trans (upd_same_as nr))) (fr r (t12.free nr)) upd_same
          | @list a0 xs t e z r =>
            have g0 := s2 _ _ e
            refine ⟨_, rfl, a, Ce, dx, _, .ref a0, rfl, h5a, h5d, X, rfl, _, "list", true, rfl, isk_lst g0 _ (by decide +kernel), true, rfl, iteT ?_⟩
            have aa : a ≠ a0 := ne_of h5a g0 (by intro z; cases z)
            have da : dx ≠ a0 := ne_of h5d g0 (by intro z; cases z)
            have ca : cl ≠ a0 := fun q => by
              rw [q, e] at nc0
              cases nc0
            refine ⟨_, rfl, a, Ce, dx, _, .ref a0, rfl, h5a, h5d, X, rfl, .inl ⟨rfl, _, SqL.of g0⟩, a0, xs, _, rfl, rfl, g0, small1000 (by omega), ?_⟩
            have s3 : Same (upd G0 a0 (.lst (xs ++ [.str "more"]))) (upd G2 a0 (.lst (xs ++ [.str "more"]))) := fun c o q => by
              by_cases cq : c = a0
              · rw [cq, upd_same] at q ⊢
                exact q
              · rw [upd_ne cq] at q ⊢
                exact s2 c o q
            have ha3 : (upd G2 a0 (.lst (xs ++ [.str "more"]))) a = some (xob a Ce dx) := by
              rw [upd_ne aa]
              exact h5a
            have hd3 : (upd G2 a0 (.lst (xs ++ [.str "more"]))) dx = some (.xd [("value", V.ref a0)]) := by
              rw [upd_ne da]
              exact h5d
            have hc3 : (upd G2 a0 (.lst (xs ++ [.str "more"]))) cl = some (.lst [.bl b1, .bl b2, .bl b3]) := by
              rw [upd_ne ca]
              exact hcl
            have rp := rep_same s3 r
            have fr : ∀ r, (upd G2 a0 (.lst (xs ++ [.str "more"]))) r = none → G0 r = none := fun r n => by
              by_cases q : r = a0
              · rw [q, upd_same] at n
                cases n
              · rw [upd_ne q] at n
                exact s2.free n
            obtain ⟨d, ls, hq, q1, q2, q3, q4, q5, rfl⟩ := rp
            refine ⟨_, rfl, (by show 1 ≤ sizeLine; decide), fun p1 n1 => ⟨cl, p1, _, _, rfl, rfl, upd_same_as n1 _ _ hc3, upd_same, (by show 4 ≤ sizeLine; decide), fun p2 n2 => ?_⟩⟩
            have t1 := upd_same_as (o := .lst [V.bl true]) n1
            have t2 := upd_same_as (o := .lst ([V.bl b1, .bl b2, .bl b3] ++ [.bl true])) n2
            have t12 := t1.trans t2
            refine ⟨.inl ⟨rfl, _, SqL.of upd_same⟩, p2, _, .bl true, j, .bl true, rfl, rfl, SqL.of upd_same, rfl, rfl, hj, rfl, hno, ?_⟩
            refine ⟨_, rfl, a, Ce, dx, _, .ref a0, rfl, t12 _ _ ha3, t12 _ _ hd3, X, rfl, .ref a0, d, ls, rfl, dq_same t12 hq, q1, q2, q3, q4, (by show 2 ≤ sizeLine; decide), fun r nr => ?_⟩
            exact fin r _ (s3.trans (t12.trans (upd_same_as nr))) (fr r (t12.free nr)) upd_same
        case is e1 e2 ok =>
          refine ⟨_, rfl, rfl, _, rfl, iteT ⟨_, rfl, _, rfl, _, _, _, rfl, rfl, e1, e2, ok, fun G1 s1 => ⟨_, rfl, iteF ?_⟩⟩⟩
          have s1 : Same G0 G1 := s1
          have h4a := s1 _ _ h3a
          have h4d := s1 _ _ h3d
          refine ⟨_, rfl, rfl, _, rfl, iteF ?_⟩
          refine ⟨_, rfl, a, Ce, dx, _, _, _, b1, rfl, h4a, h4d, X.isx, .own CN, k1, _, rfl, a, Ce, dx, _, _, _, b2, rfl, h4a, h4d, X.isx, .own CL, k2, _, rfl, a, Ce, dx, _, _, _, b3, rfl, h4a, h4d, X.isx, .own CI, k3, (by show 3 ≤ sizeLine; decide), fun cl ncl => ?_⟩
          have hcl : (upd G1 cl (.lst [.bl b1, .bl b2, .bl b3])) cl = some (.lst [.bl b1, .bl b2, .bl b3]) := upd_same
          have s2 : Same G0 (upd G1 cl (.lst [.bl b1, .bl b2, .bl b3])) := s1.trans (upd_same_as ncl)
          have nc0 : G0 cl = none := s1.free ncl
          generalize upd G1 cl (.lst [.bl b1, .bl b2, .bl b3]) = G2 at hcl s2 ⊢
          have h5a := s2 _ _ h3a
          have h5d := s2 _ _ h3d
          cases res with
          | other k r =>
            refine ⟨_, rfl, a, Ce, dx, _, u, rfl, h5a, h5d, X, rfl, u, "list", false, rfl, isk_same s2 k, false, rfl, iteF ?_⟩
            have rp := rep_same s2 r
            have s3 := s2
            have hc3 := hcl
            have ha3 := h5a
            have hd3 := h5d
            have fr : ∀ r, G2 r = none → G0 r = none := fun r n => s2.free n
            obtain ⟨d, ls, hq, q1, q2, q3, q4, q5, rfl⟩ := rp
            refine ⟨_, rfl, (by show 1 ≤ sizeLine; decide), fun p1 n1 => ⟨cl, p1, _, _, rfl, rfl, upd_same_as n1 _ _ hc3, upd_same, (by show 4 ≤ sizeLine; decide), fun p2 n2 => ?_⟩⟩
            have t1 := upd_same_as (o := .lst [V.bl true]) n1
            have t2 := upd_same_as (o := .lst ([V.bl b1, .bl b2, .bl b3] ++ [.bl true])) n2
            have t12 := t1.trans t2
            refine ⟨.inl ⟨rfl, _, SqL.of upd_same⟩, p2, _, .bl true, j, .bl true, rfl, rfl, SqL.of upd_same, rfl, rfl, hj, rfl, hno, ?_⟩
            refine ⟨_, rfl, a, Ce, dx, _, u, rfl, t12 _ _ ha3, t12 _ _ hd3, X, rfl, u, d, ls, rfl, dq_same t12 hq, q1, q2, q3, q4, (by show 2 ≤ sizeLine; decide), fun r nr => ?_⟩
            exact fin r _ (s3.trans (t12.trans (upd_same_as nr))) (fr r (t12.free nr)) upd_same
          | @list a0 xs t e z r =>
            have g0 := s2 _ _ e
            refine ⟨_, rfl, a, Ce, dx, _, .ref a0, rfl, h5a, h5d, X, rfl, _, "list", true, rfl, isk_lst g0 _ (by decide +kernel), true, rfl, iteT ?_⟩
            have aa : a ≠ a0 := ne_of h5a g0 (by intro z; cases z)
            have da : dx ≠ a0 := ne_of h5d g0 (by intro z; cases z)
            have ca : cl ≠ a0 := fun q => by
              rw [q, e] at nc0
              cases nc0
            refine ⟨_, rfl, a, Ce, dx, _, .ref a0, rfl, h5a, h5d, X, rfl, .inl ⟨rfl, _, SqL.of g0⟩, a0, xs, _, rfl, rfl, g0, small1000 (by omega), ?_⟩
            have s3 : Same (upd G0 a0 (.lst (xs ++ [.str "more"]))) (upd G2 a0 (.lst (xs ++ [.str "more"]))) := fun c o q => by
              by_cases cq : c = a0
              · rw [cq, upd_same] at q ⊢
                exact q
              · rw [upd_ne cq] at q ⊢
                exact s2 c o q
            have ha3 : (upd G2 a0 (.lst (xs ++ [.str "more"]))) a = some (xob a Ce dx) := by
              rw [upd_ne aa]
              exact h5a
            have hd3 : (upd G2 a0 (.lst (xs ++ [.str "more"]))) dx = some (.xd [("value", V.ref a0)]) := by
              rw [upd_ne da]
              exact h5d
            have hc3 : (upd G2 a0 (.lst (xs ++ [.str "more"]))) cl = some (.lst [.bl b1, .bl b2, .bl b3]) := by
              rw [upd_ne ca]
              exact hcl
            have rp := rep_same s3 r
            have fr : ∀ r, (upd G2 a0 (.lst (xs ++ [.str "more"]))) r = none → G0 r = none := fun r n => by
              by_cases q : r = a0
              · rw [q, upd_same] at n
                cases n
              · rw [upd_ne q] at n
                exact s2.free n
            obtain ⟨d, ls, hq, q1, q2, q3, q4, q5, rfl⟩ := rp
            refine ⟨_, rfl, (by show 1 ≤ sizeLine; decide), fun p1 n1 => ⟨cl, p1, _, _, rfl, rfl, upd_same_as n1 _ _ hc3, upd_same, (by show 4 ≤ sizeLine; decide), fun p2 n2 => ?_⟩⟩
            have t1 := upd_same_as (o := .lst [V.bl true]) n1
            have t2 := upd_same_as (o := .lst ([V.bl b1, .bl b2, .bl b3] ++ [.bl true])) n2
            have t12 := t1.trans t2
            refine ⟨.inl ⟨rfl, _, SqL.of upd_same⟩, p2, _, .bl true, j, .bl true, rfl, rfl, SqL.of upd_same, rfl, rfl, hj, rfl, hno, ?_⟩
            refine ⟨_, rfl, a, Ce, dx, _, .ref a0, rfl, t12 _ _ ha3, t12 _ _ hd3, X, rfl, .ref a0, d, ls, rfl, dq_same t12 hq, q1, q2, q3, q4, (by show 2 ≤ sizeLine; decide), fun r nr => ?_⟩
            exact fin r _ (s3.trans (t12.trans (upd_same_as nr))) (fr r (t12.free nr)) upd_same
    obtain ⟨t, ht, tN, tE⟩ := tail
    refine ⟨_, pss_cons (ps_set (i := 2) scCaught.nd rfl (.inl rfl) pe_non) (pss_cons (ps_set (i := 3) scCaught.nd rfl (.inl rfl) (pe_ifExp (pt_val (pe_bi call_kd B.isi (pa_cons (pv 1) (pa1 (pe_tyv "list" B.list))))) (pe_ty call_list_of B.list (pa1 (pv 1))) pe_non))
      (pss_cons (ps_keep (i := 4) (j := 2) (cv := .ref CW) rfl rfl rfl scCaught.nd rfl rfl (by show 4 < 6; decide) ⟨by rfl, by decide, .inl EF.w⟩
      (fun W pn xe tk po => pss_one (ps_expr (pe_makeS (E := WE W) M FI hr rfl gW bI (passAt tk) (pa_cons (pv 0) (pa1 (pv 1))))))
      (fun a pn => pss_one (ps_asg (pv 4) (pg_name (i := 2) scCaught.nd rfl (.inl rfl))))) ht)), ?_⟩
    refine ⟨_, rfl, hv, "list", bk, rfl, ik, bk, rfl, ?_⟩
    cases bk with
    | false =>
      refine iteF ?_
      obtain ⟨H1, eH⟩ : ∃ H1, H1 = H := ⟨_, rfl⟩
      have s1 : Same H H1 := by rw [eH]; exact Same.refl _
      have kk1 : Kept K H1 hv .non := .no
      rw [← eH]
      refine ⟨_, rfl, _, rfl, fun x dx nx ndx ne => ?_⟩
      have sn : Same H1 (upd (upd H1 dx (.own x)) x (.ins C dx [])) := fun c o e => by
        rw [upd_ne (ne_of_none e nx), upd_ne (ne_of_none e ndx)]
        exact e
      have sH := s1.trans sn
      have kk := kk1.same sn
      have obj : (upd (upd H1 dx (.own x)) x (.ins C dx [])) x = some (.ins C dx []) := upd_same
      generalize upd (upd H1 dx (.own x)) x (.ins C dx []) = Hn at sn sH kk obj ⊢
      refine ⟨x, dx, v, hv, o, rfl, obj, num_same sH N, fun z d nd => ?_, fun z => ?_⟩
      · exact ⟨CN, d, rfl, rfl, EF.xN, fun a na => tE CN d a v .non true false false 0 _ _ Hn EF.cN EF.kN.1 EF.kN.2.1 EF.kN.2.2 rfl (fun m z h => absurd h (Nat.not_lt_zero m)) kk ((no1 z).up sH) nd na⟩
      · obtain ⟨pl, rfl, pp, noL, yesL⟩ := yes1 z
        refine ⟨pl, _, rfl, pp, isk_same sH ik, fun z d nd => ?_, fun z => ?_⟩
        · refine ⟨CL, d, rfl, rfl, EF.xL, fun a na => tE CL d a hv .non false true false 1 _ _ Hn EF.cL EF.kL.1 EF.kL.2.1 EF.kL.2.2 rfl (fun m z h e => ?_) kk ((noL z).up sH) nd na⟩
          match m, h, e with
          | 0, _, e => exact (Option.some.inj e) ▸ rfl
        · obtain ⟨h, ps, rest, rfl, hh, ht2, hl, bad, good⟩ := yesL z
          refine ⟨h, ps, rest, rfl, sH _ _ hh, fun q hq => sH _ _ (ht2 q hq), hl, fun v vs er => ?_, fun er rc l H2 wa _ kp2 nl => ⟨rfl, ?_⟩⟩
          · obtain ⟨why, an⟩ := bad v vs er
            refine ⟨why.elim (fun q => .inl (item_same sH q)) fun ⟨p, l, e1, e2, e3⟩ => .inr ⟨p, l, e1, sH _ _ e2, e3⟩, fun H2 s2 d nd => ?_⟩
            refine ⟨CI, d, rfl, rfl, EF.xI, fun a na => tE CI d a v .non false false true 2 _ _ H2 EF.cI EF.kI.1 EF.kI.2.1 EF.kI.2.2 rfl (fun m z h e => ?_) (kk.same s2) (an.up (sH.trans s2)) nd na⟩
            match m, h, e with
            | 0, _, e => exact (Option.some.inj e) ▸ rfl
            | 1, _, e => exact (Option.some.inj e) ▸ rfl
          · have sH2 : Same H H2 := fun c o e => kp2 c o (sH _ _ e) (ne_of_none (s1 _ _ e) nx)
            have s12 : Same H1 H2 := fun c o e => kp2 c o (sn _ _ e) (ne_of_none e nx)
            exact tN H2 .non _ _ (kk1.same s12) fun H3 s3 => good er H3 (sH2.trans s3)
    | true =>
      obtain ⟨h0, xs0, eh, hx0, okx⟩ := lk rfl
      refine iteT ⟨_, rfl, h0, xs0, by rw [eh], .inl (SqL.of hx0), fun k nk => ?_⟩
      obtain ⟨kp, ekp⟩ : ∃ kp, kp = V.ref k := ⟨_, rfl⟩
      have s1 : Same H (upd H k (.lst xs0)) := upd_same_as nk
      have kk1 : Kept K (upd H k (.lst xs0)) hv kp := by
        rw [ekp, eh]
        exact .is (s1 _ _ hx0) upd_same okx
      show tSeq _ _ _ ([some v, some hv, some .non, some (V.ref k), none, none] : L2.St) _
      rw [← ekp]
      generalize upd H k (.lst xs0) = H1 at s1 kk1 ⊢
      refine ⟨_, rfl, _, rfl, fun x dx nx ndx ne => ?_⟩
      have sn : Same H1 (upd (upd H1 dx (.own x)) x (.ins C dx [])) := fun c o e => by
        rw [upd_ne (ne_of_none e nx), upd_ne (ne_of_none e ndx)]
        exact e
      have sH := s1.trans sn
      have kk := kk1.same sn
      have obj : (upd (upd H1 dx (.own x)) x (.ins C dx [])) x = some (.ins C dx []) := upd_same
      generalize upd (upd H1 dx (.own x)) x (.ins C dx []) = Hn at sn sH kk obj ⊢
      refine ⟨x, dx, v, hv, o, rfl, obj, num_same sH N, fun z d nd => ?_, fun z => ?_⟩
      · exact ⟨CN, d, rfl, rfl, EF.xN, fun a na => tE CN d a v kp true false false 0 _ _ Hn EF.cN EF.kN.1 EF.kN.2.1 EF.kN.2.2 rfl (fun m z h => absurd h (Nat.not_lt_zero m)) kk ((no1 z).up sH) nd na⟩
      · obtain ⟨pl, rfl, pp, noL, yesL⟩ := yes1 z
        refine ⟨pl, _, rfl, pp, isk_same sH ik, fun z d nd => ?_, fun z => ?_⟩
        · refine ⟨CL, d, rfl, rfl, EF.xL, fun a na => tE CL d a hv kp false true false 1 _ _ Hn EF.cL EF.kL.1 EF.kL.2.1 EF.kL.2.2 rfl (fun m z h e => ?_) kk ((noL z).up sH) nd na⟩
          match m, h, e with
          | 0, _, e => exact (Option.some.inj e) ▸ rfl
        · obtain ⟨h, ps, rest, rfl, hh, ht2, hl, bad, good⟩ := yesL z
          refine ⟨h, ps, rest, rfl, sH _ _ hh, fun q hq => sH _ _ (ht2 q hq), hl, fun v vs er => ?_, fun er rc l H2 wa _ kp2 nl => ⟨rfl, ?_⟩⟩
          · obtain ⟨why, an⟩ := bad v vs er
            refine ⟨why.elim (fun q => .inl (item_same sH q)) fun ⟨p, l, e1, e2, e3⟩ => .inr ⟨p, l, e1, sH _ _ e2, e3⟩, fun H2 s2 d nd => ?_⟩
            refine ⟨CI, d, rfl, rfl, EF.xI, fun a na => tE CI d a v kp false false true 2 _ _ H2 EF.cI EF.kI.1 EF.kI.2.1 EF.kI.2.2 rfl (fun m z h e => ?_) (kk.same s2) (an.up (sH.trans s2)) nd na⟩
            match m, h, e with
            | 0, _, e => exact (Option.some.inj e) ▸ rfl
            | 1, _, e => exact (Option.some.inj e) ▸ rfl
          · have sH2 : Same H H2 := fun c o e => kp2 c o (sH _ _ e) (ne_of_none (s1 _ _ e) nx)
            have s12 : Same H1 H2 := fun c o e => kp2 c o (sn _ _ e) (ne_of_none e nx)
            exact tN H2 kp _ _ (kk1.same s12) fun H3 s3 => good er H3 (sH2.trans s3)
end
end Kx
/-! Own ground, part Q: lists of lists of small ints as data. -/
namespace Xq
open PySem PySem.Spec PyProof.Rows L2 Xa Xb Xc Xp Xr Xl Xk Xt
def lstD (l : List Int) : PyData := .list (l.map .int)
def llD (ls : List (List Int)) : PyData := .list (ls.map lstD)
section
theorem lsts_lay : ∀ ls : List (List Int), PyData.canLayAll0 (ls.map lstD) = true
  | [] => by simp [PyData.canLayAll0]
  | x :: l => by simp [PyData.canLayAll0, PyData.canLay0, lstD, ints_lay x, lsts_lay l]
theorem lsts_depth : ∀ ls : List (List Int), PyData.depthAll (ls.map lstD) ≤ 1
  | [] => by simp [PyData.depthAll]
  | x :: l => by
    have := lsts_depth l
    simp only [List.map_cons, PyData.depthAll, PyData.depth, lstD, ints_depth]
    omega
theorem ll_depth (ls : List (List Int)) : (llD ls).depth ≤ 2 := by
  have := lsts_depth ls
  simp only [llD, PyData.depth]
  omega
theorem lsts_nodict : ∀ ls : List (List Int), PyData.hasDictAll (ls.map lstD) = false
  | [] => by simp [PyData.hasDictAll]
  | x :: l => by simp [PyData.hasDictAll, PyData.hasDict, lstD, ints_nodict x, lsts_nodict l]
theorem ll_nodict (ls : List (List Int)) : (llD ls).hasDict = false := by simp [llD, PyData.hasDict, lsts_nodict]
theorem ll_shaped (ls : List (List Int)) : SeqAt.shaped (llD ls) = true := by
  have h1 : (llD ls).canLay0 = true := by simp [llD, PyData.canLay0, lsts_lay]
  have h2 := ll_depth ls
  have h3 : (llD ls).depth ≤ 64 := by omega
  simp [SeqAt.shaped, h1, h3]
theorem ll_eqv (ls : List (List Int)) : PyData.eqv (llD ls) (llD ls) = true := SeqAt.eqv_refl _ (by simp [llD, PyData.canLay0, lsts_lay])
/-- many short ones of bounded ints -/
def Brief (ls : List (List Int)) : Prop := ls.length ≤ 1000 ∧ ∀ l ∈ ls, l.length ≤ 3 ∧ ∀ z ∈ l, z.natAbs < 10 ^ 30
theorem lsts_showable : ∀ ls : List (List Int), (∀ l ∈ ls, ∀ z ∈ l, z.natAbs < 10 ^ 30) → PyData.showableAll (ls.map lstD) = true
  | [], _ => by simp [PyData.showableAll]
  | x :: l, h => by simp [PyData.showableAll, PyData.showable, lstD, ints_showable x (h x List.mem_cons_self), lsts_showable l fun z hz => h z (List.mem_cons_of_mem _ hz)]
theorem lsts_short : ∀ ls : List (List Int), (∀ l ∈ ls, ∀ z ∈ l, z.natAbs < 10 ^ 30) → PyData.leavesShortAll 32 (ls.map lstD) = true
  | [], _ => by simp [PyData.leavesShortAll]
  | x :: l, h => by simp [PyData.leavesShortAll, PyData.leavesShort, lstD, ints_short x (h x List.mem_cons_self), lsts_short l fun z hz => h z (List.mem_cons_of_mem _ hz)]
theorem lsts_weight : ∀ ls : List (List Int), (∀ l ∈ ls, l.length ≤ 3 ∧ ∀ z ∈ l, z.natAbs < 10 ^ 30) → PyData.weightAll (ls.map lstD) ≤ 304 * ls.length
  | [], _ => by simp [PyData.weightAll]
  | x :: l, h => by
    obtain ⟨h1, h4⟩ := h x List.mem_cons_self
    have h2 := lsts_weight l fun z hz => h z (List.mem_cons_of_mem _ hz)
    have h3 := ints_weight x h4
    simp only [List.map_cons, PyData.weightAll, List.length_cons, lstD, PyData.weight]
    omega
theorem ll_len {ls : List (List Int)} (h : Brief ls) : (llD ls).shown.length ≤ sizeLine := by
  obtain ⟨h1, h2⟩ := h
  have h3 := lsts_short ls fun l hl => (h2 l hl).2
  have h4 := lsts_weight ls h2
  have h5 := PyData.shown_le 32 (by decide) (llD ls) (by simpa [llD, PyData.leavesShort] using h3)
  have h6 : (llD ls).weight ≤ 304 * 1001 := by
    simp only [llD, PyData.weight]
    omega
  have h7 : (32 + 2) * (llD ls).weight ≤ 34 * (304 * 1001) := Nat.mul_le_mul (Nat.le_refl _) h6
  rw [sizeLine_eq]
  omega
end
section
variable {K : PySem.W.Frag} {H : Hp}
/-- at u stands a list of lists of ints -/
def LL (H : Hp) (u : Addr) (ks : List (Addr × List Int)) : Prop := H u = some (.lst (ks.map fun q => V.ref q.1)) ∧ ∀ q ∈ ks, H q.1 = some (.lst (q.2.map V.int))
theorem LL.same {H H' : Hp} (e : Same H H') {u : Addr} {ks : List (Addr × List Int)} (h : LL H u ks) : LL H' u ks := ⟨e _ _ h.1, fun q hq => e _ _ (h.2 q hq)⟩
theorem dqs_lsts : ∀ ks : List (Addr × List Int), (∀ q ∈ ks, H q.1 = some (.lst (q.2.map V.int))) → Dqs K H (ks.map fun q => V.ref q.1) ((ks.map (·.2)).map lstD) (ks.map (·.1))
  | [], _ => .nil
  | q :: ks, h => .cons (l1 := [q.1]) (.lst (ls := []) (SqL.of (h q List.mem_cons_self)) (dqs_ints q.2)) (dqs_lsts ks fun z hz => h z (List.mem_cons_of_mem _ hz))
theorem ll_in {u : Addr} {ks : List (Addr × List Int)} (h : LL H u ks) (s : Brief (ks.map (·.2))) :
    Dq K H (.ref u) (llD (ks.map (·.2))) (u :: ks.map (·.1)) ∧ ((llD (ks.map (·.2))).hasDict = true → sysModules ∉ (u :: ks.map (·.1))) ∧ (llD (ks.map (·.2))).showable = true ∧ (llD (ks.map (·.2))).depth ≤ 60 ∧ (llD (ks.map (·.2))).shown.length ≤ sizeLine := by
  refine ⟨.lst (SqL.of h.1) (dqs_lsts ks h.2), fun z => ?_, ?_, ?_, ll_len s⟩
  · rw [ll_nodict] at z
    cases z
  · simp only [llD, PyData.showable]
    exact lsts_showable _ fun l hl => (s.2 l hl).2
  · have := ll_depth (ks.map (·.2))
    omega
/-- the reading of repr of such a list -/
theorem rr_ll {u : Addr} {ks : List (Addr × List Int)} {Q : VK} (h : LL H u ks) (s : Brief (ks.map (·.2))) (q : Q (.str (llD (ks.map (·.2))).shown) H) : rRepr K [V.ref u] H Q := by
  obtain ⟨a, b, c, d, e⟩ := ll_in (K := K) h s
  exact ⟨.ref u, _, _, rfl, a, b, c, d, e, q⟩
theorem dp_lsts : ∀ ks : List (Addr × List Int), (∀ q ∈ ks, H q.1 = some (.lst (q.2.map V.int))) → DpAll K H (ks.map fun q => V.ref q.1) ((ks.map (·.2)).map lstD)
  | [], _ => .nil
  | q :: ks, h => .cons (.lst (SqL.of (h q List.mem_cons_self)) (dp_ints q.2)) (dp_lsts ks fun z hz => h z (List.mem_cons_of_mem _ hz))
theorem dp_ll {u : Addr} {ks : List (Addr × List Int)} (h : LL H u ks) : Dp K H (.ref u) (llD (ks.map (·.2))) := .lst (SqL.of h.1) (dp_lsts ks h.2)
end
end Xq
/-! Own ground, part U: written data, laid anew, that may hold lists that stood before. -/
namespace Xu
open PySem PySem.Spec PyProof.Rows L2 Xa Xb Xc Xp Xr Xl Xk Xt Xq
mutual
inductive Lu (O : Addr → Prop) (H : Hp) : V → PyData → List Addr → Prop
  | non : Lu O H .non .none []
  | bl (b : Bool) : Lu O H (.bl b) (.bool b) []
  | int (i : Int) : Lu O H (.int i) (.int i) []
  | str (z : Str) : Lu O H (.str z) (.str z) []
  | lst {a : Addr} {xs : List V} {ds : List PyData} {ls : List Addr} : H a = some (.lst xs) → Lus O H xs ds ls → Lu O H (.ref a) (.list ds) (a :: ls)
  | tup {a : Addr} {xs : List V} {ds : List PyData} {ls : List Addr} : H a = some (.tup xs) → Lus O H xs ds ls → Lu O H (.ref a) (.tuple ds) ls
  | dic {a : Addr} : H a = some (.dK []) → Lu O H (.ref a) (.dict []) []
  | old {a : Addr} {l : List Int} : O a → H a = some (.lst (l.map V.int)) → Lu O H (.ref a) (lstD l) []
inductive Lus (O : Addr → Prop) (H : Hp) : List V → List PyData → List Addr → Prop
  | nil : Lus O H [] [] []
  | cons {v : V} {vs : List V} {d : PyData} {ds : List PyData} {l1 l2 : List Addr} : Lu O H v d l1 → Lus O H vs ds l2 → Lus O H (v :: vs) (d :: ds) (l1 ++ l2)
end
section
variable {O : Addr → Prop} {H H' : Hp} {K : PySem.W.Frag}
mutual
/-- read as data; the lists named are some list -/
theorem lu_dq : ∀ {v : V} {d : PyData} {ls : List Addr}, Lu O H v d ls → ∃ ls', Dq K H v d ls'
  | _, _, _, .non => ⟨_, .non⟩
  | _, _, _, .bl b => ⟨_, .bl b⟩
  | _, _, _, .int i => ⟨_, .int i⟩
  | _, _, _, .str z => ⟨_, .str z⟩
  | _, _, _, .lst h t => let ⟨_, q⟩ := lus_dq t; ⟨_, .lst (SqL.of h) q⟩
  | _, _, _, .tup h t => let ⟨_, q⟩ := lus_dq t; ⟨_, .tup (SqT.of h) q⟩
  | _, _, _, .dic h => ⟨_, .dic (kvs := []) (ds := []) h .nil .nil⟩
  | _, _, _, .old _ h => ⟨_, .lst (SqL.of h) (dqs_ints _)⟩
theorem lus_dq : ∀ {v : List V} {d : List PyData} {ls : List Addr}, Lus O H v d ls → ∃ ls', Dqs K H v d ls'
  | _, _, _, .nil => ⟨_, .nil⟩
  | _, _, _, .cons h t => let ⟨_, q⟩ := lu_dq h; let ⟨_, r⟩ := lus_dq t; ⟨_, .cons q r⟩
end
mutual
theorem lu_but {a : Addr} (e : ∀ c o, H c = some o → c ≠ a → H' c = some o) (ha : ∃ xs, H a = some (.lst xs)) (hO : ¬ O a) : ∀ {v : V} {d : PyData} {ls : List Addr}, Lu O H v d ls → a ∉ ls → Lu O H' v d ls
  | _, _, _, .non, _ => .non
  | _, _, _, .bl b, _ => .bl b
  | _, _, _, .int i, _ => .int i
  | _, _, _, .str z, _ => .str z
  | _, _, _, .lst h t, n => .lst (e _ _ h fun z => n (by rw [z] <;> exact List.mem_cons_self)) (lus_but e ha hO t fun z => n (List.mem_cons_of_mem _ z))
  | _, _, _, .tup h t, n => .tup (e _ _ h fun z => by obtain ⟨xs, q⟩ := ha; rw [z, q] at h; cases h) (lus_but e ha hO t n)
  | _, _, _, .dic h, _ => .dic (e _ _ h fun z => by obtain ⟨xs, q⟩ := ha; rw [z, q] at h; cases h)
  | _, _, _, .old o h, _ => .old o (e _ _ h fun z => hO (by rw [← z] <;> exact o))
theorem lus_but {a : Addr} (e : ∀ c o, H c = some o → c ≠ a → H' c = some o) (ha : ∃ xs, H a = some (.lst xs)) (hO : ¬ O a) : ∀ {v : List V} {d : List PyData} {ls : List Addr}, Lus O H v d ls → a ∉ ls → Lus O H' v d ls
  | _, _, _, .nil, _ => .nil
  | _, _, _, .cons h t, n => .cons (lu_but e ha hO h fun z => n (List.mem_append_left _ z)) (lus_but e ha hO t fun z => n (List.mem_append_right _ z))
end
mutual
theorem lu_same (e : Same H H') : ∀ {v : V} {d : PyData} {ls : List Addr}, Lu O H v d ls → Lu O H' v d ls
  | _, _, _, .non => .non
  | _, _, _, .bl b => .bl b
  | _, _, _, .int i => .int i
  | _, _, _, .str z => .str z
  | _, _, _, .lst h t => .lst (e _ _ h) (lus_same e t)
  | _, _, _, .tup h t => .tup (e _ _ h) (lus_same e t)
  | _, _, _, .dic h => .dic (e _ _ h)
  | _, _, _, .old o h => .old o (e _ _ h)
theorem lus_same (e : Same H H') : ∀ {v : List V} {d : List PyData} {ls : List Addr}, Lus O H v d ls → Lus O H' v d ls
  | _, _, _, .nil => .nil
  | _, _, _, .cons h t => .cons (lu_same e h) (lus_same e t)
end
mutual
theorem lu_at : ∀ {v : V} {d : PyData} {ls : List Addr}, Lu O H v d ls → ∀ a ∈ ls, ∃ xs, H a = some (.lst xs)
  | _, _, _, .non, _, z => nomatch z
  | _, _, _, .bl b, _, z => nomatch z
  | _, _, _, .int i, _, z => nomatch z
  | _, _, _, .str s, _, z => nomatch z
  | _, _, _, .lst h t, b, z => (List.mem_cons.mp z).elim (fun q => ⟨_, (congrArg H q).trans h⟩) fun q => lus_at t b q
  | _, _, _, .tup h t, b, z => lus_at t b z
  | _, _, _, .dic h, _, z => nomatch z
  | _, _, _, .old o h, _, z => nomatch z
theorem lus_at : ∀ {v : List V} {d : List PyData} {ls : List Addr}, Lus O H v d ls → ∀ a ∈ ls, ∃ xs, H a = some (.lst xs)
  | _, _, _, .nil, _, z => nomatch z
  | _, _, _, .cons h t, b, z => (List.mem_append.mp z).elim (lu_at h b) (lus_at t b)
end
theorem lus_app : ∀ {vs vs' : List V} {ds ds' : List PyData} {ls ls' : List Addr}, Lus O H vs ds ls → Lus O H vs' ds' ls' → Lus O H (vs ++ vs') (ds ++ ds') (ls ++ ls')
  | _, _, _, _, _, _, .nil, t => t
  | _, _, _, _, _, _, .cons (l1 := l1) (l2 := l2) h t, t' => by
    rw [List.append_assoc]
    exact .cons h (lus_app t t')
theorem lus_len : ∀ {vs : List V} {ds : List PyData} {ls : List Addr}, Lus O H vs ds ls → vs.length = ds.length
  | _, _, _, .nil => rfl
  | _, _, _, .cons _ t => congrArg Nat.succ (lus_len t)
theorem lu_num {v : V} {d : PyData} {ls : List Addr} (h : Lu O H v d ls) : Num K H v (numD d) := by
  cases h with
  | non => exact .no whl_non
  | bl b => exact .no (whl_bl b)
  | int i => exact .is i
  | str z => exact .no (whl_str z)
  | lst h t => exact .no (whl_lst h)
  | tup h t => exact .no (whl_tup h)
  | dic h => exact .no (whl_dic h)
  | old o h => exact .no (whl_lst h)
theorem lu_isk {v : V} {d : PyData} {ls : List Addr} {T : String} {b : Bool} (h : Lu O H v d ls) (e : kitB (kindD d) T = some b) : IsK K H v T b := by
  cases h with
  | non => exact isk_non _ e
  | bl b => exact isk_bl b _ e
  | int i => exact isk_int i _ e
  | str z => exact isk_str z _ e
  | lst h t => exact isk_lst h _ e
  | tup h t => exact isk_tup h _ e
  | dic h => exact isk_dic h _ e
  | old o h => exact isk_lst h _ e
end
/-! ### displays -/
/-- v is no object that stood before -/
def Frs (H : Hp) (v : V) : Prop := ∀ a, v = .ref a → H a = none
theorem frs_ref {H : Hp} {p : Addr} (n : H p = none) : Frs H (.ref p) := fun a e => by
  injection e with e
  rw [← e]
  exact n
def tLu (S : L2.St → Hp → Prop) (O : Addr → Prop) (d : PyData) : TE := fun σ H Q => S σ H ∧ ∀ v H' ls, Same H H' → Lu O H' v d ls → ls.Nodup → (∀ a ∈ ls, H a = none) → Frs H v → Q v H'
def tLus (S : L2.St → Hp → Prop) (O : Addr → Prop) (ds : List PyData) : TA := fun σ H Q => S σ H ∧ ∀ vs H' ls, Same H H' → Lus O H' vs ds ls → ls.Nodup → (∀ a ∈ ls, H a = none) → (∀ v ∈ vs, Frs H v) → Q vs H'
/-- a list laid anew, and its elements -/
def tTop (S : L2.St → Hp → Prop) (O : Addr → Prop) (ds : List PyData) : TE := fun σ H Q => S σ H ∧ ∀ p vs H' ls, Same H H' → H' p = some (.lst vs) → Lus O H' vs ds ls → (p :: ls).Nodup → (∀ a ∈ p :: ls, H a = none) → (∀ v ∈ vs, Frs H v) → Q (.ref p) H'
/-- kept when more is laid -/
def Stays (S : L2.St → Hp → Prop) : Prop := ∀ σ H H', S σ H → Same H H' → S σ H'
section
variable {X : Cx} {S : L2.St → Hp → Prop} {O : Addr → Prop} {d : PyData} {ds : List PyData} {e : Expr} {es : List Expr} {pos : Pos}
theorem lu_non {j : Nat} : PE X (.Constant .none j pos) (tLu S O .none) := pe_of (fun σ H Q h => h.2 .non H [] (Same.refl H) .non List.nodup_nil (fun _ z => nomatch z) fun _ z => nomatch z) pe_non
theorem lu_bl {b : Bool} {j : Nat} : PE X (.Constant (.bool b) j pos) (tLu S O (.bool b)) := pe_of (fun σ H Q h => h.2 (.bl b) H [] (Same.refl H) (.bl b) List.nodup_nil (fun _ z => nomatch z) fun _ z => nomatch z) pe_bl
theorem lu_str {x : Str} {j : Nat} : PE X (.Constant (.str x) j pos) (tLu S O (.str x)) := pe_of (fun σ H Q h => h.2 (.str x) H [] (Same.refl H) (.str x) List.nodup_nil (fun _ z => nomatch z) fun _ z => nomatch z) pe_str
theorem lu_int {i : Int} {j : Nat} : PE X (.Constant (.int i) j pos) (tLu S O (.int i)) := pe_of (fun σ H Q h => h.2 (.int i) H [] (Same.refl H) (.int i) List.nodup_nil (fun _ z => nomatch z) fun _ z => nomatch z) pe_int
theorem lu_neg {i : Int} {j : Nat} {pos2 : Pos} : PE X (.UnaryOp .USub (.Constant (.int i) j pos) pos2) (tLu S O (.int (-i))) := pe_of (fun σ H Q h => ⟨i, rfl, h.2 (.int (-i)) H [] (Same.refl H) (.int (-i)) List.nodup_nil (fun _ z => nomatch z) fun _ z => nomatch z⟩) (pe_un un_neg pe_int)
theorem lu_dic : PE X (.Dict [] [] pos) (tLu S O (.dict [])) := pe_of (fun σ H Q h p np => h.2 (.ref p) _ [] (upd_same_as np) (.dic upd_same) List.nodup_nil (fun _ z => nomatch z) (frs_ref np)) pe_dnewK
theorem lus_nil : PA X [] (tLus S O []) := pa_of (fun σ H Q h => h.2 [] H [] (Same.refl H) .nil List.nodup_nil (fun _ z => nomatch z) fun _ z => nomatch z) pa_nil
theorem lus_cons (st : Stays S) (h : PE X e (tLu S O d)) (t : PA X es (tLus S O ds)) (hs : starEach (e :: es) X.env = (false, eval e X.env) :: starEach es X.env := by rfl) : PA X (e :: es) (tLus S O (d :: ds)) := by
  refine pa_of (fun σ H Q q => ?_) (pa_cons h t hs)
  refine ⟨q.1, fun v H1 l1 s1 t1 n1 f1 o1 => ⟨st _ _ _ q.1 s1, fun vs H2 l2 s2 t2 n2 f2 o2 => q.2 (v :: vs) H2 (l1 ++ l2) (s1.trans s2) (.cons (lu_same s2 t1) t2) ?_ (fun a z => ?_) fun u hu => ?_⟩⟩
  · refine List.nodup_append.mpr ⟨n1, n2, fun a z b z2 e => ?_⟩
    obtain ⟨xs, y⟩ := lu_at t1 a z
    rw [e, f2 b z2] at y
    cases y
  · rcases List.mem_append.mp z with z | z
    · exact f1 a z
    · exact s1.free (f2 a z)
  · rcases List.mem_cons.mp hu with rfl | hu
    · exact o1
    · exact fun a e => s1.free (o2 u hu a e)
theorem lu_tup {x : Nat} (h : PA X es (tLus S O ds)) (z : ds.length ≤ 1000) : PE X (.Tuple es x pos) (tLu S O (.tuple ds)) := by
  refine pe_of (fun σ H Q q => ?_) (pe_tup h)
  refine ⟨q.1, fun vs H1 ls s1 t1 n1 f1 o1 => ⟨?_, fun p np => q.2 (.ref p) _ ls (s1.trans (upd_same_as np)) (.tup upd_same (lus_same (upd_same_as np) t1)) n1 f1 (frs_ref (s1.free np))⟩⟩
  rw [lus_len t1, sizeLine_eq]
  omega
theorem new_nodup {H1 : Hp} {vs : List V} {ls : List Addr} {p : Addr} (t1 : Lus O H1 vs ds ls) (np : H1 p = none) (n1 : ls.Nodup) : (p :: ls).Nodup := by
  refine List.nodup_cons.mpr ⟨fun z => ?_, n1⟩
  obtain ⟨xs, y⟩ := lus_at t1 p z
  rw [np] at y
  cases y
theorem lu_top (h : PA X es (tLus S O ds)) (z : ds.length ≤ 1000) : PE X (.List es pos) (tTop S O ds) := by
  refine pe_of (fun σ H Q q => ?_) (pe_lst h)
  refine ⟨q.1, fun vs H1 ls s1 t1 n1 f1 o1 => ⟨?_, fun p np => q.2 p vs _ ls (s1.trans (upd_same_as np)) upd_same (lus_same (upd_same_as np) t1) (new_nodup t1 np n1) (fun a z => ?_) o1⟩⟩
  · rw [lus_len t1, sizeLine_eq]
    omega
  · rcases List.mem_cons.mp z with z | z
    · rw [z]
      exact s1.free np
    · exact f1 a z
theorem lu_lst (h : PA X es (tLus S O ds)) (z : ds.length ≤ 1000) : PE X (.List es pos) (tLu S O (.list ds)) := by
  refine pe_of (fun σ H Q q => ?_) (lu_top h z)
  exact ⟨q.1, fun p vs H1 ls s1 hp t1 n1 f1 o1 => q.2 (.ref p) H1 (p :: ls) s1 (.lst hp t1) n1 f1 (frs_ref (f1 p List.mem_cons_self))⟩
end
/-- a plan that stood before, element by element -/
theorem old_lus {O : Addr → Prop} {H : Hp} : ∀ ks : List (Addr × List Int), (∀ q ∈ ks, O q.1) → (∀ q ∈ ks, H q.1 = some (.lst (q.2.map V.int))) → Lus O H (ks.map fun q => V.ref q.1) ((ks.map (·.2)).map lstD) []
  | [], _, _ => .nil
  | q :: ks, o, h => .cons (l1 := []) (.old (o q List.mem_cons_self) (h q List.mem_cons_self)) (old_lus ks (fun z hz => o z (List.mem_cons_of_mem _ hz)) fun z hz => h z (List.mem_cons_of_mem _ hz))
end Xu
/-! Own ground: a comprehension over what is made with fresh texts (tokens told from the start). -/
namespace Yb
open PySem PySem.Spec PyProof.Rows L2
section
variable {X : Cx} {pins : List (Addr × Obj)} {s : Shared} {σ : L2.St} {H : Hp} {Q : VK} {elt tg iter : Expr} {ifs : List Expr} {scope : Scope} {own : List (Str × Nat)} {pos pos' : Pos} {wi : TI} {g : TG} {tt : TT} {te : TE} {use : Option (Value → Sem Unit)} {Qf : Value → Shared → Prop}
theorem comp_tok (hc : X.calm = true) (hN : X.N.Nodup) (h0 : 1 ≤ s.toks) (I : Inv X pins σ H s) (hi : PIT X tg iter wi) (ok : BlkOk X.N X.env.scope scope own)
    (hg : ∀ s H C cl fp, PG (X.blk s H scope (compEnvC scope cl C X.env) fp) tg g) (ht : ∀ s H C cl fp, PTs (X.blk s H scope (compEnvC scope cl C X.env) fp) ifs tt) (he : ∀ s H C cl fp, PE (X.blk s H scope (compEnvC scope cl C X.env) fp) elt te)
    (hs : ∀ x : Value, foldedSetIterable iter X.env x = pure x) (h : tLc wi g tt te (own.map (·.2)) σ H Q)
    (fin : ∀ (D C : Addr) (s' : Shared) (m : Str → Option Value) (H' : Hp), Inv X pins σ H' s' → Q (.ref D) H' → s'.heap.Ns C m → FpOk X pins H' C → compPost (model X.prog X.w) X.A X.xe use Qf (.ref D) C (.ok .next) s') :
    wpAny (model X.prog X.w) X.A (comprehension (.ListComp elt [⟨tg, iter, ifs, 0⟩] scope pos) scope X.env pos' (newList []) false (eval iter X.env) use) Qf X.xe s := by
  have hfree : ∀ y ∈ scope.names, y.2 = .free → ∃ c, X.env.cells.lookup y.1 = some c := fun y hy e => (ok.free y hy e).elim (fun k => I.ok.has y.1 (.inl k)) fun k => I.ok.has y.1 (.inr k)
  refine wpAny_comprehension_free rfl hs (closure_ok hfree) ok.kind (fun y hy e => by rw [ok.uniq y hy, e]) ?_
  refine thn (hi pins s σ H _ h0 I h) fun xv s1 hx => thn hx fun itv s2 h2 => ?_
  obtain ⟨it, fp, tn, J, H2, rfl, I2, T, st2, f2, q⟩ := h2
  refine wpAny_newObj_type ?_
  have hDn : H2 s2.heap.objs.size = none := I2.hok.fresh (Nat.le_refl _)
  obtain ⟨W, ⟨m0, w0⟩, turn⟩ := q s2.heap.objs.size hDn
  refine newEnv_comp ?_
  have I3 : Inv X pins σ (upd H2 s2.heap.objs.size (.lst [])) { s2 with heap := s2.heap.push { cls := .type "list", data := .seq #[] } } :=
    I2.laid (t' := s2.toks) (fun b o e => Heap.get?_push_of_some _ e) (Nat.le_refl _) ⟨Nat.zero_le _, [], 0, .nil, Heap.get?_push_size _ rfl⟩
  have sz : ∀ b ∈ fp, b < s2.heap.objs.size := fun b hb => by
    obtain ⟨o, e, _⟩ := T.obj 0 s2.heap st2 b hb
    exact Heap.lt_size e
  have f3 : ∀ b ∈ fp, FpOk X pins (upd H2 s2.heap.objs.size (.lst [])) b ∧ b < (s2.heap.push { cls := .type "list", data := .seq #[] }).objs.size := fun b hb => by
    have lt := sz b hb
    refine ⟨⟨by rw [upd_ne (Nat.ne_of_lt lt)]; exact (f2 b hb).1, (f2 b hb).2⟩, ?_⟩
    rw [Heap.size_push]
    exact Nat.lt_succ_of_lt lt
  have st3 : tn 0 (s2.heap.push { cls := .type "list", data := .seq #[] }) := T.keep 0 s2.heap _ st2 fun b _ o e => Heap.get?_push_of_some _ e
  have I4 := block_start I3 ok hN f3
  have st4 : tn 0 (pushCells ((s2.heap.push { cls := .type "list", data := .seq #[] }).push { cls := .type "dict", data := .dict #[] }) scope.names) := T.keep 0 _ _ st3 fun b _ o e => pushCells_keeps _ _ b o (Heap.get?_push_of_some _ e)
  have pg := hg { s2 with heap := s2.heap.push { cls := .type "list", data := .seq #[] } } (upd H2 s2.heap.objs.size (.lst [])) (s2.heap.push { cls := .type "list", data := .seq #[] }).objs.size (cellsFrom ((s2.heap.push { cls := .type "list", data := .seq #[] }).objs.size + 1) scope.names (cloFrom X.env.cells scope.names [])) fp
  have pt := ht { s2 with heap := s2.heap.push { cls := .type "list", data := .seq #[] } } (upd H2 s2.heap.objs.size (.lst [])) (s2.heap.push { cls := .type "list", data := .seq #[] }).objs.size (cellsFrom ((s2.heap.push { cls := .type "list", data := .seq #[] }).objs.size + 1) scope.names (cloFrom X.env.cells scope.names [])) fp
  have pe := he { s2 with heap := s2.heap.push { cls := .type "list", data := .seq #[] } } (upd H2 s2.heap.objs.size (.lst [])) (s2.heap.push { cls := .type "list", data := .seq #[] }).objs.size (cellsFrom ((s2.heap.push { cls := .type "list", data := .seq #[] }).objs.size + 1) scope.names (cloFrom X.env.cells scope.names [])) fp
  have nfp : ∀ b ∈ fp, (upd H2 s2.heap.objs.size (.lst [])) b = none := fun b hb => (f3 b hb).1.1
  have key : ∀ ce : Env, Inv (X.blk { s2 with heap := s2.heap.push { cls := .type "list", data := .seq #[] } } (upd H2 s2.heap.objs.size (.lst [])) scope ce fp) [] (wipe σ (own.map (·.2))) (upd H2 s2.heap.objs.size (.lst [])) { s2 with heap := pushCells ((s2.heap.push { cls := .type "list", data := .seq #[] }).push { cls := .type "dict", data := .dict #[] }) scope.names } →
      PG (X.blk { s2 with heap := s2.heap.push { cls := .type "list", data := .seq #[] } } (upd H2 s2.heap.objs.size (.lst [])) scope ce fp) tg g → PTs (X.blk { s2 with heap := s2.heap.push { cls := .type "list", data := .seq #[] } } (upd H2 s2.heap.objs.size (.lst [])) scope ce fp) ifs tt →
      PE (X.blk { s2 with heap := s2.heap.push { cls := .type "list", data := .seq #[] } } (upd H2 s2.heap.objs.size (.lst [])) scope ce fp) elt te → ce.locals = (s2.heap.push { cls := .type "list", data := .seq #[] }).objs.size →
      codeAny (model X.prog X.w) X.A (.compStart (.ListComp elt [⟨tg, iter, ifs, 0⟩] scope pos) 0 (.ref it) (.ref s2.heap.objs.size) ce) (compPost (model X.prog X.w) X.A X.xe use Qf (.ref s2.heap.objs.size) (s2.heap.push { cls := .type "list", data := .seq #[] }).objs.size)
        { s2 with heap := pushCells ((s2.heap.push { cls := .type "list", data := .seq #[] }).push { cls := .type "dict", data := .dict #[] }) scope.names } := by
    intro ce I4 pg pt pe cL
    have stat : ∀ {σ' : L2.St} {H' : Hp} {s' : Shared}, Inv (X.blk { s2 with heap := s2.heap.push { cls := .type "list", data := .seq #[] } } (upd H2 s2.heap.objs.size (.lst [])) scope ce fp) [] σ' H' s' → (∀ b ∈ fp, H' b = none) → ∀ b ∈ fp, FpOk (X.blk { s2 with heap := s2.heap.push { cls := .type "list", data := .seq #[] } } (upd H2 s2.heap.objs.size (.lst [])) scope ce fp) [] H' b :=
      fun I' hn b hb => ⟨hn b hb, (I'.ok.exf b hb).1, I'.ok.exfs b hb, .inl hb, fun x c e => (I'.ok.exf b hb).2 x c e, fun p hp => by cases hp⟩
    have loop : codeAny (model X.prog X.w) X.A (.compLoop (.ListComp elt [⟨tg, iter, ifs, 0⟩] scope pos) 0 (.ref it) (.ref s2.heap.objs.size) ce) (compPost (model X.prog X.w) X.A X.xe use Qf (.ref s2.heap.objs.size) (s2.heap.push { cls := .type "list", data := .seq #[] }).objs.size)
        { s2 with heap := pushCells ((s2.heap.push { cls := .type "list", data := .seq #[] }).push { cls := .type "dict", data := .dict #[] }) scope.names } := by
      refine compLoop_any (fun n s' => ∃ i H', Inv (X.blk { s2 with heap := s2.heap.push { cls := .type "list", data := .seq #[] } } (upd H2 s2.heap.objs.size (.lst [])) scope ce fp) [] (wipe σ (own.map (·.2))) H' s' ∧ tn i s'.heap ∧ (∀ b ∈ fp, H' b = none) ∧ W i n H') (fun n s5 a => ?_) m0 ⟨0, _, I4, st4, nfp, w0⟩
      obtain ⟨i, H5, I5, st5, n5, w5⟩ := a
      rcases turn i n H5 w5 with ⟨stop, qq⟩ | ⟨go, Nx, hNx, step⟩
      · refine thnF (T.done (X.blk { s2 with heap := s2.heap.push { cls := .type "list", data := .seq #[] } } (upd H2 s2.heap.objs.size (.lst [])) scope ce fp) rfl rfl rfl hc i [] s5 _ H5 (fun _ _ => False) I5 (stat I5 n5) st5 stop) fun r s6 z => ?_
        obtain ⟨rfl, I6⟩ := z
        have I7 : Inv X pins σ H5 s6 := I3.call' I6.os I6.base I6.hok I6.bare fun b hb => ⟨(f3 b hb).1.2.2.2.1, (f3 b hb).1.2.1, (f3 b hb).1.2.2.2.2.1, (f3 b hb).1.2.2.2.2.2⟩
        obtain ⟨m, hn, _⟩ := I6.loc
        have hn : s6.heap.Ns ce.locals m := hn
        have nC : H5 ce.locals = none := I6.free
        rw [cL] at hn nC
        exact fin _ _ s6 m H5 I7 qq hn (I3.fpOk (Nat.le_refl _) nC)
      · refine thnF (T.item (X.blk { s2 with heap := s2.heap.push { cls := .type "list", data := .seq #[] } } (upd H2 s2.heap.objs.size (.lst [])) scope ce fp) rfl rfl rfl hc i [] s5 _ H5 (fun _ _ => False) I5 (stat I5 n5) st5 go) fun r s6 z => ?_
        obtain ⟨u, rfl, h6⟩ := z
        refine thnF h6 fun _ s7 z => ?_
        obtain ⟨x, H7, I7, r7, y7, st7, n7⟩ := z
        have I7' := I7.pinned (stat I7 n7) (T.obj (i + 1) s7.heap st7)
        refine thnF (pg.run _ s7 _ H7 x u _ I7' r7 (step x H7 y7)) fun _ s8 z => ?_
        obtain ⟨σ8, H8, I8, hw8, q8⟩ := z
        refine thnF (pt.run _ s8 σ8 H8 _ I8 q8) fun b s9 z => ?_
        obtain ⟨H9, I9, q9⟩ := z
        have fin2 : ∀ {s' : Shared} {H' : Hp}, Inv (X.blk { s2 with heap := s2.heap.push { cls := .type "list", data := .seq #[] } } (upd H2 s2.heap.objs.size (.lst [])) scope ce fp) ([] ++ pinsAt fp s7.heap) σ8 H' s' → Nx H' →
            ∃ m, m < n ∧ ∃ i H', Inv (X.blk { s2 with heap := s2.heap.push { cls := .type "list", data := .seq #[] } } (upd H2 s2.heap.objs.size (.lst [])) scope ce fp) [] (wipe σ (own.map (·.2))) H' s' ∧ tn i s'.heap ∧ (∀ b ∈ fp, H' b = none) ∧ W i m H' := fun {s' H'} I' nx => by
          obtain ⟨m', hm, w'⟩ := hNx H' nx
          have pin' : ∀ b ∈ fp, ∀ o, s7.heap.get? b = some o → s'.heap.get? b = some o ∧ H' b = none := fun b hb o e => by
            have z := I'.pin (b, o) (List.mem_append_right _ (List.mem_append_right _ (mem_pinsAt hb e)))
            exact ⟨z.1, z.2.1⟩
          refine ⟨m', hm, i + 1, H', I'.unpinned.weak ?_ (fun j v e => ?_), T.keep (i + 1) s7.heap s'.heap st7 fun b hb o e => (pin' b hb o e).1, fun b hb => ?_, w'⟩
          · rw [← hw8, wipe_length]
          · rw [← hw8] at e
            exact (wipe_some e).1
          · obtain ⟨o, e, _⟩ := T.obj (i + 1) s7.heap st7 b hb
            exact (pin' b hb o e).2
        cases b with
        | false =>
          rw [if_neg Bool.false_ne_true] at q9 ⊢
          exact fin2 I9 q9
        | true =>
          rw [if_pos rfl] at q9 ⊢
          refine thnF (pe.run _ s9 σ8 H9 _ I9 q9) fun yv s10 z => ?_
          obtain ⟨y, H10, I10, r10, acc, hD10, hz10, nx⟩ := z
          exact app_ok (X := (X.blk { s2 with heap := s2.heap.push { cls := .type "list", data := .seq #[] } } (upd H2 s2.heap.objs.size (.lst [])) scope ce fp)) I10 hD10 hz10 r10 fun s11 I11 => fin2 I11 nx
    exact codeAny_compStart_list loop (T.self X.A 0 _ _ _ st4 loop)
  exact key _ I4 pg pt pe rfl
theorem pet_lc (hc : X.calm = true) (hN : X.N.Nodup) (hi : PIT X tg iter wi) (ok : BlkOk X.N X.env.scope scope own)
    (hg : ∀ s H C cl fp, PG (X.blk s H scope (compEnvC scope cl C X.env) fp) tg g) (ht : ∀ s H C cl fp, PTs (X.blk s H scope (compEnvC scope cl C X.env) fp) ifs tt) (he : ∀ s H C cl fp, PE (X.blk s H scope (compEnvC scope cl C X.env) fp) elt te)
    (hs : ∀ x : Value, foldedSetIterable iter X.env x = pure x := by intro _; rfl) : PET X (.ListComp elt [⟨tg, iter, ifs, 0⟩] scope pos) (tLc wi g tt te (own.map (·.2))) := by
  intro pins s σ H Q h0 I h
  rw [eval_ListComp]
  refine comp_tok hc hN h0 I hi ok hg ht he hs h fun D C s' m H' I' q hn f => ⟨m, hn, fun h'' sb => ⟨.ref D, H', ?_, rfl, q⟩⟩
  obtain ⟨f0, f1, f2, f3, f4, f5⟩ := f
  exact I'.turned (fun b o hb e => (sb.2 b hb).trans e) f0 f1 f3 f4 f5
theorem pst_setLc {i : Nat} {y : Str} {py spos : Pos} (hc : X.calm = true) (hN : X.N.Nodup) (hy : X.N[i]? = some y) (hyl : X.env.scope.names.lookup y = some .local)
    (hsw : swapsWith (.ListComp elt [⟨tg, iter, ifs, 0⟩] scope pos) (some (.Name y py)) spos.line X.env = pure true) (hi : PIT X tg iter wi) (ok : BlkOk X.N X.env.scope scope own)
    (hg : ∀ s H C cl fp, PG (X.blk s H scope (compEnvC scope cl C X.env) fp) tg g) (ht : ∀ s H C cl fp, PTs (X.blk s H scope (compEnvC scope cl C X.env) fp) ifs tt) (he : ∀ s H C cl fp, PE (X.blk s H scope (compEnvC scope cl C X.env) fp) elt te)
    (hs : ∀ x : Value, foldedSetIterable iter X.env x = pure x := by intro _; rfl) : PST X (.Assign [.Name y py] (.ListComp elt [⟨tg, iter, ifs, 0⟩] scope pos) spos) (tAsg (tLc wi g tt te (own.map (·.2))) (gName i)) := by
  intro pins s σ H D h0 I h
  rw [exec_Assign_Name_used y py _ spos hsw]
  refine wpAny_bind (wpAny_standAt (wpAny_bind ?_))
  refine wpAny_bind (thn (comp_tok hc hN h0 I hi ok hg ht he hs h fun L C s' m H' I' q hn f => ?_) fun _ s' hq => wpAny_pure (wpAny_pure hq))
  refine wpAny_assign_Name (store_ok2 (v := .ref L) I' hN hy (.inl hyl) rfl (fun s2 I2 z => ?_) (.inr hyl))
  obtain ⟨a, sb, ha⟩ := z
  obtain ⟨f0, f1, f2, f3, f4, f5⟩ := f
  have haC : C ≠ a := ha.elim (fun z => by rw [z]; exact f1) fun z e => f4 y a z e.symm
  exact ⟨m, hn.sameBut sb haC, fun h3 sb3 => ⟨_, H', I2.turned (fun b o hb e => (sb3.2 b hb).trans e) f0 f1 f3 f4 f5, q⟩⟩
end
end Yb
/-! Own ground: split of fresh texts, a text turned round, enumerate over a text. -/
namespace Yc
open PySem PySem.Spec PyProof.Rows L2
section
variable {X : Cx} {o e : Expr} {to te : TE} {apos pos : Pos}
/-- o.split(e), o told with tokens -/
theorem pet_split (ho : PET X o to) (he : PE X e te) (hs : starEach [e] X.env = [(false, eval e X.env)] := by rfl) (hb : attributeBase o "split" X.env (eval o X.env) = eval o X.env := by rfl) (hl : (apos.endLine == pos.line) = true := by rfl) :
    PET X (.Call (.Attribute o "split" apos) [e] [] pos) (tM1 (fun x xs H Q => ∃ a b, x = .str a ∧ xs = [.str b] ∧ (b.length == 0) = false ∧ a.length + 2 ≤ sizeLine ∧ rNewStrs (Txt.split a b) H Q) to te) := by
  intro pins s σ H Q h0 I h
  refine Call_method1 hb hs hl (thn (ho pins s σ H _ h0 I h) fun v s1 z => ?_)
  obtain ⟨x, H1, I1, r1, ⟨a, rfl⟩, q1⟩ := z
  obtain ⟨t, rfl⟩ := r1
  refine ⟨"str", _, PySem.F.plainAttrs_str, PySem.F.slot_str_split, PySem.F.type_str_split, typeIs_str s1 a t, (fun x e => nomatch e), ?_⟩
  refine Calls.callWith_builtin (args := [(false, eval e X.env)]) rfl (Calls.evalArgs_plain (Calls.spliced_cons (thn (he.run pins s1 σ H1 _ I1 q1) fun u s2 z => ?_)))
  obtain ⟨y, H2, I2, r2, q2⟩ := z
  exact Calls.spliced_nil (mt_split pins s2 σ H2 (.str a) [y] (.str a t) [u] Q I2 ⟨t, rfl⟩ (.cons r2 .nil) q2)
/-- a text from its end: told by its length alone -/
def tRevS (te : TE) : TE := fun σ H Q => te σ H fun x H1 => ∃ z : Str, x = .str z ∧ z.length ≤ 16777216 ∧ ∀ y : Str, y.length ≤ z.length → (∀ c ∈ y.cps.toList, c ∈ z.cps.toList) → Q (.str y) H1
theorem rev_len (z : Str) : (Builtin.Str.strSliceIndices none none (-1) z.length).length ≤ z.length := by
  unfold Builtin.Str.strSliceIndices sliceRange
  simp only [List.length_map, List.length_range]
  have h1 : ¬ ((-1 : Int) > 0) := by decide
  simp only [h1, if_false]
  split
  · have e : ((z.length : Int) - 1 - -1 - -1 - 1) / - -1 = z.length := by
      show ((z.length : Int) - 1 - -1 - -1 - 1) / 1 = _
      rw [Int.ediv_one]
      omega
    rw [e]
    omega
  · exact Nat.zero_le _
theorem pe_revS {k : Nat} {p1 p2 p3 : Pos} (he : PE X e te) : PE X (.Subscript e (.Slice none none (some (.UnaryOp .USub (.Constant (.int 1) k p1) p2)) p3) pos) (tRevS te) := by
  refine ⟨fun pins s σ H Q I h => PyProof.Rows.Subscript_ (thn (he.run pins s σ H _ I h) fun v s1 z => ?_)⟩
  obtain ⟨x, H1, I1, r1, z, rfl, zl, q⟩ := z
  obtain ⟨t, rfl⟩ := r1
  refine wpAny_Slice ?_
  rw [evalPart_none]
  refine wpAny_pure (wpAny_pure ?_)
  have hst := po_some (X := X) (pe_un un_neg (pe_int (X := X) (i := 1) (j := k) (pos := p1)) (pos := p2))
  refine thn (hst.run pins s1 σ H1 (fun o H4 => o = some (-1) ∧ H4 = H1) I1 ⟨1, rfl, -1, rfl, rfl, rfl⟩) fun vs s4 w => ?_
  obtain ⟨o, H4, I4, ps, rfl, rfl⟩ := w
  obtain ⟨tv, rfl⟩ : ∃ tv, vs = .int (-1) tv := by
    cases ps
    exact ⟨_, rfl⟩
  have I5 : Inv X pins σ H4 { s4 with heap := s4.heap.push { cls := .type "slice", data := .fields #[.none, .none, .int (-1) tv] } } := I4.kept fun b ob q => Heap.get?_push_of_some _ q
  have sl : (s4.heap.push { cls := .type "slice", data := .fields #[.none, .none, .int (-1) tv] }).IsSlice s4.heap.objs.size none none (some (-1, tv)) := ⟨_, Heap.get?_push_size _ rfl, rfl, rfl⟩
  refine tail_any (typeIs_str _ z t) PySem.F.slot_str_getitem.lookup (wpAny_getItem_str_slice sl (by rfl) ?_) rfl
  have len : ((slicePicked z none none (some (-1, tv))).filterMap fun i => z.cps[i]?).length ≤ z.length := Nat.le_trans (List.length_filterMap_le _ _) (rev_len z)
  unfold sliceMade
  rw [if_neg (by simp)]
  refine ⟨Nat.le_trans ?_ zl, .str _, H4, I5.tok _, ⟨_, rfl⟩, q _ ?_ fun c hc => ?_⟩
  · show (List.toArray _).size ≤ _
    rw [List.size_toArray]
    exact len
  · show (List.toArray _).size ≤ _
    rw [List.size_toArray]
    exact len
  · have hc : c ∈ (slicePicked z none none (some (-1, tv))).filterMap fun i => z.cps[i]? := hc
    obtain ⟨i, _, e⟩ := List.mem_filterMap.mp hc
    exact Array.mem_toList_iff.mpr (Array.mem_of_getElem? e)
/-! ### enumerate(text) -/
def Iten (z : Str) : It := ⟨fun i _ => i < z.cps.size, fun i H v H' => ∃ T c, v = .ref T ∧ H T = none ∧ z.cps[i]? = some c ∧ H' = upd H T (.tup [.int (i : Int), .str ⟨#[c]⟩]), fun i _ => z.cps.size ≤ i⟩
theorem strIter_or (z : Str) : strIterType z = "str_ascii_iterator" ∨ strIterType z = "str_iterator" := by
  unfold strIterType
  split
  · exact .inl rfl
  · exact .inr rfl
theorem draws_str {P : Program} {w : World} {A : Around} (h : A.handled = none) (it : Addr) (z : Str) (t : Tok) : Draws P w A it [it] z.cps.size (fun i v => ∃ c u, z.cps[i]? = some c ∧ v = .str ⟨#[c]⟩ u) fun i h => h.IsStrIter it (strIterType z) z t i := by
  rcases strIter_or z with e | e
  · rw [e]
    exact Draws.strAscii h it z t
  · rw [e]
    exact Draws.strWide h it z t
theorem turn_enumS {P : Program} {w : World} {K : PySem.W.Frag} {elts : List Expr} {kk : Nat} {tpos : Pos} (e it : Addr) (z : Str) (t : Tok) (ne : e ≠ it) :
    Turn P w K (.Tuple elts kk tpos) (Iten z) [e, it] e fun i h => i ≤ z.cps.size ∧ (∃ old, IsEnum h e it (i : Int) old) ∧ h.IsStrIter it (strIterType z) z t i := by
  have WT : ∀ A : Around, A.handled = none → _ := fun A hA => WalksT.enumerateD (draws_str (P := P) (w := w) (A := A.in1) hA it z t) e ne (by simpa using ne) (by simp)
  refine ⟨by simp, fun i h st b hb => ?_, fun i h h' st k => ?_, fun X hP hw hK hc i pins s σ H E I hf st hg => ?_, fun X hP hw hK hc i pins s σ H E I hf st hg => ?_, fun A i s Q E st h => ?_⟩
  · obtain ⟨_, ⟨old, he⟩, o, ho, hcl, hd⟩ := st
    rcases (by simpa using hb : b = e ∨ b = it) with rfl | rfl
    · exact ⟨_, he, fun v q => nomatch q⟩
    · exact ⟨o, ho, fun v q => by rw [hd] at q; cases q⟩
  · obtain ⟨hi, ⟨old, he⟩, o, ho, r⟩ := st
    exact ⟨hi, ⟨old, k e (by simp) _ he⟩, o, k it (by simp) o ho, r⟩
  · subst hP hw
    have W := WT X.A (I.ok.hd hc)
    refine W.item i s _ E hg st.2 fun T vals h' tk hv hT ht hm hk => ⟨_, rfl, W.go elts kk tpos i T _ _ E hm fun h'' st2 hk2 => ?_⟩
    obtain ⟨tv, x, ⟨c, u, hc2, rfl⟩, rfl⟩ := hv
    obtain ⟨_, _, Te, Ti⟩ := hm
    have lt : ∀ b ∈ [e, it], b < s.heap.objs.size := fun b hb => by
      obtain ⟨_, ⟨old, he⟩, o, ho, _⟩ := st
      rcases (by simpa using hb : b = e ∨ b = it) with rfl | rfl
      · exact Heap.lt_size he
      · exact Heap.lt_size ho
    obtain ⟨ot, e1, e2, n, e3⟩ := ht
    have hT2 : h''.get? T = some ot := hk2 T ot (by simp [Te, Ti]) e1
    have new : ObjOk X.prog X.w (upd H T (.tup [.int (i : Int), .str ⟨#[c]⟩])) h'' T (.tup [.int (i : Int), .str ⟨#[c]⟩]) := ⟨(by show 2 ≤ sizeLine; decide), [.int i tv, .str ⟨#[c]⟩ u], .cons ⟨tv, rfl⟩ (.cons ⟨u, rfl⟩ .nil), ot, hT2, e2, n, e3⟩
    have I1 := I.turnedNew (t' := tk) (h' := h'') (ch := [e, it]) (fun b ob hb q => hk2 b ob hb (hk b ob hb q)) hf hT new
    refine ⟨.ref T, _, I1, rfl, ⟨T, c, rfl, I.hok.fresh hT, hc2, rfl⟩, ⟨hg, st2⟩, fun b hb => ?_⟩
    rw [upd_ne (Nat.ne_of_lt (Nat.lt_of_lt_of_le (lt b hb) hT))]
    exact (hf b hb).1
  · subst hP hw
    have W := WT X.A (I.ok.hd hc)
    have ei : i = z.cps.size := Nat.le_antisymm st.1 hg
    subst ei
    have lt : ∀ b ∈ [e, it], FpOk X pins H b := hf
    refine W.done s _ E st.2 fun h' tk hk => ⟨rfl, ?_⟩
    exact I.turnedL hk hf
  · obtain ⟨_, ⟨old, he⟩, _⟩ := st
    exact wpAny_pyIter_enum he h
def iEnumS (ta : TA) : TI := fun σ H R => ta σ H fun vs H1 => ∃ z, vs = [.str z] ∧ R (Iten z) H1
theorem pi_enumS {X : Cx} {e : Expr} {ta : TA} {p pos tpos : Pos} {elts : List Expr} {kk : Nat} (hg : Gl X "enumerate") (hm : X.mg "enumerate" = none) (ha : PA X [e] ta) (hs : starEach [e] X.env = [(false, eval e X.env)] := by rfl) :
    PI X (.Tuple elts kk tpos) (.Call (.Name "enumerate" p) [e] [] pos) (iEnumS ta) := by
  refine ⟨fun pins s σ H R I h => PyProof.Rows.Call_ (ld_blt I hg hm boot_enumerate (callWith_type1 (thn (ha.run pos pins s σ H _ I h) fun us s1 z => ?_) hs rfl) (by decide) (by decide))⟩
  obtain ⟨vs, H1, I1, r1, z, rfl, q⟩ := z
  cases r1 with
  | @cons _ u _ us r rr =>
    cases rr
    obtain ⟨t, rfl⟩ := r
    refine call_enumerate_str fun h' he hit hsz hk => wpAny_pyIter_enum he ⟨s1.heap.objs.size + 1, [s1.heap.objs.size + 1, s1.heap.objs.size], _, Iten z, H1, rfl, I1.kept hk, turn_enumS _ _ z t (Nat.succ_ne_self _), ⟨Nat.zero_le _, ⟨_, he⟩, hit⟩, fun b hb => ?_, q⟩
    rcases (by simpa using hb : b = s1.heap.objs.size + 1 ∨ b = s1.heap.objs.size) with rfl | rfl
    · exact I1.fpOk (Nat.le_succ _) (I1.hok.fresh (Nat.le_succ _))
    · exact I1.fpOk (Nat.le_refl _) (I1.hok.fresh (Nat.le_refl _))
theorem walk_enumS {z : Str} : Walk (Iten z) z.cps.size (fun _ => True) (fun i H v H' => ∃ T c, v = .ref T ∧ H T = none ∧ z.cps[i]? = some c ∧ H' = upd H T (.tup [.int (i : Int), .str ⟨#[c]⟩])) :=
  ⟨fun i H h _ => h, fun H _ => Nat.le_refl _, fun i H x H' _ _ y => y⟩
end
end Yc
/-! Own ground: defs whose bodies want tokens told. -/
namespace Yd
open PySem PySem.Spec PyProof.Rows L2 Xa
/-- as FnG, called where a token has been given out -/
structure FnT (P : Program) (w : World) (K : PySem.W.Frag) (mg : Str → Option Value) (base : Heap) (lev : Nat) (at_ : Addr) (fd : FuncData) (ps : List Str) (pr : Sp) : Prop where
  size : ∀ xs H Q E, pr xs H Q E → xs.length = ps.length
  go : ∀ (A : Around) (out : List Env) (st : Shared) (H : Hp) (ar : Args) (us : List Value) (xs : List V) (Q : VK) (E : XK), 1 ≤ st.toks → Room lev A → NoRep A →
    Env0 P w K mg base A out st H → BindsTo st fd ar (ps.zip us) → Vals xs us → pr xs H Q E → codeAny (model P w) A (.call (.ref at_) ar) (CR CX0 out P w H st Q E) st
def CanT (P : Program) (w : World) (K : PySem.W.Frag) (mg : Str → Option Value) (base : Heap) (lev : Nat) (x : Str) (ps : List Str) (pr : Sp) : Prop :=
  ∃ (f : Addr) (fd : FuncData), FnT P w K mg base lev f fd ps pr ∧ mg x = some (.ref f) ∧ PySem.W.keepIn K (.ref f) = true ∧ Binds K fd ps []
section
variable {P : Program} {w : World} {K : PySem.W.Frag} {mg : Str → Option Value} {base : Heap} {x qual : Str} {params : Arguments} {body : List Stmt} {scope : Scope} {dvs : List V} {kws : List (Str × V)} {at_ : Addr} {fd : FuncData}
theorem okT {N ps : List Str} {lev : Nat} {pr : Sp} (F : FunD K x qual params body scope dvs kws at_ fd) (S : FnScope N ps scope) (size : ∀ xs H Q E, pr xs H Q E → xs.length = ps.length)
    (hb : ∀ (cdv : Value) (A : Around) (out : List Env) (st : Shared) (H : Hp) (xs : List V) (Q : VK) (E : XK), Room lev (A.deeper (envOfC qual scope st.heap.objs.size at_ cdv)) → NoRep (A.deeper (envOfC qual scope st.heap.objs.size at_ cdv)) → pr xs H Q E →
      ∃ t, PSsT (cxOf CX0 P w K mg base N qual scope at_ cdv A out st H E) body t ∧ t { nx := fun _ H' => Q .non H', rt := Q } (start N xs) H) : FnT P w K mg base (lev + 1) at_ fd ps pr := by
  obtain ⟨oc, od, dV, kV, doc, pm, an, cdv, ct, osl, rfl, lk, hcd, _, _⟩ := F.ex
  refine ⟨size, fun A out st H ar us xs Q E h0 hr hn e0 bnd rel hp => ?_⟩
  have sz := size _ _ _ _ hp
  have inK : K.In st.heap := e0.mod.kin.keeps fun b o z => (e0.bs b o z).1
  have noLim : st.heap.NoLimit := e0.mod.nolimit.keeps fun b o z => (e0.bs b o z).1
  refine codeAny_call_function hr.depth (inK _ _ lk) rfl S.co S.gen rfl (PySem.W.codeRec_of inK hcd) (bnd _ _ _ _ ?_)
  refine wpAny_with_toks h0 ?_
  refine wpAny_newFunctionEnv_cells S.kind (fun ⟨n, v⟩ hy => ?_) fun env he s1 ic t1 => ?_
  · exact (S.par n (List.of_mem_zip hy).1).elim .inl fun z => .inr ⟨z, PySem.W.cellsFrom_some _ _ _ (.inl z)⟩
  subst he
  refine ⟨noLim.keeps ic.toInCall.keep, codeAny_func ?_⟩
  obtain ⟨t, ht, hq⟩ := hb cdv A out st H xs Q E (hr.deeper _) (hn.deeper _) hp
  have I : Inv (cxOf CX0 P w K mg base N qual scope at_ cdv A out st H E) [] (start N xs) H s1 := inv_start S hr.hd e0 sz rel ic
  refine wpAny_mono (ht [] s1 (start N xs) H _ t1 I hq) (fun fl s2 hs => ?_) fun e s2 hs => hs
  cases fl with
  | ret u => exact let ⟨v, _, H', J, rv, q⟩ := hs; ⟨v, H', J.os, J.bare, J.base, J.hok, rv, q⟩
  | next => exact let ⟨_, H', J, q⟩ := hs; ⟨V.non, H', J.os, J.bare, J.base, J.hok, rfl, q⟩
  | brk => exact let ⟨_, _, _, q⟩ := hs; False.elim q
  | cont => exact let ⟨_, _, _, q⟩ := hs; False.elim q
theorem okGT {N ps : List Str} {lev : Nat} {pr : Sp} (F : FunD K x qual params body scope dvs kws at_ fd) (S : FnScope N ps scope) (hnc : ∀ y ∈ scope.names, y.2 ≠ NameKind.cell) (one : 1 ≤ ps.length) (size : ∀ xs H Q E, pr xs H Q E → xs.length = ps.length)
    (hb : ∀ (cdv : Value) (A : Around) (out : List Env) (st : Shared) (H : Hp) (xs : List V) (Q : VK) (E : XK), Room lev (A.deeper (envOfC qual scope st.heap.objs.size at_ cdv)) → NoRep (A.deeper (envOfC qual scope st.heap.objs.size at_ cdv)) → pr xs H Q E →
      ∃ t, PSsT (cxOf CX0 P w K mg base N qual scope at_ cdv A out st H E) body t ∧ t { nx := fun _ H' => Q .non H', rt := Q } (start N xs) H) : FnG P w K mg base (lev + 1) at_ fd ps pr := by
  obtain ⟨oc, od, dV, kV, doc, pm, an, cdv, ct, osl, rfl, lk, hcd, _, _⟩ := F.ex
  refine ⟨size, fun A out st H ar us xs Q E hr hn e0 bnd rel hp => ?_⟩
  have sz := size _ _ _ _ hp
  have hul : us.length = ps.length := by rw [← rel.length]; exact sz
  have inK : K.In st.heap := e0.mod.kin.keeps fun b o z => (e0.bs b o z).1
  have noLim : st.heap.NoLimit := e0.mod.nolimit.keeps fun b o z => (e0.bs b o z).1
  have hloc : ∀ y ∈ ps.zip us, scope.names.lookup y.1 = some .local := fun ⟨n, v⟩ hy => (S.par n (List.of_mem_zip hy).1).elim id fun q => absurd rfl (hnc (n, .cell) (mem_of_lookup q))
  refine codeAny_call_function hr.depth (inK _ _ lk) rfl S.co S.gen rfl (PySem.W.codeRec_of inK hcd) (bnd _ _ _ _ ?_)
  refine wpAny_newFunctionEnv hnc hloc (fun h1 hns hsb => ?_) S.kind
  have hz : (ps.zip us).length = ps.length := by rw [List.length_zip, hul, Nat.min_self]
  have keep : ∀ b o, st.heap.get? b = some o → h1.get? b = some o := fun b o e => hsb.extBut b o (Nat.ne_of_lt (Heap.lt_size e)) (Heap.get?_push_of_some _ e)
  have hcl := cells_none scope.names (st.heap.objs.size + 1) [] hnc
  have hm : bindL (envOfC qual scope st.heap.objs.size at_ cdv).kindOf (ps.zip us) (fun _ => none) = fun y => List.lookup y (ps.zip us).reverse := by
    funext y
    rw [bindL_loc (ps.zip us) (fun _ => none) hloc y]
    cases List.lookup y (ps.zip us).reverse <;> rfl
  have ic : InCallC st st.heap.objs.size (bindL (envOfC qual scope st.heap.objs.size at_ cdv).kindOf (ps.zip us) fun _ => none) (cellsFrom (st.heap.objs.size + 1) scope.names []) (bindC (envOfC qual scope st.heap.objs.size at_ cdv).kindOf (ps.zip us) fun _ => none) { st with heap := h1, toks := st.toks + (ps.zip us).length } := by
    rw [hm, hcl]
    refine ⟨⟨⟨h1, _, rfl⟩, hns, keep, Nat.le_refl _⟩, ?_, ?_, ?_⟩
    · intro n c hc
      cases hc
    · exact .nil
    · intro n c hc
      cases hc
  have henv : newEnv scope st.heap.objs.size mainGlobals [] (qual ++ ".<locals>.") (some at_) cdv none builtinsNs = envOfC qual scope st.heap.objs.size at_ cdv := by
    unfold envOfC
    rw [hcl]
    rfl
  show _ ∧ codeAny (model P w) A (.func body (newEnv scope st.heap.objs.size mainGlobals [] (qual ++ ".<locals>.") (some at_) cdv none builtinsNs)) _ _
  rw [henv]
  refine ⟨noLim.keeps keep, codeAny_func ?_⟩
  obtain ⟨t, ht, hq⟩ := hb cdv A out st H xs Q E (hr.deeper _) (hn.deeper _) hp
  have I : Inv (cxOf CX0 P w K mg base N qual scope at_ cdv A out st H E) [] (start N xs) H _ := inv_start S hr.hd e0 sz rel ic
  refine wpAny_mono (ht [] _ (start N xs) H _ (by show 1 ≤ st.toks + (ps.zip us).length; omega) I hq) (fun fl s2 hs => ?_) fun e s2 hs => hs
  cases fl with
  | ret u => exact let ⟨v, _, H', J, rv, q⟩ := hs; ⟨v, H', J.os, J.bare, J.base, J.hok, rv, q⟩
  | next => exact let ⟨_, H', J, q⟩ := hs; ⟨V.non, H', J.os, J.bare, J.base, J.hok, rfl, q⟩
  | brk => exact let ⟨_, _, _, q⟩ := hs; False.elim q
  | cont => exact let ⟨_, _, _, q⟩ := hs; False.elim q
end
section
variable {X : Cx} {lev : Nat} {x : Str} {ps : List Str} {pr : Sp} {p pos : Pos} {e : Expr} {es : List Expr} {ta : TA} {te : TE}
theorem PAT.of (h : PA X es ta) : PAT X es ta := fun pos pins s σ H Q _ I q => h.run pos pins s σ H Q I q
theorem pet_canT (c : CanT X.prog X.w X.K X.mg X.base lev x ps pr) (hr : Room lev X.A) (hn : NoRep X.A) (ha : PA X (e :: es) ta) (hg : Gl X x := by rfl) (hdb : (x == ("__debug__" : Str)) = false := by decide)
    (he : starEach (e :: es) X.env = (false, eval e X.env) :: starEach es X.env := by rfl) (hpl : (backTo pos (starEach es X.env)).any (·.1) = false := by rfl) : PET X (.Call (.Name x p) (e :: es) [] pos) (tCall pr [] E0 ta) := by
  obtain ⟨f, fd, G, hm, kp, hb⟩ := c
  intro pins st σ H Q h0 I h
  refine wpAny_Call_Name_kw (ld_glob I hg hm ?_ hdb)
  refine PySem.W.callWith_K (h₀ := X.base) I.ok.mod.kin kp (wpAny_mono (wpAny_toks_of h0 (ha.run pos pins st σ H _ I h)) (fun us s1 z => ?_) fun _ _ z => z.2) he hpl
  obtain ⟨t1, xs, H1, I1, rel, q⟩ := z
  refine ⟨I1.kIn, ?_⟩
  have q : pr xs H1 Q E0 := by rw [← List.append_nil xs]; exact q
  have sz : us.length = ps.length := by rw [← rel.length]; exact G.size _ _ _ _ q
  have bnd := hb s1 us I1.kIn (by rw [List.append_nil]; exact sz)
  rw [List.append_nil] at bnd
  refine wpAny_call (codeAny_mono (G.go X.A X.stack s1 H1 ⟨us, []⟩ us xs Q E0 t1 hr hn I1.env0 bnd rel q) fun r s2 hq => ?_)
  cases r with
  | error er => exact False.elim hq
  | ok fl =>
    cases fl with
    | ret u => exact I1.after hq
    | next => exact False.elim hq
    | brk => exact False.elim hq
    | cont => exact False.elim hq
theorem pet_tup {x1 : Nat} (h : PAT X es ta) : PET X (.Tuple es x1 pos) (tTup ta) := by
  intro pins s σ H Q h0 I hq
  refine wpAny_Tuple_spliced (thn (h pos pins s σ H _ h0 I hq) fun us s1 z => ?_)
  obtain ⟨xs, H1, I1, r, z, q⟩ := z
  refine ⟨by rw [← r.length]; exact z, .ref s1.heap.objs.size, upd H1 s1.heap.objs.size (.tup xs), I1.laid (t' := s1.toks) (fun b u e => Heap.get?_push_of_some _ e) (Nat.le_refl _) ⟨z, us, r, _, Heap.get?_push_size _ rfl, rfl, 0, rfl⟩, rfl, q _ (I1.hok.fresh (Nat.le_refl _))⟩
theorem pst_asg {tg e : Expr} {g : TG} (he : PET X e te) (hg : PG X tg g) (hs : swapsWithSole [tg] e pos.line X.env = pure false := by rfl) (hw : swappedStores [tg] e X.env = pure none := by rfl) (h1 : (assignEach [tg] X.env).map (·.2) = [assign tg X.env] := by rfl) :
    PST X (.Assign [tg] e pos) (tAsg te g) := by
  intro pins s σ H D h0 I h
  refine wpAny_Assign_stores (thn (he pins s σ H _ h0 I h) fun v s1 z => ?_) hs hw
  obtain ⟨x, H1, I1, r1, q1⟩ := z
  rw [h1]
  exact thn (hg.run pins s1 σ H1 x v D.nx I1 r1 q1) fun _ s2 q => q
end
section
variable {K : PySem.W.Frag} {x qual : Str} {params : Arguments} {body : List Stmt} {scope : Scope} {f : Addr} {fd : FuncData} {P : Program} {w : World} {mg : Str → Option Value} {base : Heap} {lev : Nat} {ps : List Str} {pr : Sp}
theorem FnT.can (F : FnT P w K mg base lev f fd ps pr) (D : FunD K x qual params body scope [] [] f fd) (g : mg x = some (.ref f))
    (b : ∀ (kV doc pm : Value) (an : Option Addr) (cdv ct : Value) (us : List Value), us.length = ps.length → bindArgs (PySem.W.fnOf x qual params body scope .none kV doc pm an cdv ct) ⟨us, []⟩ = pure (ps.zip us)) : CanT P w K mg base lev x ps pr := ⟨f, fd, F, g, D.kp, D.bindsN b⟩
theorem FunD.okF {CX : CXT} {N : List Str} (F : FunD K x qual params body scope [] [] f fd) (S : FnScope N ps scope) (hnc : ∀ y ∈ scope.names, y.2 ≠ NameKind.cell) (one : 1 ≤ ps.length) (len : ∀ vs H Q E, pr vs H Q E → vs.length = ps.length)
    (hb : ∀ (cdv : Value) (A : Around) (outer : List Env) (s : Shared) (H : Hp) (vs : List V) (Q : VK) (E : XK), Room lev (A.deeper (envOfC qual scope s.heap.objs.size f cdv)) → pr vs H Q E →
      ∃ t, PSsT (cxOf CX P w K mg base N qual scope f cdv A outer s H E) body t ∧ t { nx := fun _ H' => Q .non H', rt := Q } (start N vs) H) : FnOk P w K mg base CX (lev + 1) f fd ps pr := by
  obtain ⟨oc, od, dV, kV, doc, pm, an, cdv, ct, osl, rfl, lk, hcd, _, _⟩ := F.ex
  exact fn_ofT lk hcd S hnc one len fun A outer s H vs Q E hr h => hb cdv A outer s H vs Q E hr h
end
end Yd
/-! Own ground: three names at once, with tokens told. -/
namespace Yg
open PySem PySem.Spec PyProof.Rows L2
theorem pst_par3 {X : Cx} {i j l : Nat} {x y z : Str} {a b c : Expr} {ta : TA} {px py pz pt pos : Pos} {kt k2 : Nat} {pt2 : Pos} (hc : X.calm = true) (hN : X.N.Nodup) (hi : X.N[i]? = some x) (hj : X.N[j]? = some y) (hl : X.N[l]? = some z)
    (ij : i ≠ j) (il : i ≠ l) (jl : j ≠ l) (hx : X.env.scope.names.lookup x = some .local) (hy : X.env.scope.names.lookup y = some .local) (hz : X.env.scope.names.lookup z = some .local) (ha : PAT X [a, b, c] ta)
    (hw : swappedStores [.Tuple [.Name x px, .Name y py, .Name z pz] kt pt] (.Tuple [a, b, c] k2 pt2) X.env = pure (some [x, y, z])) (hs : swapsWithSole [.Tuple [.Name x px, .Name y py, .Name z pz] kt pt] (.Tuple [a, b, c] k2 pt2) pos.line X.env = pure false := by rfl) :
    PST X (.Assign [.Tuple [.Name x px, .Name y py, .Name z pz] kt pt] (.Tuple [a, b, c] k2 pt2) pos) (tPar3 i j l ta) := by
  intro pins s σ H D h0 I h
  rw [exec_Assign_arm]
  refine wpAny_bind (wpAny_standAt ?_)
  rw [hs]
  refine wpAny_bind (wpAny_pure ?_)
  rw [if_neg (by decide)]
  refine wpAny_bind (Tuple_ (thn (ha pt2 pins s σ H _ h0 I h) fun us s1 w => ?_))
  obtain ⟨vs, H1, I1, r1, v1, v2, v3, rfl, q1⟩ := w
  obtain ⟨u1, u2, u3, rfl, r1, r2, r3⟩ : ∃ u1 u2 u3, us = [u1, u2, u3] ∧ RelV v1 u1 ∧ RelV v2 u2 ∧ RelV v3 u3 := by
    cases r1 with
    | cons p q =>
      cases q with
      | cons p2 q2 =>
        cases q2 with
        | cons p3 q3 =>
          cases q3
          exact ⟨_, _, _, rfl, p, p2, p3⟩
  refine wpAny_newObj_type ?_
  rw [hw]
  refine wpAny_bind (wpAny_pure ?_)
  show wpAny _ _ (do
      rule "assign.swapped-stores"
      let items ← unpackItems (.ref s1.heap.objs.size) ([x, y, z] : List Str).length none
      assignInOrder (([x, y, z] : List Str).reverse.map fun n => bindName X.env n) items.reverse
      pure Flow.next) _ _ _
  refine wpAny_bind (wpAny_rule (wpAny_bind (unpackItems_tuple (items := #[u1, u2, u3]) (I.ok.hd hc) (IsTup.new s1.heap #[u1, u2, u3]) fun h' hk => ?_)))
  have I2 : Inv X pins σ H1 { s1 with heap := h' } := I1.kept fun b u e => hk b u (Nat.ne_of_lt (Nat.lt_trans (Heap.lt_size e) (by
    show s1.heap.objs.size < (s1.heap.push _).objs.size
    rw [Heap.size_push]
    exact Nat.lt_succ_self _))) (Heap.get?_push_of_some _ e)
  refine wpAny_bind ?_
  show wpAny _ _ (assignInOrder [bindName X.env z, bindName X.env y, bindName X.env x] [u3, u2, u1]) _ _ _
  refine assignInOrder_cons (wpAny_bindName (store_ok I2 hN hl (.inl hz) r3 (fun s3 I3 => ?_) (.inr hz)))
  refine assignInOrder_cons (wpAny_bindName (store_ok I3 hN hj (.inl hy) r2 (fun s4 I4 => ?_) (.inr hy)))
  refine assignInOrder_cons (wpAny_bindName (store_ok I4 hN hi (.inl hx) r1 (fun s5 I5 => ?_) (.inr hx)))
  refine assignInOrder_nil (wpAny_pure ⟨_, H1, I5, ?_⟩)
  have e : ((σ.set l (some v3)).set j (some v2)).set i (some v1) = ((σ.set i (some v1)).set j (some v2)).set l (some v3) := by
    rw [List.set_comm _ _ (Ne.symm jl), List.set_comm _ _ (Ne.symm il), List.set_comm (l := σ) _ _ (Ne.symm ij)]
  rw [e]
  exact q1
end Yg
/-! Own ground: the words of a text, sign by sign. -/
namespace Ya
open PySem
/-- the text with blanks in the places of line ends -/
def flat (z : Str) : Str := Txt.replace z ⟨#[10]⟩ ⟨#[32]⟩
/-- all parts between blanks -/
def partsOf (z : Str) : List Str := Txt.split (flat z) ⟨#[32]⟩
def full (w : Str) : Bool := !decide (w = Str.empty)
def wdsOf (z : Str) : List Str := (partsOf z).filter full
abbrev sg (z : Str) : List Nat := z.cps.toList
theorem sg_append (x y : Str) : sg (x ++ y) = sg x ++ sg y := by
  show (x.cps ++ y.cps).toList = _
  rw [Array.toList_append]
theorem mem_join {g : Str} {c : Nat} : ∀ {ps : List Str}, c ∈ sg (Str.join g ps) → c ∈ sg g ∨ ∃ p ∈ ps, c ∈ sg p
  | [], h => by
    have h : c ∈ ([] : List Nat) := h
    cases h
  | [p], h => .inr ⟨p, List.mem_cons_self, h⟩
  | p :: q :: r, h => by
    have h : c ∈ sg (p ++ g ++ Str.join g (q :: r)) := h
    rw [sg_append, sg_append, List.mem_append, List.mem_append] at h
    rcases h with (h | h) | h
    · exact .inr ⟨p, List.mem_cons_self, h⟩
    · exact .inl h
    · rcases mem_join h with h | ⟨s, hs, h⟩
      · exact .inl h
      · exact .inr ⟨s, List.mem_cons_of_mem _ hs, h⟩
theorem join_mem {g : Str} {c : Nat} : ∀ {ps : List Str} {p : Str}, p ∈ ps → c ∈ sg p → c ∈ sg (Str.join g ps)
  | [], p, h, _ => nomatch h
  | [q], p, h, hc => by
    obtain rfl : p = q := by simpa using h
    exact hc
  | q :: s :: r, p, h, hc => by
    show c ∈ sg (q ++ g ++ Str.join g (s :: r))
    rw [sg_append, sg_append, List.mem_append, List.mem_append]
    rcases List.mem_cons.mp h with rfl | h
    · exact .inl (.inl hc)
    · exact .inr (join_mem h hc)
theorem len_join (g : Str) : ∀ (ps : List Str), (sg (Str.join g ps)).length + (sg g).length = (ps.map fun p => (sg p).length).sum + ps.length * (sg g).length + (if ps = [] then (sg g).length else 0)
  | [] => by
    show ([] : List Nat).length + _ = _
    simp
  | [p] => by
    show (sg p).length + _ = _
    simp
  | p :: q :: r => by
    have ih := len_join g (q :: r)
    have e : sg (Str.join g (p :: q :: r)) = sg p ++ sg g ++ sg (Str.join g (q :: r)) := by
      show sg (p ++ g ++ Str.join g (q :: r)) = _
      rw [sg_append, sg_append]
    rw [e, List.length_append, List.length_append, List.map_cons, List.sum_cons, List.length_cons (as := q :: r), Nat.add_mul, Nat.one_mul]
    simp only [reduceCtorEq, if_false] at ih ⊢
    omega
theorem flat_eq (z : Str) : flat z = Str.join ⟨#[32]⟩ (Txt.split z ⟨#[10]⟩) := StrLaws.replace_one z _ 10
theorem flat_len (z : Str) : (flat z).length = z.length := by
  have a := len_join ⟨#[32]⟩ (Txt.split z ⟨#[10]⟩)
  have b := len_join ⟨#[10]⟩ (Txt.split z ⟨#[10]⟩)
  rw [StrLaws.join_split] at b
  rw [← flat_eq] at a
  have e1 : (sg ⟨#[32]⟩).length = 1 := rfl
  have e2 : (sg ⟨#[10]⟩).length = 1 := rfl
  rw [e1] at a
  rw [e2] at b
  have : (sg (flat z)).length = (sg z).length := by omega
  simpa [Str.length] using this
theorem mem_flat {z : Str} {c : Nat} (h : c ∈ sg z) : c = 10 ∨ c ∈ sg (flat z) := by
  have e := StrLaws.join_split z ⟨#[10]⟩
  rw [← e] at h
  rcases mem_join h with h | ⟨p, hp, h⟩
  · left
    have h : c ∈ [10] := h
    simpa using h
  · right
    rw [flat_eq]
    exact join_mem hp h
theorem flat_mem {z : Str} {c : Nat} (h : c ∈ sg (flat z)) : c = 32 ∨ (c ≠ 10 ∧ c ∈ sg z) := by
  rw [flat_eq] at h
  rcases mem_join h with h | ⟨p, hp, h⟩
  · left
    have h : c ∈ [32] := h
    simpa using h
  · right
    refine ⟨fun q => ?_, ?_⟩
    · subst q
      exact StrLaws.split_free z 10 p hp h
    · rw [← StrLaws.join_split z ⟨#[10]⟩]
      exact join_mem hp h
theorem ne_of_mem {w : Str} {c : Nat} (h : c ∈ sg w) : full w = true := by
  unfold full
  by_cases e : w = Str.empty
  · rw [e] at h
    have h : c ∈ ([] : List Nat) := h
    cases h
  · rw [decide_eq_false e]
    rfl
theorem mem_words {z : Str} {c : Nat} (h : c ∈ sg z) : c = 10 ∨ c = 32 ∨ ∃ w ∈ wdsOf z, c ∈ sg w := by
  rcases mem_flat h with h | h
  · exact .inl h
  · right
    rw [← StrLaws.join_split (flat z) ⟨#[32]⟩] at h
    rcases mem_join h with h | ⟨p, hp, h⟩
    · left
      have h : c ∈ [32] := h
      simpa using h
    · exact .inr ⟨p, List.mem_filter.mpr ⟨hp, ne_of_mem h⟩, h⟩
theorem words_mem {z w : Str} {c : Nat} (hw : w ∈ wdsOf z) (h : c ∈ sg w) : c ≠ 10 ∧ c ≠ 32 ∧ c ∈ sg z := by
  obtain ⟨hp, _⟩ := List.mem_filter.mp hw
  have n32 : c ≠ 32 := fun q => by
    subst q
    exact StrLaws.split_free (flat z) 32 w hp h
  have h2 : c ∈ sg (flat z) := by
    rw [← StrLaws.join_split (flat z) ⟨#[32]⟩]
    exact join_mem hp h
  rcases flat_mem h2 with q | ⟨q, r⟩
  · exact absurd q n32
  · exact ⟨q, n32, r⟩
theorem words_pos {z w : Str} (hw : w ∈ wdsOf z) : 0 < w.length := by
  obtain ⟨_, h⟩ := List.mem_filter.mp hw
  rcases Nat.eq_zero_or_pos w.length with e | e
  · have : w = Str.empty := by
      obtain ⟨a⟩ := w
      have e : a.size = 0 := e
      show Str.mk a = Str.mk #[]
      rw [Array.eq_empty_of_size_eq_zero e]
    rw [this] at h
    simp [full] at h
  · exact e
theorem parts_weight (z : Str) : ((partsOf z).map fun p => p.length).sum + (partsOf z).length ≤ z.length + 1 := by
  have h := PyProof.Rows.split_weight (flat z) ⟨#[32]⟩ (by decide)
  rw [flat_len] at h
  exact h
theorem sum_ge : ∀ {ps : List Str} {p : Str}, p ∈ ps → p.length ≤ (ps.map fun p => p.length).sum
  | [], p, h => nomatch h
  | q :: r, p, h => by
    rw [List.map_cons, List.sum_cons]
    rcases List.mem_cons.mp h with rfl | h
    · omega
    · have := sum_ge h
      omega
theorem parts_le {z p : Str} (h : p ∈ partsOf z) : p.length ≤ z.length := by
  have a := parts_weight z
  have b := sum_ge h
  have c : 1 ≤ (partsOf z).length := PyProof.Rows.split_pos _ _
  omega
theorem parts_few (z : Str) : (partsOf z).length ≤ z.length + 1 := by
  have a := parts_weight z
  omega
end Ya
/-! Own ground: what a text of pieces tells; walks within walks. -/
namespace Ye
open PySem PySem.Spec PyProof.Rows L2 Ya
abbrev lO : Str := "oO"
abbrev lS : Str := "oO."
abbrev lT : Str := "oO. \n"
def isO (c : Nat) : Bool := decide (c ∈ sg lO)
def isS (c : Nat) : Bool := decide (c ∈ sg lS)
def isT (c : Nat) : Bool := decide (c ∈ sg lT)
theorem isT_iff (c : Nat) : isT c = true ↔ isS c = true ∨ c = 32 ∨ c = 10 := by
  have e1 : sg lT = [111, 79, 46, 32, 10] := by decide +kernel
  have e2 : sg lS = [111, 79, 46] := by decide +kernel
  simp only [isT, isS, e1, e2, decide_eq_true_eq, List.mem_cons, List.not_mem_nil, or_false]
  omega
theorem isS_ne {c : Nat} (h : isS c = true) : c ≠ 32 ∧ c ≠ 10 := by
  have e2 : sg lS = [111, 79, 46] := by decide +kernel
  simp only [isS, e2, decide_eq_true_eq, List.mem_cons, List.not_mem_nil, or_false] at h
  omega
/-- the numbers below n at which f holds -/
def pcN (f : Nat → Bool) : Nat → List Int
  | 0 => []
  | n + 1 => pcN f n ++ (if f n then [(n : Int)] else [])
theorem pcN_congr {f g : Nat → Bool} : ∀ {n : Nat}, (∀ k, k < n → f k = g k) → pcN f n = pcN g n
  | 0, _ => rfl
  | n + 1, h => by
    show pcN f n ++ _ = pcN g n ++ _
    rw [pcN_congr fun k hk => h k (by omega), h n (by omega)]
theorem pcN_len (f : Nat → Bool) : ∀ n, (pcN f n).length ≤ n
  | 0 => Nat.le_refl 0
  | n + 1 => by
    have := pcN_len f n
    show (pcN f n ++ _).length ≤ n + 1
    rw [List.length_append]
    split <;> simp <;> omega
theorem pcN_mem (f : Nat → Bool) : ∀ n, ∀ z ∈ pcN f n, 0 ≤ z ∧ z < n
  | 0, z, h => nomatch h
  | n + 1, z, h => by
    rcases List.mem_append.mp h with h | h
    · have := pcN_mem f n z h
      omega
    · split at h
      · have : z = n := by simpa using h
        omega
      · cases h
/-- at place k of w stands a watcher's sign -/
def at_ (w : List Nat) (k : Nat) : Bool := (w[k]?).any isO
def piece (pl : Nat) (w : List Nat) (i : Nat) : List Int := pcN (fun k => at_ w (i + k)) pl
def runU (pl : Nat) (w : List Nat) : Nat → List (List Int)
  | 0 => []
  | i + 1 => runU pl w i ++ [piece pl w (i * pl)]
def runP (pl : Nat) (w : Str) : List (List Int) := runU pl (sg w) (w.length / pl)
def okW (pl : Nat) (w : Str) : Bool := decide (w.length % pl = 0) && (sg w).all isS
def allP (pl : Nat) (ws : List Str) : List (List Int) := ws.flatMap (runP pl)
def dueOf (z : Str) (pl : Nat) : Option (List (List Int)) := if wdsOf z ≠ [] ∧ ∀ w ∈ wdsOf z, okW pl w = true then some (allP pl (wdsOf z)) else none
theorem runU_len (pl : Nat) (w : List Nat) : ∀ n, (runU pl w n).length = n
  | 0 => rfl
  | n + 1 => by
    show (runU pl w n ++ _).length = _
    rw [List.length_append, runU_len pl w n]
    rfl
theorem runU_brief (pl : Nat) (w : List Nat) : ∀ n, ∀ l ∈ runU pl w n, l.length ≤ pl ∧ ∀ z ∈ l, 0 ≤ z ∧ z < pl
  | 0, l, h => nomatch h
  | n + 1, l, h => by
    rcases List.mem_append.mp h with h | h
    · exact runU_brief pl w n l h
    · obtain rfl : l = piece pl w (n * pl) := by simpa using h
      exact ⟨pcN_len _ _, pcN_mem _ _⟩
theorem allP_brief (pl : Nat) (ws : List Str) : ∀ l ∈ allP pl ws, l.length ≤ pl ∧ ∀ z ∈ l, 0 ≤ z ∧ z < pl := fun l h => by
  obtain ⟨w, _, h⟩ := List.mem_flatMap.mp h
  exact runU_brief pl _ _ l h
theorem allP_len (pl : Nat) (hp : 1 ≤ pl) : ∀ ws : List Str, (allP pl ws).length ≤ (ws.map fun w => w.length).sum
  | [] => Nat.zero_le _
  | w :: ws => by
    have := allP_len pl hp ws
    show (runP pl w ++ allP pl ws).length ≤ ((w :: ws).map fun w => w.length).sum
    rw [List.map_cons, List.sum_cons]
    rw [List.length_append, runP, runU_len]
    have h2 : w.length / pl ≤ w.length := Nat.div_le_self _ _
    show _ ≤ w.length + (ws.map fun w => w.length).sum
    omega
theorem filter_sum (p : Str → Bool) : ∀ ws : List Str, ((ws.filter p).map fun w => w.length).sum ≤ (ws.map fun w => w.length).sum
  | [] => Nat.le_refl _
  | w :: ws => by
    have := filter_sum p ws
    rw [List.filter_cons]
    split <;> simp only [List.map_cons, List.sum_cons] <;> omega
theorem words_len (z : Str) (pl : Nat) (hp : 1 ≤ pl) : (allP pl (wdsOf z)).length ≤ z.length := by
  have h1 := allP_len pl hp (wdsOf z)
  have h2 := filter_sum full (partsOf z)
  have h3 := parts_weight z
  have h4 : 1 ≤ (partsOf z).length := PyProof.Rows.split_pos _ _
  have h1' : (allP pl (wdsOf z)).length ≤ (((partsOf z).filter full).map fun w => w.length).sum := h1
  omega
/-- a bad sign: nothing is told -/
theorem due_bad {z : Str} {pl : Nat} {c : Nat} (hc : c ∈ sg z) (hb : isT c = false) : dueOf z pl = none := by
  unfold dueOf
  rw [if_neg]
  rintro ⟨_, h⟩
  have nt : ¬ (isS c = true ∨ c = 32 ∨ c = 10) := fun q => by
    rw [(isT_iff c).mpr q] at hb
    cases hb
  rcases mem_words hc with q | q | ⟨w, hw, q⟩
  · exact nt (.inr (.inr q))
  · exact nt (.inr (.inl q))
  · have := h w hw
    simp only [okW, Bool.and_eq_true, List.all_eq_true] at this
    exact nt (.inl (this.2 c q))
theorem okW_good {z : Str} {pl : Nat} (hz : ∀ c ∈ sg z, isT c = true) {w : Str} (hw : w ∈ wdsOf z) : okW pl w = decide (w.length % pl = 0) := by
  have : (sg w).all isS = true := List.all_eq_true.mpr fun c hc => by
    obtain ⟨n1, n2, m⟩ := words_mem hw hc
    rcases (isT_iff c).mp (hz c m) with q | q | q
    · exact q
    · exact absurd q n2
    · exact absurd q n1
  rw [okW, this, Bool.and_true]
/-- walks within walks -/
theorem in_it {J : It} {n : Nat} {Y : Nat → Hp → V → Hp → Prop} {G : Hp → Prop} (WJ : Walk J n G Y) {B : V → Hp → (Hp → Prop) → Prop} {H0 : Hp} {Nx : Hp → Prop} (Pv : Nat → Hp → Prop) (h0 : Pv 0 H0) (hg : ∀ i H, i ≤ n → Pv i H → G H)
    (step : ∀ i x H H', i < n → Pv i H → Y i H x H' → B x H' (Pv (i + 1))) (fin : ∀ H, Pv n H → Nx H) :
    ∃ W : Nat → Nat → Hp → Prop, (∃ m, W 0 m H0) ∧ ∀ i m H, W i m H → (J.stop i H ∧ Nx H) ∨ (J.go i H ∧ ∃ N : Hp → Prop, (∀ H', N H' → ∃ m', m' < m ∧ W (i + 1) m' H') ∧ ∀ x H', J.yld i H x H' → B x H' N) := by
  refine ⟨fun i m H => m = n - i ∧ i ≤ n ∧ Pv i H, ⟨n, by omega, Nat.zero_le _, h0⟩, ?_⟩
  rintro i m H ⟨rfl, hi, p⟩
  by_cases c : i < n
  · exact .inr ⟨WJ.goes i H c (hg i H hi p), Pv (i + 1), fun H' p' => ⟨n - (i + 1), by omega, rfl, by omega, p'⟩, fun x H' y => step i x H H' c p (WJ.yields i H x H' c (hg i H hi p) y)⟩
  · have e : i = n := by omega
    subst e
    exact .inl ⟨WJ.stops H (hg _ _ hi p), fin H p⟩
end Ye
/-! Own ground: lists of new lists that are lengthened. -/
namespace Yf
open PySem PySem.Spec PyProof.Rows L2 Xa Xr Xl Xk Xq Ya Ye
/-- the lists of ks are new since H0, and apart -/
def New (H0 : Hp) (D : Addr) (ks : List (Addr × List Int)) : Prop := (∀ q ∈ ks, H0 q.1 = none ∧ q.1 ≠ D) ∧ (ks.map (·.1)).Nodup
theorem New.nil {H0 : Hp} {D : Addr} : New H0 D [] := ⟨fun q (h : q ∈ []) => (nomatch h), List.nodup_nil⟩
theorem ll_more {H0 H H3 : Hp} {D a : Addr} {l : List Int} {ks : List (Addr × List Int)} (L : LL H D ks) (N : New H0 D ks) (s0 : ∀ c o, H0 c = some o → c ≠ D → H c = some o) (sm : Same H H3) (na : H a = none) (ha : H3 a = some (.lst (l.map V.int))) :
    H3 D = some (.lst (ks.map fun q => V.ref q.1)) ∧ LL (upd H3 D (.lst ((ks.map fun q => V.ref q.1) ++ [.ref a]))) D (ks ++ [(a, l)]) ∧ New H0 D (ks ++ [(a, l)]) := by
  obtain ⟨hd, hl⟩ := L
  have aD : a ≠ D := fun z => by
    rw [z, hd] at na
    cases na
  refine ⟨sm _ _ hd, ⟨?_, ?_⟩, ?_, ?_⟩
  · rw [upd_same, List.map_append]
    rfl
  · intro q hq
    rcases List.mem_append.mp hq with hq | hq
    · rw [upd_ne (N.1 q hq).2]
      exact sm _ _ (hl q hq)
    · rw [List.mem_singleton.mp hq, upd_ne aD]
      exact ha
  · intro q hq
    rcases List.mem_append.mp hq with hq | hq
    · exact N.1 q hq
    · rw [List.mem_singleton.mp hq]
      refine ⟨?_, aD⟩
      cases e : H0 a with
      | none => rfl
      | some o =>
        rw [s0 a o e aD] at na
        cases na
  · rw [List.map_append, List.nodup_append]
    refine ⟨N.2, List.nodup_cons.mpr ⟨List.not_mem_nil, List.nodup_nil⟩, ?_⟩
    intro x hx y hy e
    obtain rfl : y = a := by simpa using hy
    obtain ⟨q, hq, rfl⟩ := List.mem_map.mp hx
    have := hl q hq
    rw [e, na] at this
    cases this
theorem ll_add {H0 H3 : Hp} {D a : Addr} {l : List Int} {ks : List (Addr × List Int)} (L : LL H3 D ks) (N : New H0 D ks) (n0 : H0 a = none) (aD : a ≠ D) (ak : ∀ q ∈ ks, q.1 ≠ a) (ha : H3 a = some (.lst (l.map V.int))) :
    LL (upd H3 D (.lst ((ks.map fun q => V.ref q.1) ++ [.ref a]))) D (ks ++ [(a, l)]) ∧ New H0 D (ks ++ [(a, l)]) := by
  obtain ⟨hd, hl⟩ := L
  refine ⟨⟨?_, ?_⟩, ?_, ?_⟩
  · rw [upd_same, List.map_append]
    rfl
  · intro q hq
    rcases List.mem_append.mp hq with hq | hq
    · rw [upd_ne (N.1 q hq).2]
      exact hl q hq
    · rw [List.mem_singleton.mp hq, upd_ne aD]
      exact ha
  · intro q hq
    rcases List.mem_append.mp hq with hq | hq
    · exact N.1 q hq
    · rw [List.mem_singleton.mp hq]
      exact ⟨n0, aD⟩
  · rw [List.map_append, List.nodup_append]
    refine ⟨N.2, List.nodup_cons.mpr ⟨List.not_mem_nil, List.nodup_nil⟩, ?_⟩
    intro x hx y hy e
    obtain rfl : y = a := by simpa using hy
    obtain ⟨q, hq, rfl⟩ := List.mem_map.mp hx
    exact ak q hq e
theorem allP_app (pl : Nat) (xs ys : List Str) : allP pl (xs ++ ys) = allP pl xs ++ allP pl ys := List.flatMap_append
theorem allP_take_len (pl i : Nat) (ws : List Str) : (allP pl (ws.take i)).length ≤ (allP pl ws).length := by
  have : allP pl ws = allP pl (ws.take i) ++ allP pl (ws.drop i) := by rw [← allP_app, List.take_append_drop]
  rw [this, List.length_append]
  omega
theorem allP_take (pl : Nat) {i : Nat} {ws : List Str} {w : Str} (h : ws[i]? = some w) : allP pl (ws.take (i + 1)) = allP pl (ws.take i) ++ runP pl w := by
  rw [List.take_add_one, h]
  show allP pl (ws.take i ++ [w]) = _
  rw [allP_app]
  show _ ++ (runP pl w ++ []) = _
  rw [List.append_nil]
/-- a piece of a slice -/
theorem slice_piece {w : Str} {i pl : Nat} (h : i + pl ≤ w.length) : (Txt.slice w (some (i : Int)) (some ((i : Int) + (pl : Int)))).length = pl ∧ pcN (at_ (sg (Txt.slice w (some (i : Int)) (some ((i : Int) + (pl : Int)))))) pl = piece pl (sg w) i := by
  have e0 : (i : Int) + (pl : Int) = ((i + pl : Nat) : Int) := by omega
  have e : sg (Txt.slice w (some (i : Int)) (some ((i : Int) + (pl : Int)))) = (w.cps.toList.drop i).take pl := by
    rw [e0]
    have := PyProof.Rows.slice_closesL (x := w) (i := i) (j := (i + pl : Nat)) (by omega) (by omega) (by show ((i + pl : Nat) : Int) ≤ (w.length : Int); omega)
    have e2 := eq_of_beq this
    rw [e2]
    show (List.toArray _).toList = _
    rw [List.toList_toArray]
    congr 1
    · omega
  constructor
  · show (Txt.slice w _ _).cps.size = pl
    rw [← Array.length_toList]
    show (sg _).length = pl
    rw [e, List.length_take, List.length_drop]
    have : w.cps.toList.length = w.length := Array.length_toList
    omega
  · refine pcN_congr fun k hk => ?_
    show ((sg _)[k]?).any isO = ((sg w)[i + k]?).any isO
    rw [e, List.getElem?_take_of_lt hk, List.getElem?_drop]
end Yf
/-! Own ground: texts of bounded length. -/
namespace Yh
open PySem PySem.Spec PyProof.Rows L2 Ya
def Tx (n : Nat) (z : Str) : Prop := z.length ≤ n ∧ PyData.strOk z = true
theorem ok_iff {z : Str} : PyData.strOk z = true ↔ ∀ c ∈ sg z, c < 1114112 := by
  constructor
  · intro h c hc
    have h2 : ∀ (i : Nat) (x : i < z.cps.size), z.cps[i] < 1114112 := by simpa [PyData.strOk] using h
    obtain ⟨i, hi, e⟩ := Array.getElem_of_mem (Array.mem_toList_iff.mp hc)
    have := h2 i hi
    rw [e] at this
    exact this
  · intro h
    have : ∀ (i : Nat) (x : i < z.cps.size), z.cps[i] < 1114112 := fun i hi => h _ (Array.mem_toList_iff.mpr (Array.getElem_mem hi))
    simpa [PyData.strOk] using this
theorem Tx.up {m n : Nat} {z : Str} (h : Tx m z) (e : m ≤ n) : Tx n z := ⟨Nat.le_trans h.1 e, h.2⟩
theorem len_sg (z : Str) : (sg z).length = z.length := Array.length_toList
theorem tx_app {m n : Nat} {x y : Str} (a : Tx m x) (b : Tx n y) : Tx (m + n) (x ++ y) := by
  constructor
  · rw [← len_sg, sg_append, List.length_append, len_sg, len_sg]
    exact Nat.add_le_add a.1 b.1
  · refine ok_iff.mpr fun c hc => ?_
    rw [sg_append] at hc
    rcases List.mem_append.mp hc with hc | hc
    · exact ok_iff.mp a.2 c hc
    · exact ok_iff.mp b.2 c hc
theorem tx_sub {m : Nat} {x y : Str} (a : Tx m x) (h : y.length ≤ x.length) (s : ∀ c ∈ y.cps.toList, c ∈ x.cps.toList) : Tx m y :=
  ⟨Nat.le_trans h a.1, ok_iff.mpr fun c hc => ok_iff.mp a.2 c (s c hc)⟩
theorem tx_slice {m : Nat} {x : Str} (a : Tx m x) (lo hi : Option Int) : Tx m (Txt.slice x lo hi) := by
  unfold Txt.slice
  split
  · exact a
  · refine tx_sub a ?_ fun c hc => ?_
    · show (List.toArray _).size ≤ _
      rw [List.size_toArray]
      exact Nat.le_trans (List.length_filterMap_le _ _) (PyProof.Rows.indices_len_le _ _ _)
    · have hc : c ∈ (Builtin.Str.strSliceIndices lo hi 1 x.length).filterMap fun i => x.cps[i]? := hc
      obtain ⟨i, _, e⟩ := List.mem_filterMap.mp hc
      exact Array.mem_toList_iff.mpr (Array.mem_of_getElem? e)
theorem tx_fit {m n : Nat} {x y : Str} (a : Tx m x) (b : Tx n y) (h : m + n ≤ 16777216 := by decide) : x.length + y.length ≤ sizeLine := by
  rw [sizeLine_eq]
  have := a.1
  have := b.1
  omega
theorem tx_line {m : Nat} {x : Str} (a : Tx m x) (h : m ≤ 16777216 := by decide) : x.length ≤ sizeLine := by
  rw [sizeLine_eq]
  exact Nat.le_trans a.1 h
def AllS (n : Nat) (vs : List V) : Prop := ∀ v ∈ vs, ∃ y, v = V.str y ∧ Tx n y
theorem as_nil {n : Nat} : AllS n [] := fun v h => nomatch h
theorem as_cons {m n : Nat} {y : Str} {vs : List V} (t : Tx m y) (h : AllS n vs) (e : m ≤ n := by decide) : AllS n (.str y :: vs) := fun v hv => by
  rcases List.mem_cons.mp hv with rfl | hv
  · exact ⟨y, rfl, t.up e⟩
  · exact h v hv
theorem as_app {n : Nat} {vs ws : List V} (a : AllS n vs) (b : AllS n ws) : AllS n (vs ++ ws) := fun v hv => (List.mem_append.mp hv).elim (a v) (b v)
theorem pickS {n : Nat} {vs : List V} (h : AllS n vs) {k : Nat} (hk : k < vs.length) : ∃ s, atI vs (k : Int) = some (V.str s) ∧ Tx n s := by
  obtain ⟨y, e, t⟩ := h vs[k] (List.getElem_mem hk)
  exact ⟨y, atI_nat (by rw [List.getElem?_eq_getElem hk, e]), t⟩
theorem tx_join {n : Nat} {g : Str} {ps : List Str} (tg : Tx 1 g) (h : ∀ p ∈ ps, Tx n p) : Tx ((n + 1) * ps.length) (Txt.join g ps) := by
  have e : Txt.join g ps = Str.join g ps := StrLaws.glued_eq_join g ps
  rw [e]
  constructor
  · have a := len_join g ps
    rw [← len_sg]
    have sum : (ps.map fun p => (sg p).length).sum ≤ n * ps.length := by
      clear a e
      induction ps with
      | nil => exact Nat.zero_le _
      | cons p ps ih =>
        have := ih fun q hq => h q (List.mem_cons_of_mem _ hq)
        have hp := (h p List.mem_cons_self).1
        rw [← len_sg] at hp
        rw [List.map_cons, List.sum_cons, List.length_cons, Nat.mul_add]
        omega
    have g1 : (sg g).length ≤ 1 := by rw [len_sg]; exact tg.1
    have gl : ps.length * (sg g).length ≤ ps.length * 1 := Nat.mul_le_mul_left _ g1
    rw [Nat.add_mul, Nat.one_mul]
    split at a <;> omega
  · refine ok_iff.mpr fun c hc => ?_
    rcases mem_join hc with hc | ⟨p, hp, hc⟩
    · exact ok_iff.mp tg.2 c hc
    · exact ok_iff.mp (h p hp).2 c hc
theorem join_fit {n : Nat} {g : Str} {ps : List Str} (tg : Tx 1 g) (h : ∀ p ∈ ps, Tx n p) (e : (n + 1) * ps.length ≤ 16777216) : (ps.map (·.length)).sum + ps.length * g.length ≤ 16777216 := by
  have sum : (ps.map (·.length)).sum ≤ n * ps.length := by
    clear e
    induction ps with
    | nil => exact Nat.zero_le _
    | cons p ps ih =>
      have := ih fun q hq => h q (List.mem_cons_of_mem _ hq)
      have hp := (h p List.mem_cons_self).1
      rw [List.map_cons, List.sum_cons, List.length_cons, Nat.mul_add]
      omega
  have gl : ps.length * g.length ≤ ps.length * 1 := Nat.mul_le_mul_left _ tg.1
  rw [Nat.add_mul, Nat.one_mul] at e
  omega
def rJn (K : PySem.W.Frag) : V → List V → Hp → VK → Prop := fun x xs H Q => ∃ a p, ∃ ys : List Str, x = .str a ∧ xs = [.ref p] ∧ (SqL K H p (ys.map V.str) ∨ SqT K H p (ys.map V.str)) ∧ (ys.map (·.length)).sum + ys.length * a.length ≤ 16777216 ∧ Q (.str (Txt.join a ys)) H
/-- join, its reading told without the block's own context -/
theorem pe_jn {X : Cx} {K : PySem.W.Frag} {o e : Expr} {to te : TE} {apos pos : Pos} (hK : X.K = K) (ho : PE X o to) (he : PE X e te) (hs : starEach [e] X.env = [(false, eval e X.env)] := by rfl) (hb : attributeBase o "join" X.env (eval o X.env) = eval o X.env := by rfl) (hl : (apos.endLine == pos.line) = true := by rfl) :
    PE X (.Call (.Attribute o "join" apos) [e] [] pos) (tM1 (rJn K) to te) := by
  subst hK
  exact pe_join ho he hs hb hl
end Yh
/-! Own ground: what repr shows is made of signs. -/
namespace Xu
open PySem PySem.Spec PyProof.Rows L2 Xa Xb Xc Xp Xr Xl Xk Xt Xq Ya Yh
theorem ofStr_ok (s : String) : PyData.strOk (Str.ofString s) = true := by
  refine ok_iff.mpr fun c hc => ?_
  have hc : c ∈ (Str.ofString s).cps.toList := hc
  rw [Str.ofString_eq_toList] at hc
  obtain ⟨x, _, rfl⟩ := List.mem_map.mp hc
  have h := x.valid
  show x.val.toNat < 1114112
  rcases h with h | ⟨_, h⟩
  · have : x.val.toNat < 55296 := h
    omega
  · have : x.val.toNat < 1114112 := h
    omega
theorem app_ok {x y : Str} (a : PyData.strOk x = true) (b : PyData.strOk y = true) : PyData.strOk (x ++ y) = true := (tx_app (m := x.length) (n := y.length) ⟨Nat.le_refl _, a⟩ ⟨Nat.le_refl _, b⟩).2
theorem textFrom_ok : ∀ (ts : List Str) (i : Nat) (z : Str), PyData.strOk z = true → (∀ t ∈ ts, PyData.strOk t = true) → PyData.strOk (textFrom i z ts) = true
  | [], _, _, h, _ => h
  | t :: ts, i, z, h, a => by
    unfold textFrom
    refine textFrom_ok ts _ _ (app_ok (app_ok h ?_) (a t List.mem_cons_self)) fun q hq => a q (List.mem_cons_of_mem _ hq)
    split <;> exact ofStr_ok _
theorem strJoin_ok {g : Str} (hg : PyData.strOk g = true) : ∀ (ts : List Str), (∀ t ∈ ts, PyData.strOk t = true) → PyData.strOk (Str.join g ts) = true
  | [], _ => by simp [Str.join]; exact ok_iff.mpr fun c hc => nomatch hc
  | [t], a => by simpa [Str.join] using a t List.mem_cons_self
  | t :: u :: ts, a => by
    rw [Str.join]
    exact app_ok (app_ok (a t List.mem_cons_self) hg) (strJoin_ok hg (u :: ts) fun q hq => a q (List.mem_cons_of_mem _ hq))
    simp
mutual
def shOk : PyData → Bool
  | .none => true
  | .bool _ => true
  | .int _ => true
  | .str x => PyData.strOk (reprText x)
  | .list xs => shAll xs
  | .tuple xs => shAll xs
  | .dict _ => false
def shAll : List PyData → Bool
  | [] => true
  | x :: xs => shOk x && shAll xs
end
mutual
theorem shown_ok : ∀ d : PyData, shOk d = true → PyData.strOk d.shown = true
  | .none, _ => by simp only [PyData.shown]; exact ofStr_ok _
  | .bool b, _ => by cases b <;> exact ofStr_ok _
  | .int i, _ => by simp only [PyData.shown]; exact ofStr_ok _
  | .str x, h => by simp only [PyData.shown]; exact h
  | .list xs, h => by
    have q := shAll_ok xs h
    simp only [PyData.shown]
    exact app_ok (textFrom_ok _ _ _ (ofStr_ok _) q) (ofStr_ok _)
  | .tuple xs, h => by
    have q := shAll_ok xs h
    simp only [PyData.shown]
    exact app_ok (app_ok (ofStr_ok _) (strJoin_ok (ofStr_ok _) _ q)) (ofStr_ok _)
  | .dict _, h => nomatch h
theorem shAll_ok : ∀ ds : List PyData, shAll ds = true → ∀ t ∈ PyData.shownAll ds, PyData.strOk t = true
  | [], _, t, ht => by simp [PyData.shownAll] at ht
  | x :: xs, h, t, ht => by
    simp only [shAll, Bool.and_eq_true] at h
    simp only [PyData.shownAll] at ht
    rcases List.mem_cons.mp ht with rfl | ht
    · exact shown_ok x h.1
    · exact shAll_ok xs h.2 t ht
end
/-- one that may stand in a list that is shown -/
def good1 (d : PyData) : Bool := d.showable && PyData.leavesShort 32 d && decide (d.depth ≤ 5) && decide (d.weight ≤ 400) && shOk d && !d.hasDict
theorem all_showable : ∀ ds : List PyData, (∀ d ∈ ds, good1 d = true) → PyData.showableAll ds = true ∧ PyData.leavesShortAll 32 ds = true ∧ PyData.depthAll ds ≤ 5 ∧ PyData.weightAll ds ≤ 401 * ds.length ∧ shAll ds = true ∧ PyData.hasDictAll ds = false
  | [], _ => by simp [PyData.showableAll, PyData.leavesShortAll, PyData.depthAll, PyData.weightAll, shAll, PyData.hasDictAll]
  | x :: xs, h => by
    have q := all_showable xs fun d hd => h d (List.mem_cons_of_mem _ hd)
    have r := h x List.mem_cons_self
    simp only [good1, Bool.and_eq_true, decide_eq_true_eq, Bool.not_eq_true'] at r
    obtain ⟨⟨⟨⟨⟨r1, r2⟩, r3⟩, r4⟩, r5⟩, r6⟩ := r
    obtain ⟨q1, q2, q3, q4, q5, q6⟩ := q
    refine ⟨by simp [PyData.showableAll, r1, q1], by simp [PyData.leavesShortAll, r2, q2], ?_, ?_, by simp [shAll, r5, q5], by simp [PyData.hasDictAll, r6, q6]⟩
    · simp only [PyData.depthAll]
      omega
    · simp only [PyData.weightAll, List.length_cons]
      omega
theorem okD_list (ds : List PyData) (h : ∀ d ∈ ds, good1 d = true) (n : ds.length ≤ 1000) : okD (.list ds) = true := by
  obtain ⟨q1, q2, q3, q4, q5, q6⟩ := all_showable ds h
  have a := PyData.shown_le 32 (by decide) (.list ds) (by simpa [PyData.leavesShort] using q2)
  have b : (PyData.list ds).weight ≤ 401 * 1000 + 100 := by simp only [PyData.weight]; omega
  have c : (PyData.list ds).shown.length ≤ sizeLine := by
    have d : (32 + 2) * (PyData.list ds).weight ≤ 34 * (401 * 1000 + 100) := Nat.mul_le_mul (Nat.le_refl _) b
    rw [sizeLine_eq]
    omega
  have e : PyData.strOk (PyData.list ds).shown = true := shown_ok _ (by simpa [shOk] using q5)
  have f : (PyData.list ds).depth ≤ 60 := by simp only [PyData.depth]; omega
  have g : (PyData.list ds).hasDict = false := by simpa [PyData.hasDict] using q6
  have k : (PyData.list ds).showable = true := by simpa [PyData.showable] using q1
  simp [okD, e, f, g, k, c]
theorem okD_tuple (ds : List PyData) (h : ∀ d ∈ ds, good1 d = true) (n : ds.length ≤ 1000) : okD (.tuple ds) = true := by
  obtain ⟨q1, q2, q3, q4, q5, q6⟩ := all_showable ds h
  have a := PyData.shown_le 32 (by decide) (.tuple ds) (by simpa [PyData.leavesShort] using q2)
  have b : (PyData.tuple ds).weight ≤ 401 * 1000 + 100 := by simp only [PyData.weight]; omega
  have c : (PyData.tuple ds).shown.length ≤ sizeLine := by
    have d : (32 + 2) * (PyData.tuple ds).weight ≤ 34 * (401 * 1000 + 100) := Nat.mul_le_mul (Nat.le_refl _) b
    rw [sizeLine_eq]
    omega
  have e : PyData.strOk (PyData.tuple ds).shown = true := shown_ok _ (by simpa [shOk] using q5)
  have f : (PyData.tuple ds).depth ≤ 60 := by simp only [PyData.depth]; omega
  have g : (PyData.tuple ds).hasDict = false := by simpa [PyData.hasDict] using q6
  have k : (PyData.tuple ds).showable = true := by simpa [PyData.showable] using q1
  simp [okD, e, f, g, k, c]
theorem good_lst (l : List Int) (n : l.length ≤ 3) (h : ∀ z ∈ l, z.natAbs < 10 ^ 30) : good1 (lstD l) = true := by
  have h1 := ints_showable l h
  have h2 := ints_short l h
  have h3 := ints_weight l h
  have h4 := ints_depth l
  have h5 : ∀ l : List Int, shAll (l.map .int) = true ∧ PyData.hasDictAll (l.map .int) = false := by
    intro l
    induction l with
    | nil => simp [shAll, PyData.hasDictAll]
    | cons x xs ih => simp [shAll, PyData.hasDictAll, shOk, PyData.hasDict, ih]
  have h6 : (lstD l).weight ≤ 400 := by simp only [lstD, PyData.weight]; omega
  have h7 : (lstD l).depth ≤ 5 := by simp only [lstD, PyData.depth]; omega
  simp [good1, h6, h7]
  simp [lstD, PyData.showable, PyData.leavesShort, shOk, PyData.hasDict, h1, h2, h5 l]
end Xu
/-! Own ground, part YQ: a written list gone through, each of whose lists may be lengthened, more than once. -/
namespace Yq
open PySem PySem.Spec PyProof.Rows L2 Xa Xb Xc Xp Xr Xl Xk Xq Xt Xu
abbrev NoO : Addr → Prop := fun _ => False
def moreD : PyData → PyData
  | .list es => .list (es ++ [.str "more"])
  | d => d
def badOk : PyData → Prop
  | .list es => es.length < 900 ∧ okD (.list (es ++ [.str "more"])) = true ∧ (PyData.list (es ++ [.str "more"])).hasDict = false
  | d => okD d = true ∧ kitB (kindD d) "list" = some false ∧ (d = .dict [] ∨ d.hasDict = false ∨ nol d = true)
mutual
/-- without lists in it, no list is named -/
theorem lu_dqn {H : Hp} {K : PySem.W.Frag} : ∀ {v : V} {d : PyData} {ls : List Addr}, Lu NoO H v d ls → nol d = true → Dq K H v d []
  | _, _, _, .non, _ => .non
  | _, _, _, .bl b, _ => .bl b
  | _, _, _, .int i, _ => .int i
  | _, _, _, .str z, _ => .str z
  | _, _, _, .lst h t, e => by simp [nol] at e
  | _, _, _, .tup h t, e => .tup (SqT.of h) (lus_dqn t (by simpa [nol] using e))
  | _, _, _, .dic h, _ => .dic (kvs := []) (ds := []) h .nil .nil
  | _, _, _, .old o h, _ => o.elim
theorem lus_dqn {H : Hp} {K : PySem.W.Frag} : ∀ {v : List V} {d : List PyData} {ls : List Addr}, Lus NoO H v d ls → nols d = true → Dqs K H v d []
  | _, _, _, .nil, _ => .nil
  | _, _, _, .cons h t, e => by
    have e2 := Bool.and_eq_true_iff.mp (by simpa [nols] using e)
    exact .cons (l1 := []) (lu_dqn h e2.1) (lus_dqn t e2.2)
end
theorem lu_repF {H : Hp} {K : PySem.W.Frag} {v : V} {d : PyData} {ls : List Addr} (t : Lu NoO H v d ls) (hd : d = .dict [] ∨ d.hasDict = false ∨ nol d = true) (e : okD d = true) : Rep K H v d.shown := by
  obtain ⟨_, e⟩ := He.ba e
  obtain ⟨e2, e⟩ := He.ba e
  obtain ⟨e3, e⟩ := He.ba e
  obtain ⟨e4, e5⟩ := He.ba e
  rcases hd with rfl | hd | hd
  · cases t with
    | dic h => exact ⟨.dict [], _, .dic (kvs := []) (ds := []) h .nil .nil, fun _ => List.not_mem_nil, e2, of_decide_eq_true e3, of_decide_eq_true e4, e5, rfl⟩
  · obtain ⟨ls', q⟩ := lu_dq (K := K) t
    exact ⟨d, ls', q, fun z => (by rw [hd] at z; cases z), e2, of_decide_eq_true e3, of_decide_eq_true e4, e5, rfl⟩
  · exact ⟨d, [], lu_dqn t hd, fun _ => List.not_mem_nil, e2, of_decide_eq_true e3, of_decide_eq_true e4, e5, rfl⟩
structure InvF (H0 : Hp) (L : Addr) (vs : List V) (ds : List PyData) (i : Nat) (H' : Hp) : Prop where
  same : Same H0 H'
  at_ : H' L = some (.lst vs)
  new : H0 L = none
  rest : ∃ ls, Lus NoO H' (vs.drop i) (ds.drop i) ls ∧ ls.Nodup ∧ L ∉ ls ∧ ∀ a ∈ ls, H0 a = none
/-- one is at hand -/
structure Cur (H0 : Hp) (L : Addr) (vs : List V) (ds : List PyData) (i : Nat) (x : V) (d : PyData) (H' : Hp) : Prop where
  same : Same H0 H'
  at_ : H' L = some (.lst vs)
  new : H0 L = none
  rest : ∃ l1 l2, Lu NoO H' x d l1 ∧ Lus NoO H' (vs.drop (i + 1)) (ds.drop (i + 1)) l2 ∧ (l1 ++ l2).Nodup ∧ L ∉ l1 ++ l2 ∧ ∀ a ∈ l1 ++ l2, H0 a = none
section
variable {H0 H' : Hp} {K : PySem.W.Frag} {L : Addr} {vs : List V} {ds : List PyData} {i : Nat} {x : V} {d : PyData}
theorem InvF.up (I : InvF H0 L vs ds i H') {H2 : Hp} (s : Same H' H2) : InvF H0 L vs ds i H2 :=
  let ⟨ls, t, n, l, f⟩ := I.rest
  ⟨I.same.trans s, s _ _ I.at_, I.new, ls, lus_same s t, n, l, f⟩
theorem Cur.up (I : Cur H0 L vs ds i x d H') {H2 : Hp} (s : Same H' H2) : Cur H0 L vs ds i x d H2 :=
  let ⟨l1, l2, t1, t2, n, l, f⟩ := I.rest
  ⟨I.same.trans s, s _ _ I.at_, I.new, l1, l2, lu_same s t1, lus_same s t2, n, l, f⟩
theorem Cur.close (I : Cur H0 L vs ds i x d H') : InvF H0 L vs ds (i + 1) H' :=
  let ⟨_, l2, _, t2, n, l, f⟩ := I.rest
  ⟨I.same, I.at_, I.new, l2, t2, (List.nodup_append.mp n).2.1, fun z => l (List.mem_append_right _ z), fun a z => f a (List.mem_append_right _ z)⟩
theorem InvF.first (I : InvF H0 L vs ds i H') (hx : vs[i]? = some x) : ∃ d, ds[i]? = some d ∧ Cur H0 L vs ds i x d H' := by
  obtain ⟨ls, t, nd, nl, fr⟩ := I.rest
  obtain ⟨il, rfl⟩ := List.getElem?_eq_some_iff.mp hx
  rw [List.drop_eq_getElem_cons il] at t
  have dl : i < ds.length := by
    have := lus_len t
    rw [List.length_cons, List.length_drop, List.length_drop] at this
    omega
  rw [List.drop_eq_getElem_cons dl] at t
  generalize hd : ds[i] = d at t
  generalize hv : vs[i] = v at t
  cases t with
  | @cons _ _ _ _ l1 l2 h t => exact ⟨d, by rw [List.getElem?_eq_getElem dl, hd], I.same, I.at_, I.new, l1, l2, h, t, nd, nl, fr⟩
theorem Cur.lu (I : Cur H0 L vs ds i x d H') : ∃ l, Lu NoO H' x d l := let ⟨l1, _, t, _⟩ := I.rest; ⟨l1, t⟩
/-- told by one who lengthens lists -/
theorem Cur.res (I : Cur H0 L vs ds i x d H') (ok : badOk d) : ∃ t H2, Res K H' x t H2 ∧ Cur H0 L vs ds i x (moreD d) H2 := by
  obtain ⟨l1, l2, h, t, nd, nl, fr⟩ := I.rest
  have other : okD d = true ∧ kitB (kindD d) "list" = some false ∧ (d = .dict [] ∨ d.hasDict = false ∨ nol d = true) → moreD d = d → ∃ t H2, Res K H' x t H2 ∧ Cur H0 L vs ds i x (moreD d) H2 := fun ⟨o1, o2, o3⟩ e =>
    ⟨_, _, .other (lu_isk h o2) (lu_repF h o3 o1), by rw [e]; exact ⟨I.same, I.at_, I.new, l1, l2, h, t, nd, nl, fr⟩⟩
  cases h with
  | non => exact other ok rfl
  | bl b => exact other ok rfl
  | int i => exact other ok rfl
  | str z => exact other ok rfl
  | tup h t => exact other ok rfl
  | dic h => exact other ok rfl
  | old o h => exact o.elim
  | @lst a xs es le h te =>
    obtain ⟨o1, o2, o3⟩ := ok
    have na : H0 a = none := fr a (List.mem_append_left _ List.mem_cons_self)
    have ev : ∀ c o, H' c = some o → c ≠ a → (upd H' a (.lst (xs ++ [.str "more"]))) c = some o := fun c o e n => by rw [upd_ne n]; exact e
    have nd2 : (a :: (le ++ l2)).Nodup := nd
    obtain ⟨m1, m2⟩ := List.nodup_cons.mp nd2
    have te2 := lus_app (lus_but ev ⟨_, h⟩ (fun z : NoO a => z) te fun z => m1 (List.mem_append_left _ z)) (.cons (.str "more") .nil)
    rw [List.append_nil] at te2
    have lu2 : Lu NoO (upd H' a (.lst (xs ++ [.str "more"]))) (.ref a) (.list (es ++ [.str "more"])) (a :: le) := .lst upd_same (by simpa using te2)
    refine ⟨_, _, .list h (by rw [lus_len te]; exact o1) (lu_repF lu2 (.inr (.inl o3)) o2), fun c o e => ?_, ?_, I.new, a :: le, l2, lu2, ?_, nd, nl, fr⟩
    · exact ev c o (I.same _ _ e) (ne_of_none e na)
    · exact ev L _ I.at_ fun z => nl (by rw [z]; exact List.mem_append_left _ List.mem_cons_self)
    · exact lus_but ev ⟨_, h⟩ (fun z : NoO a => z) t fun z => m1 (List.mem_append_right _ z)
end
end Yq
/-! What is no item. -/
namespace Kx
open PySem PySem.Spec PyProof.Rows L2 Xa Xb Xc Xd Xs Xp Xm Xr Xl Xt Xu Yl Ym Yn Yo Yp Yq
abbrev sBad : Stmt := top 23
section
variable {X : Cx} {S : L2.St → Hp → Prop} {O : Addr → Prop} {e : Expr} {pl : Int} {pos : Pos}
/-- the number of places -/
def Pl (S : L2.St → Hp → Prop) (pl : Int) : Prop := ∀ σ H, S σ H → σ[0]? = some (some (.int pl))
theorem lu_pl (hp : Pl S pl) (h : PE X e (tVar 0)) : PE X e (tLu S O (.int pl)) := pe_of (fun σ H Q q => ⟨_, hp σ H q.1, q.2 (.int pl) H [] (Same.refl H) (.int pl) List.nodup_nil (fun _ z => nomatch z) fun _ z => nomatch z⟩) h
theorem lu_pl1 (hp : Pl S pl) (h : PE X e (tOp (rI0 fun i j => V.int (i - j)) (tC (.int 4)) (tVar 0))) : PE X e (tLu S O (.int (4 - pl))) := pe_of (fun σ H Q q => ⟨_, hp σ H q.1, _, _, rfl, rfl, q.2 (.int (4 - pl)) H [] (Same.refl H) (.int _) List.nodup_nil (fun _ z => nomatch z) fun _ z => nomatch z⟩) h
theorem lu_pl2 (hp : Pl S pl) (h : PE X e (tOp (rI0 fun i j => V.int (i - j)) (tVar 0) (tC (.int 4)))) : PE X e (tLu S O (.int (pl - 4))) := pe_of (fun σ H Q q => ⟨_, hp σ H q.1, _, _, rfl, rfl, q.2 (.int (pl - 4)) H [] (Same.refl H) (.int _) List.nodup_nil (fun _ z => nomatch z) fun _ z => nomatch z⟩) h
theorem lu_pow (h : PE X e (tOp (rI CPow fun i j => V.int (i ^ j.toNat)) (tC (.int 10)) (tC (.int 19)))) : PE X e (tLu S O (.int (10 ^ 19))) := pe_of (fun σ H Q q => ⟨10, 19, rfl, rfl, ⟨by decide, by decide, by decide⟩, q.2 (.int (10 ^ 19)) H [] (Same.refl H) (.int _) List.nodup_nil (fun _ z => nomatch z) fun _ z => nomatch z⟩) h
end
section
variable {P : Program} {w : World} {K : PySem.W.Frag} {mg : Str → Option Value} {base : Heap} {f : Addr} {fd : FuncData}
theorem lus_ints {O : Addr → Prop} {H : Hp} : ∀ l : List Int, Lus O H (l.map V.int) (l.map .int) []
  | [] => .nil
  | x :: l => .cons (l1 := []) (.int x) (lus_ints l)
theorem scBad : FnScope ["places", "links", "found"] ["places", "links"] (defScope sBad) := ⟨rfl, rfl, rfl, by decide +kernel, rfl, by decide +kernel, by decide +kernel⟩
def dsOne : List PyData := [.none, .int 3, .tuple [], .tuple [.int 0, .int 0], .tuple [.int 0, .int 0, .int 0, .int 0], .list [.int 0, .int 0, .int 0], .str "000", .dict [], .bool true, .tuple [.bool true, .int 0, .int 0], .tuple [.int 0, .bool false, .int 0], .tuple [.int 0, .int 0, .bool true]]
def dsTwo : List PyData := [.tuple [.int 0, .int 0, .none], .tuple [.int 0, .none, .int 0], .tuple [.none, .int 0, .int 0], .tuple [.int 0, .int 0, .str "1"], .tuple [.list [.int 0], .int 0, .int 0], .tuple [.int 0, .list [.int 0], .int 0], .tuple [.int 0, .int 0, .list [.int 0]]]
def dsThree (pl : Int) : List PyData := [.tuple [.int pl, .int 0, .int 0], .tuple [.int 0, .int pl, .int 0], .tuple [.int (-1), .int 0, .int 0], .tuple [.int 0, .int (-1), .int 0], .tuple [.int 0, .int 0, .int (4 - pl)], .tuple [.int 0, .int 0, .int (pl - 4)]]
def dsFour : List PyData := [.tuple [.int 0, .int 0, .int (10 ^ 19)], .tuple [.int 0, .int 0, .dict []], .tuple [.int 0, .int 0, .tuple []]]
def dsBad (pl : Int) (a b : List (List Int)) : List PyData := ((((dsOne ++ dsTwo) ++ dsThree pl) ++ a.map tupD) ++ b.map tupD) ++ dsFour
def spBad : Sp := fun xs H Q _ => ∃ (pl : Int) (h : Addr) (ps : List (Addr × List Int)), xs = [.int pl, .ref h] ∧ H h = some (.lst (ps.map fun q => V.ref q.1)) ∧ TupsAt H ps ∧ ps.length ≤ 20 ∧
  ∀ p vs H', InvF H p vs (dsBad pl ((ps.take 1).map (·.2)) ((ps.drop (ps.length - 1)).map (·.2))) 0 H' → Q (.ref p) H'
theorem lus_tups {H : Hp} : ∀ ps : List (Addr × List Int), TupsAt H ps → Lus NoO H (ps.map fun q => V.ref q.1) ((ps.map (·.2)).map tupD) []
  | [], _ => .nil
  | q :: ps, h => .cons (l1 := []) (.tup (h q List.mem_cons_self) (Kx.lus_ints q.2)) (lus_tups ps fun z hz => h z (List.mem_cons_of_mem _ hz))
theorem acc_cat {H0 H1 H2 : Hp} {L1 L : Addr} {vs1 vs2 : List V} {ds1 ds2 : List PyData} {ls2 : List Addr} (I : InvF H0 L1 vs1 ds1 0 H1) (s2 : Same H1 H2) (t2 : Lus NoO H2 vs2 ds2 ls2) (n2 : ls2.Nodup) (f2 : ∀ a ∈ ls2, H1 a = none) (nL : H2 L = none) :
    InvF H0 L (vs1 ++ vs2) (ds1 ++ ds2) 0 (upd H2 L (.lst (vs1 ++ vs2))) := by
  obtain ⟨ls1, t1, n1, l1, f1⟩ := I.rest
  rw [List.drop_zero, List.drop_zero] at t1
  have tt := lus_app (lus_same s2 t1) t2
  refine ⟨I.same.trans (s2.trans (upd_same_as nL)), upd_same, I.same.free (s2.free nL), ls1 ++ ls2, ?_, ?_, fun z => ?_, fun a z => ?_⟩
  · rw [List.drop_zero, List.drop_zero]
    exact lus_same (upd_same_as nL) tt
  · refine List.nodup_append.mpr ⟨n1, n2, fun a z b z2 e => ?_⟩
    obtain ⟨xs, y⟩ := lus_at t1 a z
    rw [e, f2 b z2] at y
    cases y
  · obtain ⟨xs, y⟩ := lus_at tt L z
    rw [nL] at y
    cases y
  · rcases List.mem_append.mp z with z | z
    · exact f1 a z
    · exact I.same.free (f2 a z)
theorem cut_1 (xs : List V) : cutV xs none (some 1) = xs.take 1 := by
  unfold cutV HT.sIx
  cases xs with
  | nil => simp
  | cons x xs => simp
theorem cut_m1 (xs : List V) : cutV xs (some (-1)) none = xs.drop (xs.length - 1) := by
  have e : HT.sIx xs.length 0 (some (-1)) = xs.length - 1 := by
    show (if (-1 : Int) < 0 then (-1 + (xs.length : Int)).toNat else min (-1 : Int).toNat xs.length) = xs.length - 1
    rw [if_pos (by decide)]
    omega
  unfold cutV
  rw [e]
  refine List.take_of_length_le ?_
  rw [List.length_drop]
  show _ ≤ xs.length - (xs.length - 1)
  exact Nat.le_refl _
theorem can_bad (D : Dfn K mg "_law_bad_links" sBad) : CanG P w K mg base 1 "_law_bad_links" ["places", "links"] spBad := by
  obtain ⟨f, fd, F, g⟩ := D.at_
  refine FnG.can (okG F scBad (fun xs H Q E h => ?_) (fun cdv A outer s H vs Q E hr hn h => ?_)) F g fun _ _ _ _ _ _ us hl => match us, hl with | [_, _], _ => rfl
  · obtain ⟨pl, h, ps, rfl, _⟩ := h
    rfl
  · obtain ⟨pl, h, ps, rfl, hh, ht, few, q⟩ := h
    obtain ⟨S, hS⟩ : ∃ S : L2.St → Hp → Prop, S = fun σ _ => σ[0]? = some (some (.int pl)) := ⟨_, rfl⟩
    have st : Stays S := by rw [hS]; exact fun σ H H' q _ => q
    have hp : Pl S pl := by rw [hS]; exact fun σ H q => q
    refine ⟨_, PSs.nox (pss_cons (ps_set (i := 2) scBad.nd rfl (.inl rfl) (lu_top (S := S) (O := NoO) (lus_cons st lu_non (lus_cons st lu_int (lus_cons st (lu_tup lus_nil (Nat.le_of_ble_eq_true rfl)) (lus_cons st (lu_tup (lus_cons st lu_int (lus_cons st lu_int lus_nil)) (Nat.le_of_ble_eq_true rfl)) (lus_cons st (lu_tup (lus_cons st lu_int (lus_cons st lu_int (lus_cons st lu_int (lus_cons st lu_int lus_nil)))) (Nat.le_of_ble_eq_true rfl)) (lus_cons st (lu_lst (lus_cons st lu_int (lus_cons st lu_int (lus_cons st lu_int lus_nil))) (Nat.le_of_ble_eq_true rfl)) (lus_cons st lu_str (lus_cons st lu_dic (lus_cons st lu_bl (lus_cons st (lu_tup (lus_cons st lu_bl (lus_cons st lu_int (lus_cons st lu_int lus_nil))) (Nat.le_of_ble_eq_true rfl)) (lus_cons st (lu_tup (lus_cons st lu_int (lus_cons st lu_bl (lus_cons st lu_int lus_nil))) (Nat.le_of_ble_eq_true rfl)) (lus_cons st (lu_tup (lus_cons st lu_int (lus_cons st lu_int (lus_cons st lu_bl lus_nil))) (Nat.le_of_ble_eq_true rfl)) lus_nil)))))))))))) (Nat.le_of_ble_eq_true rfl))) (pss_cons (ps_set (i := 2) scBad.nd rfl (.inl rfl) (pe_op op_cat (pv 2) (lu_top (S := S) (O := NoO) (lus_cons st (lu_tup (lus_cons st lu_int (lus_cons st lu_int (lus_cons st lu_non lus_nil))) (Nat.le_of_ble_eq_true rfl)) (lus_cons st (lu_tup (lus_cons st lu_int (lus_cons st lu_non (lus_cons st lu_int lus_nil))) (Nat.le_of_ble_eq_true rfl)) (lus_cons st (lu_tup (lus_cons st lu_non (lus_cons st lu_int (lus_cons st lu_int lus_nil))) (Nat.le_of_ble_eq_true rfl)) (lus_cons st (lu_tup (lus_cons st lu_int (lus_cons st lu_int (lus_cons st lu_str lus_nil))) (Nat.le_of_ble_eq_true rfl)) (lus_cons st (lu_tup (lus_cons st (lu_lst (lus_cons st lu_int lus_nil) (Nat.le_of_ble_eq_true rfl)) (lus_cons st lu_int (lus_cons st lu_int lus_nil))) (Nat.le_of_ble_eq_true rfl)) (lus_cons st (lu_tup (lus_cons st lu_int (lus_cons st (lu_lst (lus_cons st lu_int lus_nil) (Nat.le_of_ble_eq_true rfl)) (lus_cons st lu_int lus_nil))) (Nat.le_of_ble_eq_true rfl)) (lus_cons st (lu_tup (lus_cons st lu_int (lus_cons st lu_int (lus_cons st (lu_lst (lus_cons st lu_int lus_nil) (Nat.le_of_ble_eq_true rfl)) lus_nil))) (Nat.le_of_ble_eq_true rfl)) lus_nil))))))) (Nat.le_of_ble_eq_true rfl)))) (pss_cons (ps_set (i := 2) scBad.nd rfl (.inl rfl) (pe_op op_cat (pv 2) (lu_top (S := S) (O := NoO) (lus_cons st (lu_tup (lus_cons st (lu_pl (e := .Name _ _) hp (pv 0)) (lus_cons st lu_int (lus_cons st lu_int lus_nil))) (Nat.le_of_ble_eq_true rfl)) (lus_cons st (lu_tup (lus_cons st lu_int (lus_cons st (lu_pl (e := .Name _ _) hp (pv 0)) (lus_cons st lu_int lus_nil))) (Nat.le_of_ble_eq_true rfl)) (lus_cons st (lu_tup (lus_cons st lu_neg (lus_cons st lu_int (lus_cons st lu_int lus_nil))) (Nat.le_of_ble_eq_true rfl)) (lus_cons st (lu_tup (lus_cons st lu_int (lus_cons st lu_neg (lus_cons st lu_int lus_nil))) (Nat.le_of_ble_eq_true rfl)) (lus_cons st (lu_tup (lus_cons st lu_int (lus_cons st lu_int (lus_cons st (lu_pl1 hp (pe_op op_sub pe_int (pv 0))) lus_nil))) (Nat.le_of_ble_eq_true rfl)) (lus_cons st (lu_tup (lus_cons st lu_int (lus_cons st lu_int (lus_cons st (lu_pl2 hp (pe_op op_sub (pv 0) pe_int)) lus_nil))) (Nat.le_of_ble_eq_true rfl)) lus_nil)))))) (Nat.le_of_ble_eq_true rfl)))) (pss_one (ps_ret (pe_op op_cat (pe_op op_cat (pe_op op_cat (pv 2) (pe_slice sl_list (pv 1) po_none (po_some pe_int))) (pe_slice sl_list (pv 1) (po_some (pe_un un_neg pe_int)) po_none)) (lu_top (S := S) (O := NoO) (lus_cons st (lu_tup (lus_cons st lu_int (lus_cons st lu_int (lus_cons st (lu_pow (pe_op op_pow pe_int pe_int)) lus_nil))) (Nat.le_of_ble_eq_true rfl)) (lus_cons st (lu_tup (lus_cons st lu_int (lus_cons st lu_int (lus_cons st lu_dic lus_nil))) (Nat.le_of_ble_eq_true rfl)) (lus_cons st (lu_tup (lus_cons st lu_int (lus_cons st lu_int (lus_cons st (lu_tup lus_nil (Nat.le_of_ble_eq_true rfl)) lus_nil))) (Nat.le_of_ble_eq_true rfl)) lus_nil))) (Nat.le_of_ble_eq_true rfl)))))))), ?_⟩
    subst hS
    refine ⟨rfl, fun L1 vs1 H1 ls1 s1 h1 t1 n1 f1 _ => ?_⟩
    replace t1 : Lus NoO H1 vs1 dsOne ls1 := t1
    have I1 : InvF H L1 vs1 dsOne 0 H1 := ⟨s1, h1, f1 L1 List.mem_cons_self, ls1, t1, (List.nodup_cons.mp n1).2, (List.nodup_cons.mp n1).1, fun a z => f1 a (List.mem_cons_of_mem _ z)⟩
    have l1 := lus_len t1
    refine ⟨_, rfl, rfl, fun L2 vs2 H2 ls2 s2 h2 t2 n2 f2 _ => ?_⟩
    replace t2 : Lus NoO H2 vs2 dsTwo ls2 := t2
    have l2 := lus_len t2
    refine ⟨L1, L2, vs1, vs2, rfl, rfl, s2 _ _ h1, h2, by rw [l1, l2, sizeLine_eq]; exact Nat.le_of_ble_eq_true rfl, fun L3 nL3 => ?_⟩
    have I3 := acc_cat I1 s2 t2 (List.nodup_cons.mp n2).2 (fun a z => f2 a (List.mem_cons_of_mem _ z)) nL3
    have l3 : (vs1 ++ vs2).length = 19 := by rw [List.length_append, l1, l2]; rfl
    generalize upd H2 L3 (.lst (vs1 ++ vs2)) = H3 at I3 ⊢
    generalize vs1 ++ vs2 = vs3 at I3 l3
    refine ⟨_, rfl, rfl, fun L4 vs4 H4 ls4 s4 h4 t4 n4 f4 _ => ?_⟩
    replace t4 : Lus NoO H4 vs4 (dsThree pl) ls4 := t4
    have l4 : vs4.length = 6 := lus_len t4
    refine ⟨L3, L4, vs3, vs4, rfl, rfl, s4 _ _ I3.at_, h4, by rw [l3, l4, sizeLine_eq]; exact Nat.le_of_ble_eq_true rfl, fun L5 nL5 => ?_⟩
    have I5 := acc_cat I3 s4 t4 (List.nodup_cons.mp n4).2 (fun a z => f4 a (List.mem_cons_of_mem _ z)) nL5
    have l5 : (vs3 ++ vs4).length = 25 := by rw [List.length_append, l3, l4]
    generalize upd H4 L5 (.lst (vs3 ++ vs4)) = H5 at I5 ⊢
    generalize vs3 ++ vs4 = vs5 at I5 l5
    -- found + links[:1]
    refine ⟨_, rfl, _, rfl, _, rfl, h, _, rfl, SqL.of (I5.same _ _ hh), fun p1 np1 => ?_⟩
    rw [cut_1, ← List.map_take]
    have tA : Lus NoO (upd H5 p1 (.lst ((ps.take 1).map fun q => V.ref q.1))) ((ps.take 1).map fun q => V.ref q.1) (((ps.take 1).map (·.2)).map tupD) [] := lus_tups _ fun q hq => upd_same_as np1 _ _ (I5.same _ _ (ht q (List.mem_of_mem_take hq)))
    have lA : ((ps.take 1).map fun q => V.ref q.1).length ≤ 20 := by
      rw [List.length_map, List.length_take]
      omega
    refine ⟨L5, p1, vs5, _, rfl, rfl, upd_same_as np1 _ _ I5.at_, upd_same, by rw [l5, sizeLine_eq]; omega, fun L6 nL6 => ?_⟩
    have I6 := acc_cat I5 (upd_same_as np1) tA List.nodup_nil (fun a z => nomatch z) nL6
    have l6 : (vs5 ++ (ps.take 1).map fun q => V.ref q.1).length ≤ 45 := by rw [List.length_append, l5]; omega
    generalize upd (upd H5 p1 (.lst ((ps.take 1).map fun q => V.ref q.1))) L6 (.lst (vs5 ++ (ps.take 1).map fun q => V.ref q.1)) = H6 at I6 ⊢
    generalize (vs5 ++ (ps.take 1).map fun q => V.ref q.1) = vs6 at I6 l6
    -- + links[-1:]
    refine ⟨_, rfl, 1, rfl, _, rfl, h, _, rfl, SqL.of (I6.same _ _ hh), fun p2 np2 => ?_⟩
    rw [cut_m1, List.length_map, ← List.map_drop]
    have tB : Lus NoO (upd H6 p2 (.lst ((ps.drop (ps.length - 1)).map fun q => V.ref q.1))) ((ps.drop (ps.length - 1)).map fun q => V.ref q.1) (((ps.drop (ps.length - 1)).map (·.2)).map tupD) [] := lus_tups _ fun q hq => upd_same_as np2 _ _ (I6.same _ _ (ht q (List.mem_of_mem_drop hq)))
    have lB : ((ps.drop (ps.length - 1)).map fun q => V.ref q.1).length ≤ 20 := by
      rw [List.length_map, List.length_drop]
      omega
    refine ⟨L6, p2, vs6, _, rfl, rfl, upd_same_as np2 _ _ I6.at_, upd_same, by rw [sizeLine_eq]; omega, fun L7 nL7 => ?_⟩
    have I7 := acc_cat I6 (upd_same_as np2) tB List.nodup_nil (fun a z => nomatch z) nL7
    have l7 : (vs6 ++ (ps.drop (ps.length - 1)).map fun q => V.ref q.1).length ≤ 65 := by rw [List.length_append]; omega
    generalize upd (upd H6 p2 (.lst ((ps.drop (ps.length - 1)).map fun q => V.ref q.1))) L7 (.lst (vs6 ++ (ps.drop (ps.length - 1)).map fun q => V.ref q.1)) = H7 at I7 ⊢
    generalize (vs6 ++ (ps.drop (ps.length - 1)).map fun q => V.ref q.1) = vs7 at I7 l7
    refine ⟨rfl, fun L8 vs8 H8 ls8 s8 h8 t8 n8 f8 _ => ?_⟩
    replace t8 : Lus NoO H8 vs8 dsFour ls8 := t8
    have l8 : vs8.length = 3 := lus_len t8
    refine ⟨L7, L8, vs7, vs8, rfl, rfl, s8 _ _ I7.at_, h8, by rw [sizeLine_eq]; omega, fun L9 nL9 => ?_⟩
    exact q _ _ _ (acc_cat I7 s8 t8 (List.nodup_cons.mp n8).2 (fun a z => f8 a (List.mem_cons_of_mem _ z)) nL9)
end
end Kx
/-! The law's refusals. -/
namespace Kx
open PySem PySem.Spec PyProof.Rows L2 Xa Xb Xc Xd Xs Xp Xm Xr Xl Xk Xt Xu Yl Ym Yn Yo Yp Yq
abbrev sRefused : Stmt := top 24
/-! ### items, of data -/
def itemD (pl : Int) : PyData → Bool
  | .tuple [x, y, z] => inR (numD x) 0 (pl - 1) && (inR (numD y) 0 (pl - 1) && inR (numD z) (-(3 - pl)) (3 - pl))
  | _ => false
theorem lu_item {K : PySem.W.Frag} {H : Hp} {pl : Int} {v : V} {d : PyData} {ls : List Addr} (t : Lu NoO H v d ls) : Item K H pl v (itemD pl d) := by
  cases t with
  | non => exact .kind (isk_non _ (by decide +kernel))
  | bl b => exact .kind (isk_bl b _ (by decide +kernel))
  | int i => exact .kind (isk_int i _ (by decide +kernel))
  | str z => exact .kind (isk_str z _ (by decide +kernel))
  | lst h t => exact .kind (isk_lst h _ (by decide +kernel))
  | dic h => exact .kind (isk_dic h _ (by decide +kernel))
  | old o h => exact o.elim
  | tup h t =>
    cases t with
    | nil => exact .size h (by decide)
    | cons a t =>
      cases t with
      | nil => exact .size h (by simp)
      | cons b t =>
        cases t with
        | nil => exact .size h (by simp)
        | cons c t =>
          cases t with
          | nil => exact .three h (lu_num a) (lu_num b) (lu_num c)
          | cons e t => exact .size h (by simp)
/-- the tuples stand at h -/
structure Lks (H0 : Hp) (S : L2.St → Hp → Prop) (h : Addr) (ps : List (Addr × List Int)) : Prop where
  at_ : ∀ σ H, S σ H → σ[1]? = some (some (.ref h)) ∧ Same H0 H
  li : H0 h = some (.lst (ps.map fun q => V.ref q.1))
  tu : TupsAt H0 ps
section
variable {X : Cx} {S : L2.St → Hp → Prop} {e : Expr} {H0 : Hp} {h : Addr} {ps : List (Addr × List Int)} {p pos : Pos}
theorem lu_tupL (st : Stays S) (SO : Lks H0 S h ps) (he : PE X e (tVar 1)) (B : Bi2 X.mg) (hg : Gl X "tuple" := by rfl) (hs : starEach (e :: []) X.env = (false, eval e X.env) :: starEach [] X.env := by rfl) (hpl : (backTo pos (starEach [] X.env)).any (·.1) = false := by rfl) :
    PE X (.Call (.Name "tuple" p) [e] [] pos) (tLu S NoO (.tuple ((ps.map (·.2)).map tupD))) := by
  refine pe_of (fun σ H Q q => ?_) (pe_callTy call_tuple_of hg B.tuple (by decide +kernel) (pa_cons he pa_nil hs) (by decide) (by decide) hs hpl)
  obtain ⟨s0, q⟩ := q
  obtain ⟨v0, sm⟩ := SO.at_ σ H s0
  refine ⟨.ref h, v0, h, _, rfl, .inl ⟨SqL.of (sm _ _ SO.li), fun t nt => ?_⟩⟩
  exact q (.ref t) _ [] (upd_same_as nt) (.tup upd_same (lus_same (upd_same_as nt) (lus_tups ps fun q hq => sm _ _ (SO.tu q hq)))) List.nodup_nil (fun a z => nomatch z) (frs_ref nt)
end
/-! ### what is refused, as data -/
def badB : PyData → Bool
  | .list es => decide (es.length < 900) && (okD (.list (es ++ [.str "more"])) && !(PyData.list (es ++ [.str "more"])).hasDict)
  | d => okD d && (decide (kitB (kindD d) "list" = some false) && (!d.hasDict || nol d))
theorem badB_ok : ∀ {d : PyData}, badB d = true → badOk d := by
  intro d h
  cases d with
  | list es =>
    obtain ⟨a, h⟩ := He.ba h
    obtain ⟨b, c⟩ := He.ba h
    exact ⟨of_decide_eq_true a, b, by simpa using c⟩
  | _ =>
    obtain ⟨a, h⟩ := He.ba h
    obtain ⟨b, c⟩ := He.ba h
    refine ⟨a, of_decide_eq_true b, ?_⟩
    rcases Bool.or_eq_true_iff.mp c with c | c
    · exact .inr (.inl (by simpa using c))
    · exact .inr (.inr c)
def dsP : List PyData := [.none, .int 0, .int 3, .bool true, .str "1", .list [.int 1], .dict [], .int (-1), .tuple [.int 1]]
theorem dsP_bad : ∀ d ∈ dsP, badB d = true ∧ badB (moreD d) = true ∧ inR (numD d) 1 2 = false := by decide +kernel
def dsL (ls : List (List Int)) : List PyData := [.none, .int 3, .tuple (ls.map tupD), .str "links", .dict [], .bool true]
theorem lnk_good {pl : Int} (pp : pl = 1 ∨ pl = 2) {l : List Int} (h : Lnk pl l) : good1 (tupD l) = true ∧ badB (tupD l) = true := by
  obtain ⟨i, j, d, rfl, h1, h2, h3, h4, h5, h6⟩ := h
  have all : ∀ i ∈ ([0, 1] : List Int), ∀ j ∈ ([0, 1] : List Int), ∀ d ∈ ([-2, -1, 0, 1, 2] : List Int), good1 (tupD [i, j, d]) = true ∧ badB (tupD [i, j, d]) = true := by decide +kernel
  refine all i ?_ j ?_ d ?_
  · have : i = 0 ∨ i = 1 := by omega
    rcases this with rfl | rfl <;> decide
  · have : j = 0 ∨ j = 1 := by omega
    rcases this with rfl | rfl <;> decide
  · have : d = -2 ∨ d = -1 ∨ d = 0 ∨ d = 1 ∨ d = 2 := by omega
    rcases this with rfl | rfl | rfl | rfl | rfl <;> decide
theorem dsL_bad {pl : Int} (pp : pl = 1 ∨ pl = 2) {ls : List (List Int)} (hl : Lnks pl ls) : ∀ d ∈ dsL ls, badOk d ∧ kitB (kindD d) "list" = some false := by
  have g : ∀ d ∈ ls.map tupD, good1 d = true := fun d hd => by
    obtain ⟨l, h, rfl⟩ := List.mem_map.mp hd
    exact (lnk_good pp (hl.one l h)).1
  have n := hl.few
  intro d hd
  simp only [dsL, List.mem_cons, List.not_mem_nil, or_false] at hd
  have k : kitB "tuple" "list" = some false := by decide +kernel
  rcases hd with rfl | rfl | rfl | rfl | rfl | rfl
  · exact ⟨badB_ok (by decide +kernel), by decide +kernel⟩
  · exact ⟨badB_ok (by decide +kernel), by decide +kernel⟩
  · obtain ⟨_, _, _, _, _, nh⟩ := all_showable _ g
    exact ⟨⟨okD_tuple _ g (by rw [List.length_map]; omega), k, .inr (.inl (by simpa [PyData.hasDict] using nh))⟩, k⟩
  · exact ⟨badB_ok (by decide +kernel), by decide +kernel⟩
  · exact ⟨badB_ok (by decide +kernel), by decide +kernel⟩
  · exact ⟨badB_ok (by decide +kernel), by decide +kernel⟩
theorem dsBad_bad {pl : Int} (pp : pl = 1 ∨ pl = 2) {ls a b : List (List Int)} (hl : Lnks pl ls) (ha : ∀ l ∈ a, l ∈ ls) (hb : ∀ l ∈ b, l ∈ ls) : ∀ d ∈ dsBad pl a b, badOk d ∧ (itemD pl d = false ∨ ∃ l ∈ ls, d = tupD l) := by
  have c1 : ∀ d ∈ dsOne ++ dsTwo ++ dsFour, badB d = true ∧ itemD 1 d = false ∧ itemD 2 d = false := by decide +kernel
  have c2 : (∀ d ∈ dsThree 1, badB d = true ∧ itemD 1 d = false) ∧ ∀ d ∈ dsThree 2, badB d = true ∧ itemD 2 d = false := by decide +kernel
  have f1 : ∀ d ∈ dsOne ++ dsTwo ++ dsFour, badOk d ∧ (itemD pl d = false ∨ ∃ l ∈ ls, d = tupD l) := fun d hd => by
    obtain ⟨x, y, z⟩ := c1 d hd
    refine ⟨badB_ok x, .inl ?_⟩
    rcases pp with rfl | rfl
    · exact y
    · exact z
  intro d hd
  simp only [dsBad, List.mem_append] at hd
  rcases hd with ((((hd | hd) | hd) | hd) | hd) | hd
  · exact f1 d (by simp [hd])
  · exact f1 d (by simp [hd])
  · rcases pp with rfl | rfl
    · exact ⟨badB_ok (c2.1 d hd).1, .inl (c2.1 d hd).2⟩
    · exact ⟨badB_ok (c2.2 d hd).1, .inl (c2.2 d hd).2⟩
  · obtain ⟨l, h, rfl⟩ := List.mem_map.mp hd
    exact ⟨badB_ok (lnk_good pp (hl.one l (ha l h))).2, .inr ⟨l, ha l h, rfl⟩⟩
  · obtain ⟨l, h, rfl⟩ := List.mem_map.mp hd
    exact ⟨badB_ok (lnk_good pp (hl.one l (hb l h))).2, .inr ⟨l, hb l h, rfl⟩⟩
  · exact f1 d (by simp [hd])
/-- an old tuple, told so -/
theorem lu_tupI {H : Hp} {v : V} {l : List Int} {ls : List Addr} (t : Lu NoO H v (tupD l) ls) : ∃ p, v = .ref p ∧ H p = some (.tup (l.map V.int)) := by
  have allI : ∀ {xs : List V} {l : List Int} {ls : List Addr}, Lus NoO H xs (l.map .int) ls → xs = l.map V.int := by
    intro xs l
    induction l generalizing xs with
    | nil =>
      intro ls t
      cases t
      rfl
    | cons x l ih =>
      intro ls t
      cases t with
      | cons h t =>
        cases h
        rw [ih t]
        rfl
  cases t with
  | tup h t => exact ⟨_, rfl, by rw [h, allI t]⟩
theorem lu_fr {H : Hp} {v : V} {d : PyData} {ls : List Addr} (t : Lu NoO H v d ls) : flatV v = true ∨ ∃ a, v = .ref a := by
  cases t <;> first | exact .inl rfl | exact .inr ⟨_, rfl⟩
/-! ### the told pair -/
def pairD (j : Nat) (t : Str) : PyData := .list [.int j, .str t]
theorem pair_fin {K : PySem.W.Frag} {H7 : Hp} {t : Str} {r : Addr} {j : Nat} {Q : VK} (h7 : H7 r = some (.lst [.int j, .str t])) (tok : PyData.strOk t = true) (q : ∀ H8, Same H7 H8 → Q (.bl false) H8) :
    2 ≤ sizeLine ∧ ∀ u, H7 u = none → rNeD K (.ref r) (.ref u) (upd H7 u (.lst [.int j, .str t])) Q := by
  refine ⟨by decide, fun u nu => ?_⟩
  have sh : SeqAt.shaped (pairD j t) = true := by simp [tok, SeqAt.shaped, pairD, PyData.canLay0, PyData.canLayAll0, PyData.depth, PyData.depthAll]
  have at_ : ∀ {H : Hp} {a : Addr}, H a = some (.lst [.int j, .str t]) → Dp K H (.ref a) (pairD j t) := fun e => .lst (SqL.of e) (.cons (.int _) (.cons (.str _) .nil))
  refine ⟨pairD j t, pairD j t, at_ (by rw [upd_ne (ne_of_none h7 nu)] <;> exact h7), at_ upd_same, sh, sh, ?_⟩
  have e : PyData.eqv (pairD j t) (pairD j t) = true := by simp [pairD, PyData.eqv, PyData.eqvAll]
  rw [e]
  exact q _ (upd_same_as nu)
theorem pair_rep {K : PySem.W.Frag} {H6 H7 : Hp} {x : V} {t : Str} {r : Addr} {j : Nat} {Q : VK} (rp : Rep K H6 x t) (s7 : Same H6 H7) (h7 : H7 r = some (.lst [.int j, .str t])) (q : ∀ H8, Same H6 H8 → Q (.bl false) H8) :
    rRepr K [x] H7 fun v H8 => 2 ≤ sizeLine ∧ ∀ u, H8 u = none → rNeD K (.ref r) (.ref u) (upd H8 u (.lst [.int j, v])) Q := by
  have rp := rep_same s7 rp
  exact rep_r rp (pair_fin h7 rp.ok fun H8 s8 => q H8 (s7.trans s8))
theorem res_none {K : PySem.W.Frag} {H : Hp} : Res K H .non "None" H := by
  have r := lu_repF (H := H) (K := K) .non (.inr (.inl (by decide +kernel))) (by decide +kernel)
  have e : (PyData.none).shown = "None" := by decide +kernel
  rw [e] at r
  exact .other (isk_non _ (by decide +kernel)) r
section
variable {P : Program} {w : World} {K : PySem.W.Frag} {mg : Str → Option Value} {base : Heap} {f : Addr} {fd : FuncData}
def spRefused : Sp := fun xs H Q _ => ∃ (pl : Int) (h : Addr) (ps : List (Addr × List Int)), xs = [.int pl, .ref h] ∧ (pl = 1 ∨ pl = 2) ∧ H h = some (.lst (ps.map fun q => V.ref q.1)) ∧ TupsAt H ps ∧ Lnks pl (ps.map (·.2)) ∧ ∀ H', Same H H' → Q (.bl true) H'
theorem scRefused : FnScope ["places", "links", "bad"] ["places", "links"] (defScope sRefused) := ⟨rfl, rfl, rfl, by decide +kernel, rfl, by decide +kernel, by decide +kernel⟩
theorem can_refused (D : Dfn K mg "_law_refused" sRefused) (B : Bi2 mg) (cC : CanG P w K mg base 7 "_law_caught" ["places", "links"] (spCaught K)) (cB : CanG P w K mg base 1 "_law_bad_links" ["places", "links"] spBad) : CanG P w K mg base 8 "_law_refused" ["places", "links"] spRefused := by
  obtain ⟨f, fd, F, g⟩ := D.at_
  refine FnG.can (okG F scRefused (fun xs H Q E h => ?_) (fun cdv A outer s H vs Q E hr hn h => ?_)) F g fun _ _ _ _ _ _ us hl => match us, hl with | [_, _], _ => rfl
  · obtain ⟨pl, h, ps, rfl, _⟩ := h
    rfl
  · obtain ⟨pl, h, ps, rfl, pp, hh, ht, hl, q⟩ := h
    obtain ⟨S, hS⟩ : ∃ S : L2.St → Hp → Prop, S = fun σ H' => σ[1]? = some (some (.ref h)) ∧ Same H H' := ⟨_, rfl⟩
    have st : Stays S := by rw [hS]; exact fun σ H H' q s => ⟨q.1, q.2.trans s⟩
    have SO : Lks H S h ps := ⟨by rw [hS]; exact fun σ H' q => q, hh, ht⟩
    refine ⟨_, PSs.nox (pss_cons (ps_for PassesOwn.never rfl (pi_list (lu_top (S := S) (O := NoO) (lus_cons st lu_non (lus_cons st lu_int (lus_cons st lu_int (lus_cons st lu_bl (lus_cons st lu_str (lus_cons st (lu_lst (lus_cons st lu_int lus_nil) (Nat.le_of_ble_eq_true rfl)) (lus_cons st lu_dic (lus_cons st lu_neg (lus_cons st (lu_tup (lus_cons st lu_int lus_nil) (Nat.le_of_ble_eq_true rfl)) lus_nil))))))))) (Nat.le_of_ble_eq_true rfl))) (pg_name (i := 2) scRefused.nd rfl (.inl rfl)) (pss_one (ps_if (PW.pt (pw_or (pt_cmpR (op_neD hr.units) (pe_canG cC hr hn (pa_cons (pv 2) (pa1 pe_non))) (pe_lst (pa_cons pe_int (pa1 (pe_bi (call_repr hn hr.units) B.repr (pa1 (pv 2)))))) (nomark _)) (pw_or1 (pt_cmpR (op_neD hr.units) (pe_canG cC hr hn (pa_cons (pv 2) (pa1 (pe_ty call_list_of B.list (pa1 (pv 1)))))) (pe_lst (pa_cons pe_int (pa1 (pe_bi (call_repr hn hr.units) B.repr (pa1 (pv 2)))))) (nomark _))))) (pss_one (ps_ret pe_bl)) pss_nil))) (pss_cons (ps_for PassesOwn.never rfl (pi_list (lu_top (S := S) (O := NoO) (lus_cons st lu_non (lus_cons st lu_int (lus_cons st (lu_tupL st SO (pv 1) B) (lus_cons st lu_str (lus_cons st lu_dic (lus_cons st lu_bl lus_nil)))))) (Nat.le_of_ble_eq_true rfl))) (pg_name (i := 2) scRefused.nd rfl (.inl rfl)) (pss_one (ps_if (pt_cmpR (op_neD hr.units) (pe_canG cC hr hn (pa_cons (pv 0) (pa1 (pv 2)))) (pe_lst (pa_cons pe_int (pa1 (pe_bi (call_repr hn hr.units) B.repr (pa1 (pv 2)))))) (nomark _)) (pss_one (ps_ret pe_bl)) pss_nil))) (pss_cons (ps_for PassesOwn.never rfl (pi_list (pe_canG cB (hr.mono (by decide)) hn (pa_cons (pv 0) (pa1 (pv 1))))) (pg_name (i := 2) scRefused.nd rfl (.inl rfl)) (pss_one (ps_if (pt_cmpR (op_neD hr.units) (pe_canG cC hr hn (pa_cons (pv 0) (pa1 (pe_op op_cat (pv 1) (pe_lst (pa_cons (pv 2) (pa1 pe_non))))))) (pe_lst (pa_cons pe_int (pa1 (pe_bi (call_repr hn hr.units) B.repr (pa1 (pv 2)))))) (nomark _)) (pss_one (ps_ret pe_bl)) pss_nil))) (pss_cons (ps_if (PW.pt (pw_and (pt_cmpR (op_neD hr.units) (pv 1) (pe_lst pa_nil) (nomark _)) (pw_and1 (pt_cmpR (op_neD hr.units) (pe_canG cC hr hn (pa_cons (pv 0) (pa1 (pe_op op_cat (pe_lst (pa1 pe_non)) (pe_op op_rep (pe_slice sl_list (pv 1) po_none (po_some pe_int)) pe_int))))) (pe_lst (pa_cons pe_int (pa1 pe_str))) (nomark _))))) (pss_one (ps_ret pe_bl)) pss_nil) (pss_cons (ps_if (PW.pt (pw_and (pt_cmpR (op_neD hr.units) (pv 1) (pe_lst pa_nil) (nomark _)) (pw_and1 (pt_cmpR (op_neD hr.units) (pe_canG cC hr hn (pa_cons (pv 0) (pa1 (pe_op op_cat (pe_op op_rep (pe_slice sl_list (pv 1) po_none (po_some pe_int)) pe_int) (pe_lst (pa1 pe_non)))))) (pe_lst (pa_cons pe_int (pa1 (pe_bi (call_repr hn hr.units) B.repr (pa1 (pe_ix ix_list (pv 1) pe_int (fun _ _ => rfl))))))) (nomark _))))) (pss_one (ps_ret pe_bl)) pss_nil) (pss_one (ps_ret (pe_cmpR op_isN (pe_canG cC hr hn (pa_cons (pv 0) (pa1 (pe_ty call_list_of B.list (pa1 (pv 1)))))) pe_non (nomark _))))))))), ?_⟩
    subst hS
    have refsOk : ∀ v ∈ (ps.map fun q => V.ref q.1), flatV v = true ∨ ∃ a, v = .ref a := fun v hv => by
      obtain ⟨q, _, rfl⟩ := List.mem_map.mp hv
      exact .inr ⟨_, rfl⟩
    have few : ps.length ≤ 20 := by
      have := hl.few
      rwa [List.length_map] at this
    have inr : inR (some pl) 1 2 = true := inR_t (by omega) (by omega)
    refine ⟨⟨rfl, Same.refl _⟩, fun L1 vs1 H1 ls1 s1 h1 t1 n1 f1 _ => ?_⟩
    replace t1 : Lus NoO H1 vs1 dsP ls1 := t1
    have I1 : InvF H L1 vs1 dsP 0 H1 := ⟨s1, h1, f1 L1 List.mem_cons_self, ls1, t1, (List.nodup_cons.mp n1).2, (List.nodup_cons.mp n1).1, fun a z => f1 a (List.mem_cons_of_mem _ z)⟩
    refine ⟨L1, rfl, ⟨_, SqL.of I1.at_⟩, for_list (K := K) (a := L1) (xs := vs1) (fun i σ H' => ∃ tv : Option V, σ = [some (.int pl), some (.ref h), tv] ∧ InvF H L1 vs1 dsP i H') ⟨_, rfl, I1⟩ (fun i σ H' _ ⟨_, _, I⟩ => SqL.of I.at_) ?_ ?_⟩
    · rintro i x σ H' hx ⟨tv, rfl, I⟩
      obtain ⟨d, hd, C1⟩ := I.first hx
      obtain ⟨b1, b2, od⟩ := dsP_bad d (List.mem_of_getElem? hd)
      obtain ⟨l, t⟩ := C1.lu
      refine ⟨_, rfl, x, .non, numD d, false, rfl, lu_num t, isk_non _ (by decide +kernel), (fun e => nomatch e), fun _ H1 s1 => ?_, fun e => ?_⟩
      · obtain ⟨t1, H2, res, C2⟩ := (C1.up s1).res (K := K) (badB_ok b1)
        refine ⟨t1, H2, res, fun r H3 s3 _ h3 => ?_⟩
        refine ⟨_, rfl, pair_rep res.rep s3 h3 fun H4 s4 => ⟨_, rfl, iteF ?_⟩⟩
        have C4 := C2.up s4
        refine ⟨_, rfl, _, rfl, h, _, rfl, .inl (SqL.of (C4.same _ _ hh)), fun k nk => ?_⟩
        have C5 := C4.up (upd_same_as (o := .lst (ps.map fun q => V.ref q.1)) nk)
        obtain ⟨l5, t5⟩ := C5.lu
        have nd5 : numD (moreD d) = numD d := by cases d <;> rfl
        refine ⟨x, .ref k, numD (moreD d), true, rfl, lu_num t5, isk_lst upd_same _ (by decide +kernel), fun _ => ⟨k, _, rfl, upd_same, refsOk⟩, fun _ H6 s6 => ?_, fun e => ?_⟩
        · obtain ⟨t2, H7, res2, C7⟩ := (C5.up s6).res (K := K) (badB_ok b2)
          refine ⟨t2, H7, res2, fun r H8 s8 _ h8 => ?_⟩
          exact ⟨_, rfl, pair_rep res2.rep s8 h8 fun H9 s9 => ⟨_, rfl, iteF ⟨_, rfl, (C7.up s9).close⟩⟩⟩
        · rw [nd5, od] at e
          cases e
      · rw [od] at e
        cases e
    · rintro σ Ha ⟨tv, rfl, Ia⟩
      have sA := Ia.same
      clear Ia I1 t1
      refine ⟨⟨rfl, sA⟩, fun L2 vs2 H2 ls2 s2 h2 t2 n2 f2 _ => ?_⟩
      replace t2 : Lus NoO H2 vs2 (dsL (ps.map (·.2))) ls2 := t2
      have I2 : InvF H L2 vs2 (dsL (ps.map (·.2))) 0 H2 := ⟨sA.trans s2, h2, sA.free (f2 L2 List.mem_cons_self), ls2, t2, (List.nodup_cons.mp n2).2, (List.nodup_cons.mp n2).1, fun a z => sA.free (f2 a (List.mem_cons_of_mem _ z))⟩
      refine ⟨L2, rfl, ⟨_, SqL.of I2.at_⟩, for_list (K := K) (a := L2) (xs := vs2) (fun i σ H' => ∃ tv : Option V, σ = [some (.int pl), some (.ref h), tv] ∧ InvF H L2 vs2 (dsL (ps.map (·.2))) i H') ⟨_, rfl, I2⟩ (fun i σ H' _ ⟨_, _, I⟩ => SqL.of I.at_) ?_ ?_⟩
      · rintro i x σ H' hx ⟨tv, rfl, I⟩
        obtain ⟨d, hd, C1⟩ := I.first hx
        obtain ⟨bo, k⟩ := dsL_bad pp hl d (List.mem_of_getElem? hd)
        obtain ⟨l, t⟩ := C1.lu
        refine ⟨_, rfl, _, rfl, .int pl, x, some pl, false, rfl, .is pl, lu_isk t k, (fun e => nomatch e), fun e => ?_, fun _ => ⟨pl, rfl, pp, fun _ H1 s1 => ?_, fun e => nomatch e⟩⟩
        · rw [inr] at e
          cases e
        · obtain ⟨t1, H2, res, C2⟩ := (C1.up s1).res (K := K) bo
          refine ⟨t1, H2, res, fun r H3 s3 _ h3 => ?_⟩
          exact ⟨_, rfl, pair_rep res.rep s3 h3 fun H4 s4 => ⟨_, rfl, iteF ⟨_, rfl, (C2.up s4).close⟩⟩⟩
      · rintro σ Hb ⟨tv, rfl, Ib⟩
        have sB := Ib.same
        clear Ib I2 t2
        refine ⟨_, rfl, _, rfl, pl, h, ps, rfl, sB _ _ hh, fun q hq => sB _ _ (ht q hq), few, fun p vs H3 I3 => ?_⟩
        have bads := dsBad_bad (a := (ps.take 1).map (·.2)) (b := (ps.drop (ps.length - 1)).map (·.2)) pp hl (fun l hl => (List.map_subset _ (List.take_subset 1 ps)) hl) (fun l hl => (List.map_subset _ (List.drop_subset _ ps)) hl)
        refine ⟨p, rfl, ⟨_, SqL.of I3.at_⟩, for_list (K := K) (a := p) (xs := vs) (fun i σ H' => ∃ tv : Option V, σ = [some (.int pl), some (.ref h), tv] ∧ InvF Hb p vs (dsBad pl ((ps.take 1).map (·.2)) ((ps.drop (ps.length - 1)).map (·.2))) i H') ⟨_, rfl, I3⟩ (fun i σ H' _ ⟨_, _, I⟩ => SqL.of I.at_) ?_ ?_⟩
        · rintro i x σ H' hx ⟨tv, rfl, I⟩
          obtain ⟨d, hd, C1⟩ := I.first hx
          obtain ⟨bo, why⟩ := bads d (List.mem_of_getElem? hd)
          have sH := sB.trans C1.same
          refine ⟨_, rfl, _, rfl, _, rfl, (by show 2 ≤ sizeLine; decide), fun p1 np1 => ⟨h, p1, _, _, rfl, rfl, upd_same_as np1 _ _ (sH _ _ hh), upd_same, by rw [List.length_map, sizeLine_eq]; show ps.length + 2 ≤ _; omega, fun p2 np2 => ?_⟩⟩
          have C2 := (C1.up (upd_same_as (o := .lst [x, .non]) np1)).up (upd_same_as (o := .lst ((ps.map fun q => V.ref q.1) ++ [x, .non])) np2)
          have h5 : (upd (upd H' p1 (.lst [x, .non])) p2 (.lst ((ps.map fun q => V.ref q.1) ++ [x, .non]))) p2 = some (.lst ((ps.map fun q => V.ref q.1) ++ [x, .non])) := upd_same
          generalize upd (upd H' p1 (.lst [x, .non])) p2 (.lst ((ps.map fun q => V.ref q.1) ++ [x, .non])) = H5 at C2 h5 ⊢
          obtain ⟨l, t⟩ := C2.lu
          have fx : flatV x = true ∨ ∃ a, x = .ref a := lu_fr t
          refine ⟨.int pl, .ref p2, some pl, true, rfl, .is pl, isk_lst h5 _ (by decide +kernel), fun _ => ⟨p2, _, rfl, h5, fun v hv => ?_⟩, fun e => ?_, fun _ => ⟨pl, rfl, pp, (fun e => nomatch e), fun _ => ⟨p2, ps, [x, .non], rfl, h5, fun q hq => sB.trans C2.same _ _ (ht q hq), hl, fun v vs er => ?_, fun e => nomatch e⟩⟩⟩
          · rcases List.mem_append.mp hv with hv | hv
            · exact refsOk v hv
            · rcases List.mem_cons.mp hv with rfl | hv
              · exact fx
              · rw [List.mem_singleton.mp hv]
                exact .inl rfl
          · rw [inr] at e
            cases e
          · injection er with e1 e2
            subst e1
            refine ⟨?_, fun H1 s1 => ?_⟩
            · rcases why with why | ⟨l0, hl0, rfl⟩
              · have it := lu_item (K := K) (pl := pl) t
                rw [why] at it
                exact .inl it
              · obtain ⟨p0, e1, e2⟩ := lu_tupI t
                exact .inr ⟨p0, l0, e1, e2, hl0⟩
            · obtain ⟨t1, H2, res, C3⟩ := (C2.up s1).res (K := K) bo
              refine ⟨t1, H2, res, fun r H3 s3 _ h3 => ?_⟩
              exact ⟨_, rfl, pair_rep res.rep s3 h3 fun H4 s4 => ⟨_, rfl, iteF ⟨_, rfl, (C3.up s4).close⟩⟩⟩
        · rintro σ Hc ⟨tv, rfl, Ic⟩
          have sC := sB.trans Ic.same
          clear Ic I3
          refine ⟨_, rfl, (by show 0 ≤ sizeLine; decide), fun p1 np1 => ?_⟩
          have e1 := upd_same_as (o := .lst ([] : List V)) np1
          refine ⟨lisD (ps.map (·.2)), lisD [], dp_lis (e1 _ _ (sC _ _ hh)) (fun q hq => e1 _ _ (sC _ _ (ht q hq))), .lst (SqL.of upd_same) .nil, lis_shaped _, lis_shaped _, _, rfl, ?_⟩
          have sD := sC.trans e1
          generalize upd Hc p1 (.lst ([] : List V)) = Hd at sD ⊢
          clear e1
          cases ps with
          | nil =>
            have e0 : (!PyData.eqv (lisD (([] : List (Addr × List Int)).map (·.2))) (lisD [])) = false := by
              show (!PyData.eqv (lisD []) (lisD [])) = false
              rw [lis_eqv]
              rfl
            rw [e0]
            refine iteF ⟨_, rfl, (by show 0 ≤ sizeLine; decide), fun p2 np2 => ?_⟩
            have e1 := upd_same_as (o := .lst ([] : List V)) np2
            refine ⟨lisD (([] : List (Addr × List Int)).map (·.2)), lisD [], dp_lis (e1 _ _ (sD _ _ hh)) (fun q hq => nomatch hq), .lst (SqL.of upd_same) .nil, lis_shaped _, lis_shaped _, _, rfl, ?_⟩
            rw [e0]
            have sE := sD.trans e1
            generalize upd Hd p2 (.lst ([] : List V)) = He at sE ⊢
            refine iteF (iteF ?_)
            have sX := sE
            refine ⟨_, rfl, _, rfl, h, _, rfl, .inl (SqL.of (sX _ _ hh)), fun k nk => ?_⟩
            refine ⟨.int pl, .ref k, some pl, true, rfl, .is pl, isk_lst upd_same _ (by decide +kernel), fun _ => ⟨k, _, rfl, upd_same, refsOk⟩, fun e => ?_, fun _ => ⟨pl, rfl, pp, (fun e => nomatch e), fun _ => ⟨k, [], [], rfl, by rw [List.append_nil]; exact upd_same, fun q hq => upd_same_as nk _ _ (sX _ _ (ht q hq)), hl, (fun v vs er => nomatch er), fun _ H9 s9 => ?_⟩⟩⟩
            · rw [inr] at e
              cases e
            · exact ⟨rfl, q H9 (sX.trans ((upd_same_as nk).trans s9))⟩
          | cons q0 ps =>
            have e0 : (!PyData.eqv (lisD ((q0 :: ps).map (·.2))) (lisD [])) = true := by simp [lisD, PyData.eqv, PyData.eqvAll]
            rw [e0]
            have hq0 := ht q0 List.mem_cons_self
            have k0 := hl.one q0.2 List.mem_cons_self
            refine iteT ?_
            refine ⟨_, rfl, (by show 1 ≤ sizeLine; decide), fun p2 np2 => ⟨_, rfl, _, rfl, h, _, rfl, SqL.of (upd_same_as np2 _ _ (sD _ _ hh)), fun p3 np3 => ⟨p3, 2, _, rfl, rfl, upd_same, by decide, by decide, by rw [cut_1]; show 1 * 2 ≤ sizeLine; decide, fun p4 np4 => ⟨p2, p4, _, _, rfl, rfl, upd_same_as np4 _ _ (upd_same_as np3 _ _ upd_same), upd_same, by rw [cut_1]; show 3 ≤ sizeLine; decide, fun p5 np5 => ?_⟩⟩⟩⟩
            rw [cut_1] at *
            have sE := sD.trans ((upd_same_as np2).trans ((upd_same_as np3).trans ((upd_same_as np4).trans (upd_same_as (o := .lst [.non, .ref q0.1, .ref q0.1]) np5))))
            have h5 : (upd (upd (upd (upd Hd p2 (.lst [V.non])) p3 (.lst [V.ref q0.1])) p4 (.lst [V.ref q0.1, .ref q0.1])) p5 (.lst [V.non, .ref q0.1, .ref q0.1])) p5 = some (.lst [V.non, .ref q0.1, .ref q0.1]) := upd_same
            refine ⟨.int pl, .ref p5, some pl, true, rfl, .is pl, isk_lst h5 _ (by decide +kernel), fun _ => ⟨p5, _, rfl, h5, fun v hv => ?_⟩, fun e => ?_, fun _ => ⟨pl, rfl, pp, (fun e => nomatch e), fun _ => ⟨p5, [], [.non, .ref q0.1, .ref q0.1], rfl, h5, (fun q hq => nomatch hq), ⟨(fun l hl => nomatch hl), List.nodup_nil, Nat.zero_le _⟩, fun v vs er => ?_, fun e => nomatch e⟩⟩⟩
            · simp only [List.mem_cons, List.not_mem_nil, or_false] at hv
              rcases hv with rfl | rfl | rfl
              · exact .inl rfl
              · exact .inr ⟨_, rfl⟩
              · exact .inr ⟨_, rfl⟩
            · rw [inr] at e
              cases e
            injection er with e1 e2
            subst e1
            refine ⟨.inl (.kind (isk_non _ (by decide +kernel))), fun H6 s6 => ⟨_, H6, res_none, fun r H7 s7 _ h7 => ?_⟩⟩
            refine pair_fin h7 (by decide +kernel) fun H8 s8 => ⟨_, rfl, iteF ?_⟩
            have sF := sE.trans (s6.trans (s7.trans s8))
            -- the other
            refine ⟨_, rfl, (by show 0 ≤ sizeLine; decide), fun p1 np1 => ?_⟩
            have e1 := upd_same_as (o := .lst ([] : List V)) np1
            refine ⟨lisD ((q0 :: ps).map (·.2)), lisD [], dp_lis (e1 _ _ (sF _ _ hh)) (fun q hq => e1 _ _ (sF _ _ (ht q hq))), .lst (SqL.of upd_same) .nil, lis_shaped _, lis_shaped _, _, rfl, ?_⟩
            rw [e0]
            have sG := sF.trans e1
            generalize upd H8 p1 (.lst ([] : List V)) = Hg at sG ⊢
            refine iteT ?_
            refine ⟨_, rfl, _, rfl, _, rfl, h, _, rfl, SqL.of (sG _ _ hh), fun p3 np3 => ⟨p3, 2, _, rfl, rfl, upd_same, by decide, by decide, by rw [cut_1]; show 1 * 2 ≤ sizeLine; decide, fun p4 np4 => ⟨(by show 1 ≤ sizeLine; decide), fun p6 np6 => ⟨p4, p6, _, _, rfl, rfl, upd_same_as np6 _ _ upd_same, upd_same, by rw [cut_1]; show 3 ≤ sizeLine; decide, fun p7 np7 => ?_⟩⟩⟩⟩
            rw [cut_1] at *
            have sI := sG.trans ((upd_same_as np3).trans ((upd_same_as np4).trans ((upd_same_as np6).trans (upd_same_as (o := .lst [V.ref q0.1, .ref q0.1, .non]) np7))))
            have h8 : (upd (upd (upd (upd Hg p3 (.lst [V.ref q0.1])) p4 (.lst [V.ref q0.1, .ref q0.1])) p6 (.lst [V.non])) p7 (.lst [V.ref q0.1, .ref q0.1, .non])) p7 = some (.lst [V.ref q0.1, .ref q0.1, .non]) := upd_same
            have q8 := sI _ _ hq0
            refine ⟨.int pl, .ref p7, some pl, true, rfl, .is pl, isk_lst h8 _ (by decide +kernel), fun _ => ⟨p7, _, rfl, h8, fun v hv => ?_⟩, fun e => ?_, fun _ => ⟨pl, rfl, pp, (fun e => nomatch e), fun _ => ⟨p7, [q0], [.ref q0.1, .non], rfl, h8, (fun q hq => by rw [List.mem_singleton.mp hq]; exact q8), ⟨(fun l hl => by rw [List.mem_singleton.mp hl]; exact k0), List.nodup_cons.mpr ⟨List.not_mem_nil, List.nodup_nil⟩, Nat.le_of_ble_eq_true rfl⟩, fun v vs er => ?_, fun e => nomatch e⟩⟩⟩
            · simp only [List.mem_cons, List.not_mem_nil, or_false] at hv
              rcases hv with rfl | rfl | rfl
              · exact .inr ⟨_, rfl⟩
              · exact .inr ⟨_, rfl⟩
              · exact .inl rfl
            · rw [inr] at e
              cases e
            injection er with e1 e2
            subst e1
            refine ⟨.inr ⟨q0.1, q0.2, rfl, q8, List.mem_singleton.mpr rfl⟩, fun H9 s9 => ?_⟩
            have t9 : Lu NoO H9 (.ref q0.1) (tupD q0.2) [] := .tup (s9 _ _ q8) (Kx.lus_ints q0.2)
            have bo := badB_ok (lnk_good pp k0).2
            have rp : Rep K H9 (.ref q0.1) (tupD q0.2).shown := lu_repF t9 bo.2.2 bo.1
            refine ⟨_, H9, .other (lu_isk t9 bo.2.1) rp, fun r Ha s10 _ h10 => ?_⟩
            have sJ := sI.trans (s9.trans s10)
            refine ⟨_, rfl, h, _, 0, .ref q0.1, rfl, rfl, SqL.of (sJ _ _ hh), atI_nat (j := 0) rfl, pair_rep rp s10 h10 fun Hb2 s11 => ⟨_, rfl, iteF ?_⟩⟩
            have sX := sI.trans (s9.trans s11)
            refine ⟨_, rfl, _, rfl, h, _, rfl, .inl (SqL.of (sX _ _ hh)), fun k nk => ?_⟩
            refine ⟨.int pl, .ref k, some pl, true, rfl, .is pl, isk_lst upd_same _ (by decide +kernel), fun _ => ⟨k, _, rfl, upd_same, refsOk⟩, fun e => ?_, fun _ => ⟨pl, rfl, pp, (fun e => nomatch e), fun _ => ⟨k, q0 :: ps, [], rfl, by rw [List.append_nil]; exact upd_same, fun q hq => upd_same_as nk _ _ (sX _ _ (ht q hq)), hl, (fun v vs er => nomatch er), fun _ H9 s9 => ?_⟩⟩⟩
            · rw [inr] at e
              cases e
            · exact ⟨rfl, q H9 (sX.trans ((upd_same_as nk).trans s9))⟩
end
end Kx
/-! Webs that are unlike the first. -/
namespace Kx
open PySem PySem.Spec PyProof.Rows L2 Xa Xb Xc Xd Xs Xp Xm Xr Xl Xt Yl Ym Yn Yo Yp
abbrev sUnlike : Stmt := top 25
/-! ### the mathematics -/
theorem dle_encT : PySem.W.dataLe false encT = fun p q : Addr × List Int => decide (p.2 ≤ q.2) := by
  have h := PySem.W.dataLe_rows (fun p : Addr × List Int => p.2)
  exact h
theorem le_tot (a b : List Int) : a ≤ b ∨ b ≤ a := List.le_total a b
theorem le_tr {a b c : List Int} (h : a ≤ b) (k : b ≤ c) : a ≤ c := List.le_trans h k
theorem le_anti {a b : List Int} (h : a ≤ b) (k : b ≤ a) : a = b := List.le_antisymm h k
theorem srt_up (ks : List (Addr × List Int)) : ((srt ks).map (·.2)).Pairwise (· ≤ ·) := by
  rw [List.pairwise_map]
  have h := List.pairwise_mergeSort (le := PySem.W.dataLe false encT) (fun a b c h1 h2 => by
    rw [dle_encT] at *
    exact decide_eq_true (le_tr (of_decide_eq_true h1) (of_decide_eq_true h2))) (fun a b => by
    rw [dle_encT]
    rcases le_tot a.2 b.2 with z | z
    · simp [z]
    · simp [z]) ks
  refine List.Pairwise.imp (fun {a b} z => ?_) h
  rw [dle_encT] at z
  exact of_decide_eq_true z
theorem up_one : ∀ {l m : List (List Int)}, l.Perm m → l.Pairwise (· ≤ ·) → m.Pairwise (· ≤ ·) → l = m
  | [], m, p, _, _ => by rw [List.nil_perm.mp p]
  | a :: l, [], p, _, _ => by simpa using p.length_eq
  | a :: l, b :: m, p, hl, hm => by
    obtain ⟨l1, l2⟩ := List.pairwise_cons.mp hl
    obtain ⟨m1, m2⟩ := List.pairwise_cons.mp hm
    have e : a = b := by
      rcases List.mem_cons.mp (p.mem_iff.mp List.mem_cons_self : a ∈ b :: m) with z | z
      · exact z
      · rcases List.mem_cons.mp (p.mem_iff.mpr List.mem_cons_self : b ∈ a :: l) with y | y
        · exact y.symm
        · exact le_anti (l1 b y) (m1 a z)
    subst e
    rw [up_one (List.Perm.cons_inv p) l2 m2]
theorem srt_one {ks ks' : List (Addr × List Int)} (p : (ks.map (·.2)).Perm (ks'.map (·.2))) : (srt ks).map (·.2) = (srt ks').map (·.2) :=
  up_one (((srt_perm ks).map (·.2)).trans (p.trans ((srt_perm ks').map (·.2)).symm)) (srt_up ks) (srt_up ks')
theorem eqv_len : ∀ (a b : List PyData), PyData.eqvAll a b = true → a.length = b.length
  | [], [], _ => rfl
  | [], _ :: _, h => by simp [PyData.eqvAll] at h
  | _ :: _, [], h => by simp [PyData.eqvAll] at h
  | x :: a, y :: b, h => by
    simp only [PyData.eqvAll, Bool.and_eq_true] at h
    simp [eqv_len a b h.2]
theorem lis_ne {a b : List (List Int)} (h : a.length ≠ b.length) : PyData.eqv (lisD a) (lisD b) = false := by
  cases e : PyData.eqv (lisD a) (lisD b) with
  | false => rfl
  | true =>
    have e : PyData.eqvAll (a.map tupD) (b.map tupD) = true := by simpa [lisD, PyData.eqv] using e
    have := eqv_len _ _ e
    simp only [List.length_map] at this
    exact absurd this h
theorem web_ne1 {pl pl2 : Int} {qs qs2 : List (Addr × List Int)} (h : pl ≠ pl2 ∨ qs.length ≠ qs2.length) : webEqv pl pl2 qs qs2 = false := by
  unfold webEqv
  rcases h with h | h
  · rw [decide_eq_false h]
    rfl
  · rw [lis_ne (by rw [List.length_map, List.length_map]; exact h), Bool.and_false]
theorem tup_eqv : ∀ a b : List Int, PyData.eqvAll (a.map .int) (b.map .int) = decide (a = b)
  | [], [] => by simp [PyData.eqvAll]
  | [], _ :: _ => by simp [PyData.eqvAll]
  | _ :: _, [] => by simp [PyData.eqvAll]
  | x :: a, y :: b => by
    have h := tup_eqv a b
    simp only [List.map_cons, PyData.eqvAll, h, PyData.eqv]
    by_cases e : x = y <;> by_cases e2 : a = b <;> simp [e, e2]
theorem tupD_eqv (a b : List Int) : PyData.eqv (tupD a) (tupD b) = decide (a = b) := by
  show PyData.eqv (.tuple _) (.tuple _) = _
  simp only [PyData.eqv]
  exact tup_eqv a b
theorem any_eqv (z : List Int) (ls : List (List Int)) : ((ls.map tupD).any fun d => PyData.eqv d (tupD z)) = decide (z ∈ ls) := by
  induction ls with
  | nil => simp
  | cons a ls ih =>
    rw [List.map_cons, List.any_cons, ih, tupD_eqv]
    by_cases e : a = z
    · simp [e]
    · have : ¬ z = a := fun q => e q.symm
      simp [e, this]
/-! ### hears -/
section
variable {P : Program} {w : World} {K : PySem.W.Frag} {mg : Str → Option Value} {base : Heap} {f C CN CL CI : Addr} {fd : FuncData}
def spHears (C : Addr) : Sp := fun xs H Q _ => ∃ (p l : Addr) (pl rc : Int) (qs : List (Addr × List Int)), xs = [.ref p] ∧ WebAt C H p pl rc l qs ∧ ∀ a, H a = none → Q (.ref a) (upd H a (.lst (qs.map fun q => V.ref q.1)))
theorem scHears : FnScope ["self"] ["self"] (defScope sWHears) := ⟨rfl, rfl, rfl, by decide +kernel, rfl, by decide +kernel, by decide +kernel⟩
theorem ok_hears (F : FunD K "hears" "Web.hears" (defArgs sWHears) (defBody sWHears) (defScope sWHears) [] [] f fd) (T : WTxt K mg C) (B : Bi2 mg) : FnOk P w K mg base CX0 1 f fd ["self"] (spHears C) := by
  refine F.ok scHears (fun xs H Q E h => ?_) (fun cdv A outer s H vs Q E hr h => ?_)
  · obtain ⟨p, l, pl, rc, qs, rfl, _⟩ := h
    rfl
  · obtain ⟨p, l, pl, rc, qs, rfl, ⟨⟨dx, ob⟩, li, tu⟩, q⟩ := h
    refine ⟨_, PSs.nox (pss_one (ps_ret (pe_ty call_list_of B.list (pa1 (pe_fld (pv 0) rfl))))), ?_⟩
    exact ⟨_, rfl, p, C, dx, _, _, rfl, ob, T.cl, T.nH, wf_he _ _ _, l, _, rfl, .inl (SqL.of li), q⟩
theorem WebAt.same {H H' : Hp} (e : Same H H') {p l : Addr} {pl rc : Int} {qs : List (Addr × List Int)} (W : WebAt C H p pl rc l qs) : WebAt C H' p pl rc l qs :=
  let ⟨⟨dx, ob⟩, li, tu⟩ := W
  ⟨⟨dx, e _ _ ob⟩, e _ _ li, fun q hq => e _ _ (tu q hq)⟩
theorem pass00 {X : Cx} : Passes (L2.CX X.prog X.w) X E0 := fun _ _ _ _ _ _ _ ⟨_, _, _, _, _, _, _, _, _, _, _, _, q⟩ => False.elim q
/-- the class Web as the law uses it -/
structure WebK (P : Program) (w : World) (K : PySem.W.Frag) (mg : Str → Option Value) (base : Heap) (C CN CL CI : Addr) : Prop where
  t : WTxt K mg C
  kd : WKind K C
  mkx : ∃ (fI : Addr) (fdI : FuncData), Mk K C fI ∧ FnOk P w K mg base (L2.CX P w) 5 fI fdI ["self", "places", "hears"] (spWInit K C CN CL CI) ∧ Binds K fdI ["self", "places", "hears"] []
  hears : ∃ (fH : Addr) (fdH : FuncData), Meth K C "hears" fH ∧ FnOk P w K mg base CX0 1 fH fdH ["self"] (spHears C) ∧ Binds K fdH ["self"] []
  eq : ∃ (fE : Addr) (fdE : FuncData), FnOk P w K mg base CX0 1 fE fdE ["self", "other"] (spWEq K C) ∧ PySem.W.findIn K (.ref C) "__eq__" = some (some (.ref fE)) ∧ PySem.W.isFn K (.ref fE) = true ∧ Binds K fdE ["self", "other"] []
  ne : PySem.W.findIn K (.ref C) "__ne__" = some (some (.builtin "object.__ne__"))
  ob : PySem.W.subIn K (.ref C) (.type "object") = some true
  ks : ∀ T ∈ ["NoneType", "int", "str", "list", "tuple", "dict"], PySem.W.subIn K (.ref C) (.type T) = some false ∧ PySem.W.notFirst K C (.type T) = true ∧ PySem.W.kitOne K (.type T) (.ref C) = some false
/-- unlike the web at p -/
inductive Unlike (K : PySem.W.Frag) (C : Addr) (H : Hp) (pl : Int) (qs : List (Addr × List Int)) : V → Prop
  | kind {y : V} {T : String} (h : TyB K H y T) (h2 : TyX K H y (.type T)) (m : T ∈ ["NoneType", "int", "str", "list", "tuple", "dict"]) : Unlike K C H pl qs y
  | web {p l : Addr} {pl2 rc : Int} {qs2 : List (Addr × List Int)} (W : WebAt C H p pl2 rc l qs2) (h : pl ≠ pl2 ∨ qs.length ≠ qs2.length) : Unlike K C H pl qs (.ref p)

theorem Unlike.same {H H' : Hp} (e : Same H H') {pl : Int} {qs : List (Addr × List Int)} {y : V} (U : Unlike K C H pl qs y) : Unlike K C H' pl qs y := by
  cases U with
  | kind h h2 m =>
    refine .kind ?_ (ty_same e h2) m
    cases h with
    | non => exact .non
    | bl b => exact .bl b
    | int i => exact .int i
    | str x => exact .str x
    | byt b => exact .byt b
    | lst h => exact .lst (e.seq h)
    | tup h => exact .tup (sqt_same e h)
    | dK h => exact .dK (e _ _ h)
  | web W h => exact .web (W.same e) h
theorem nf_own (K : PySem.W.Frag) (C : Addr) : PySem.W.notFirst K C (.ref C) = true := by
  unfold PySem.W.notFirst
  rw [beq_self_eq_true]
  rfl
theorem un_eq (WK : WebK P w K mg base C CN CL CI) {H : Hp} {p l : Addr} {pl rc : Int} {qs : List (Addr × List Int)} {y : V} (W : WebAt C H p pl rc l qs) (U : Unlike K C H pl qs y) {Q : VK} (q : Q (.bl false) H) : rOwnEq K C (spWEq K C) E0 (.ref p) y H Q := by
  obtain ⟨dx, ob⟩ := W.ob
  cases U with
  | @kind _ T h h2 m => exact ⟨p, dx, _, .type T, rfl, ob, .base h, (WK.ks T m).2.1, p, l, pl, rc, qs, y, rfl, W, .inl ⟨.type T, h2, (WK.ks T m).2.2, false, rfl, q⟩⟩
  | @web p2 l2 pl2 rc2 qs2 W2 hne =>
    obtain ⟨dx2, ob2⟩ := W2.ob
    exact ⟨p, dx, _, .ref C, rfl, ob, .ins ob2, nf_own K C, p, l, pl, rc, qs, .ref p2, rfl, W, .inr ⟨p2, l2, pl2, rc2, qs2, rfl, W2, by rw [web_ne1 hne]; exact ⟨false, rfl, q⟩⟩⟩
theorem un_ne (WK : WebK P w K mg base C CN CL CI) {H : Hp} {p l : Addr} {pl rc : Int} {qs : List (Addr × List Int)} {y : V} (W : WebAt C H p pl rc l qs) (U : Unlike K C H pl qs y) {Q : VK} (q : Q (.bl true) H) : rOwnNe K C (spWEq K C) E0 (.ref p) y H Q := by
  obtain ⟨dx, ob⟩ := W.ob
  cases U with
  | @kind _ T h h2 m => exact ⟨p, dx, _, .type T, rfl, ob, .base h, (WK.ks T m).2.1, p, l, pl, rc, qs, y, rfl, W, .inl ⟨.type T, h2, (WK.ks T m).2.2, false, rfl, q⟩⟩
  | @web p2 l2 pl2 rc2 qs2 W2 hne =>
    obtain ⟨dx2, ob2⟩ := W2.ob
    exact ⟨p, dx, _, .ref C, rfl, ob, .ins ob2, nf_own K C, p, l, pl, rc, qs, .ref p2, rfl, W, .inr ⟨p2, l2, pl2, rc2, qs2, rfl, W2, false, by rw [web_ne1 hne], q⟩⟩
theorem un_back (WK : WebK P w K mg base C CN CL CI) {H : Hp} {p l : Addr} {pl rc : Int} {qs : List (Addr × List Int)} {y : V} (W : WebAt C H p pl rc l qs) (U : Unlike K C H pl qs y) {Q : VK} (q : Q (.bl false) H) : rBackEq K C (spWEq K C) E0 y (.ref p) H Q ∨ rOwnEq K C (spWEq K C) E0 y (.ref p) H Q := by
  obtain ⟨dx, ob⟩ := W.ob
  cases U with
  | @kind _ T h h2 m => exact .inl ⟨p, dx, _, T, rfl, ob, h, m, (WK.ks T m).1, p, l, pl, rc, qs, y, rfl, W, .inl ⟨.type T, h2, (WK.ks T m).2.2, false, rfl, q⟩⟩
  | @web p2 l2 pl2 rc2 qs2 W2 hne =>
    obtain ⟨dx2, ob2⟩ := W2.ob
    have hne2 : pl2 ≠ pl ∨ qs2.length ≠ qs.length := hne.imp Ne.symm Ne.symm
    exact .inr ⟨p2, dx2, _, .ref C, rfl, ob2, .ins ob, nf_own K C, p2, l2, pl2, rc2, qs2, .ref p, rfl, W2, .inr ⟨p, l, pl, rc, qs, rfl, W, by rw [web_ne1 hne2]; exact ⟨false, rfl, q⟩⟩⟩
/-! ### a web is made -/
theorem make_r {H : Hp} {D x dx : Addr} {pl : Int} {ps : List (Addr × List Int)} (nx : H x = none) (ndx : H dx = none) (pp : pl = 1 ∨ pl = 2) (hD : H D = some (.lst (ps.map fun q => V.ref q.1))) (ht : TupsAt H ps) (hl : Lnks pl (ps.map (·.2))) {R : VK}
    (q : ∀ (l : Addr) (rc : Int) (H' : Hp), Same H H' → WebAt C H' x pl rc l (srt ps) → Reach rc (ps.map (·.2)) → H l = none → R .non H') :
    spWInit K C CN CL CI [.ref x, .int pl, .ref D] (upd (upd H dx (.own x)) x (.ins C dx [])) R E0 := by
  have sm : Same H (upd (upd H dx (.own x)) x (.ins C dx [])) := fun c o e => by
    rw [upd_ne (ne_of_none e nx), upd_ne (ne_of_none e ndx)]
    exact e
  have inr : inR (some pl) 1 2 = true := inR_t (by omega) (by omega)
  refine ⟨x, dx, .int pl, .ref D, some pl, rfl, upd_same, .is pl, fun e => ?_, fun _ => ⟨pl, true, rfl, pp, isk_lst (sm _ _ hD) _ (by decide +kernel), (fun e => nomatch e), fun _ => ⟨D, ps, [], rfl, by rw [List.append_nil]; exact sm _ _ hD, fun r hr => sm _ _ (ht r hr), hl, (fun v vs er => nomatch er), fun _ rc l H' W Rr old nl => ?_⟩⟩⟩
  · rw [inr] at e
    cases e
  · exact q l rc H' (fun c o e => old c o (sm c o e) (ne_of_none e nx)) W Rr (sm.free nl)
/-! ### a list of tuples sifted -/
theorem filt_r {K : PySem.W.Frag} {a D : Addr} {ps : List (Addr × List Int)} {g : TG} {tt : TT} {te : TE} {vs : List Nat} {σ : L2.St} {H1 : Hp} {Qd : Hp → Prop} (b : List Int → Bool) (ha : H1 a = some (.lst (ps.map fun q => V.ref q.1))) (few : ps.length ≤ 20) (nD : H1 D = none)
    (step : ∀ q ∈ ps, ∀ H', Same H1 H' → ∀ (N : V → Hp → Prop) (M : Hp → Prop), (∀ H'', Same H' H'' → if b q.2 = true then N (.ref q.1) H'' else M H'') → g (.ref q.1) (wipe σ vs) H' fun σ2 H2 => wipe σ2 vs = wipe σ vs ∧ tt σ2 H2 fun b H3 => if b = true then te σ2 H3 N else M H3)
    (hd : ∀ H', Same H1 H' → H' D = some (.lst ((ps.filter fun q => b q.2).map fun q => V.ref q.1)) → Qd H') :
    ∃ W : Nat → Nat → Hp → Prop, (∃ m, W 0 m (upd H1 D (.lst []))) ∧ ∀ i m H, W i m H →
      ((Itl K a).stop i H ∧ Qd H) ∨ ((Itl K a).go i H ∧ ∃ Nx : Hp → Prop, (∀ H', Nx H' → ∃ m', m' < m ∧ W (i + 1) m' H') ∧ ∀ x H', (Itl K a).yld i H x H' → g x (wipe σ vs) H' fun σ2 H2 => wipe σ2 vs = wipe σ vs ∧ tt σ2 H2 fun b H3 =>
        if b = true then te σ2 H3 fun y H4 => ∃ acc, H4 D = some (.lst acc) ∧ acc.length < sizeLine ∧ Nx (upd H4 D (.lst (acc ++ [y]))) else Nx H3) := by
  refine lc_list (K := K) (a := a) (xs := ps.map fun q => V.ref q.1) (fun i H' => H' D = some (.lst (((ps.take i).filter fun q => b q.2).map fun q => V.ref q.1)) ∧ Same H1 H') ⟨upd_same, upd_same_as nD⟩ (fun i H' _ ⟨_, s⟩ => SqL.of (s _ _ ha)) ?_ ?_
  · rintro i x H' hx ⟨hD, sm⟩
    obtain ⟨r, hr, rfl⟩ : ∃ r, ps[i]? = some r ∧ x = .ref r.1 := by
      rw [List.getElem?_map] at hx
      cases e : ps[i]? with
      | none =>
        rw [e] at hx
        cases hx
      | some r =>
        rw [e] at hx
        exact ⟨r, rfl, (Option.some.inj hx).symm⟩
    have tk : ps.take (i + 1) = ps.take i ++ [r] := by rw [List.take_add_one, hr] <;> rfl
    refine step r (List.mem_of_getElem? hr) H' sm _ _ fun H'' s2 => ?_
    have hD2 := s2 _ _ hD
    have sm2 := sm.trans s2
    by_cases e : b r.2 = true
    · rw [if_pos e]
      refine ⟨_, hD2, ?_, ?_, ?_⟩
      · rw [List.length_map]
        have h1 := List.length_filter_le (fun q : Addr × List Int => b q.2) (ps.take i)
        have h2 : (ps.take i).length ≤ ps.length := by
          rw [List.length_take]
          omega
        exact small1000 (by omega)
      · rw [upd_same, tk, List.filter_append, List.map_append]
        simp [e]
      · exact fun c o q => by rw [upd_ne (ne_of_none q nD)] <;> exact sm2 _ _ q
    · rw [if_neg e]
      refine ⟨?_, sm2⟩
      rw [hD2, tk, List.filter_append]
      simp [e]
  · rintro H' ⟨hD, sm⟩
    refine hd H' sm ?_
    rw [List.length_map, List.take_length] at hD
    exact hD
theorem Lnks.sift {pl : Int} {ps : List (Addr × List Int)} (h : Lnks pl (ps.map (·.2))) (b : List Int → Bool) : Lnks pl ((ps.filter fun q => b q.2).map (·.2)) := by
  have sub : ((ps.filter fun q => b q.2).map (·.2)).Sublist (ps.map (·.2)) := (List.filter_sublist).map _
  exact ⟨fun l hl => h.one l (sub.subset hl), h.nd.sublist sub, Nat.le_trans sub.length_le h.few⟩
theorem nd_len : ∀ {l m : List (List Int)}, l.Nodup → (∀ x ∈ l, x ∈ m) → l.length ≤ m.length
  | [], _, _, _ => Nat.zero_le _
  | a :: l, m, nd, h => by
    obtain ⟨n1, n2⟩ := List.nodup_cons.mp nd
    have ha := h a List.mem_cons_self
    have ih := nd_len (l := l) (m := m.erase a) n2 fun x hx => (List.mem_erase_of_ne (fun e => n1 (by rw [← e]; exact hx))).mpr (h x (List.mem_cons_of_mem _ hx))
    have hm : 0 < m.length := List.length_pos_of_mem ha
    rw [List.length_erase_of_mem ha] at ih
    rw [List.length_cons]
    omega
def allL : List (List Int) := [[0,0,-2],[0,0,-1],[0,0,0],[0,0,1],[0,0,2],[0,1,-1],[0,1,0],[0,1,1],[1,0,-1],[1,0,0],[1,0,1],[1,1,-1],[1,1,0],[1,1,1]]
theorem lnk_all {pl : Int} (pp : pl = 1 ∨ pl = 2) {l : List Int} (h : Lnk pl l) : l ∈ allL := by
  obtain ⟨i, j, d, rfl, h1, h2, h3, h4, h5, h6⟩ := h
  rcases pp with rfl | rfl
  · have e1 : i = 0 := by omega
    have e2 : j = 0 := by omega
    subst e1 e2
    have e3 : d = -2 ∨ d = -1 ∨ d = 0 ∨ d = 1 ∨ d = 2 := by omega
    rcases e3 with rfl | rfl | rfl | rfl | rfl <;> decide
  · have e1 : i = 0 ∨ i = 1 := by omega
    have e2 : j = 0 ∨ j = 1 := by omega
    have e3 : d = -1 ∨ d = 0 ∨ d = 1 := by omega
    rcases e1 with rfl | rfl <;> rcases e2 with rfl | rfl <;> rcases e3 with rfl | rfl | rfl <;> decide
theorem Lnks.few14 {pl : Int} (pp : pl = 1 ∨ pl = 2) {ls : List (List Int)} (h : Lnks pl ls) : ls.length ≤ 14 := nd_len h.nd fun x hx => lnk_all pp (h.one x hx)
theorem lnk0 {pl : Int} (pp : pl = 1 ∨ pl = 2) : Lnk pl [0, 0, 0] := ⟨0, 0, 0, rfl, by omega, by omega, by omega, by omega, by omega, by omega⟩
theorem Lnks.perm {pl : Int} {l m : List (List Int)} (p : l.Perm m) (h : Lnks pl l) : Lnks pl m := ⟨fun x hx => h.one x (p.mem_iff.mpr hx), p.nodup_iff.mp h.nd, by rw [← p.length_eq] <;> exact h.few⟩
end
end Kx
/-! _law_unlike_right. -/
namespace Kx
open PySem PySem.Spec PyProof.Rows L2 Xa Xb Xc Xd Xs Xp Xm Xr Xl Xt Yl Ym Yn Yo Yp
section
variable {P : Program} {w : World} {K : PySem.W.Frag} {mg : Str → Option Value} {base : Heap} {f C CN CL CI : Addr} {fd : FuncData}
def spUnlike (C : Addr) : Sp := fun xs H Q _ => ∃ (p l h : Addr) (pl rc : Int) (qs ps : List (Addr × List Int)), xs = [.ref p, .int pl, .ref h] ∧ WebAt C H p pl rc l qs ∧ (pl = 1 ∨ pl = 2) ∧ H h = some (.lst (ps.map fun q => V.ref q.1)) ∧ TupsAt H ps ∧ Lnks pl (ps.map (·.2)) ∧ qs.length = ps.length ∧ ∀ H', Same H H' → Q (.bl true) H'
theorem scUnlike : FnScope ["first", "places", "links", "others", "link", "other"] ["first", "places", "links"] (defScope sUnlike) := ⟨rfl, rfl, rfl, by decide +kernel, rfl, by decide +kernel, by decide +kernel⟩
theorem iteE {b c : Bool} (e : b = c) {A B : Prop} (h : if c = true then A else B) : if b = true then A else B := by rw [e]; exact h
theorem tup_sh (l : List Int) : SeqAt.shaped (tupD l) = true := by
  have h := lis_shaped [l]
  have h1 : (tupD l).canLay0 = true := by simp [tupD, PyData.canLay0, ints_lay]
  have h2 : (tupD l).depth ≤ 64 := by simp [tupD, PyData.depth, ints_depth]
  simp [SeqAt.shaped, h1, h2]
theorem refs_few (ps : List (Addr × List Int)) : (ps.map fun q => V.ref q.1).length = ps.length := List.length_map _
theorem room65 {k : Nat} {A : Around} (r : Room k A) : A.units + 65 < cLine := by have := r.un; omega
/-- unlike, whatever stands at L -/
def Firm (K : PySem.W.Frag) (C L : Addr) (H : Hp) (pl : Int) (qs : List (Addr × List Int)) (y : V) : Prop := ∀ H', (∀ c o, H c = some o → c ≠ L → H' c = some o) → Unlike K C H' pl qs y
theorem Firm.old {L : Addr} {H H2 : Hp} {pl : Int} {qs : List (Addr × List Int)} {y : V} (n : H L = none) (s : Same H H2) (U : Unlike K C H pl qs y) : Firm K C L H2 pl qs y := fun H' k => U.same fun c o e => k c o (s c o e) (ne_of_none e n)
theorem Firm.web {L x l : Addr} {H0 H : Hp} {pl pl2 rc : Int} {qs qs2 : List (Addr × List Int)} {zs : List V} (W : WebAt C H x pl2 rc l qs2) (hL : H0 L = some (.lst zs)) (s : Same H0 H) (nx : H0 x = none) (nl : H0 l = none) (h : pl ≠ pl2 ∨ qs.length ≠ qs2.length) : Firm K C L H pl qs (.ref x) := fun H' k => by
  have hL2 := s _ _ hL
  obtain ⟨⟨dx, ob⟩, li, tu⟩ := W
  have nn : ∀ {a : Addr}, H0 a = none → a ≠ L := fun {a} n e => by
    rw [e, hL] at n
    cases n
  exact .web ⟨⟨dx, k _ _ ob (nn nx)⟩, k _ _ li (nn nl), fun r hr => k _ _ (tu r hr) (ne_of (tu r hr) hL2 (by intro z; cases z))⟩ h
theorem Firm.upd {L : Addr} {H : Hp} {pl : Int} {qs : List (Addr × List Int)} {y : V} {o : HO} (F : Firm K C L H pl qs y) : Firm K C L (L2.upd H L o) pl qs y := fun H' k => F H' fun c u e ne => k c u (by rw [upd_ne ne]; exact e) ne
theorem Firm.up {L : Addr} {H H2 : Hp} {pl : Int} {qs : List (Addr × List Int)} {y : V} (F : Firm K C L H pl qs y) (s : Same H H2) : Firm K C L H2 pl qs y := fun H' k => F H' fun c u e ne => k c u (s c u e) ne
theorem can_unlike (D : Dfn K mg "_law_unlike_right" sUnlike) (B : Bi2 mg) (WK : WebK P w K mg base C CN CL CI) : CanG P w K mg base 7 "_law_unlike_right" ["first", "places", "links"] (spUnlike C) := by
  obtain ⟨f, fd, F, g⟩ := D.at_
  have WK0 := WK
  obtain ⟨T, WD, ⟨fI, fdI, mI, oI, bI⟩, ⟨fH, fdH, mH, oH, bH⟩, ⟨fE, fdE, oE, hsE, hfE, bE⟩, hne, hob, _⟩ := WK0
  refine FnG.can (okG F scUnlike (fun xs H Q E h => ?_) (fun cdv A outer s H vs Q E hr hn h => ?_)) F g fun _ _ _ _ _ _ us hl => match us, hl with | [_, _, _], _ => rfl
  · obtain ⟨p, l, h, pl, rc, qs, ps, rfl, _⟩ := h
    rfl
  · obtain ⟨p, l, h, pl, rc, qs, ps, rfl, W, pp, hh, ht, hl, hlen, q⟩ := h
    have h1 := hr.mono (show 1 ≤ 6 by decide)
    have h2 := hr.mono (show 2 ≤ 6 by decide)
    have few := hl.few14 pp
    rw [List.length_map] at few
    have tail : ∃ t : TS, PSs (cxOf CX0 P w K mg base ["first", "places", "links", "others", "link", "other"] "_law_unlike_right" (defScope sUnlike) f cdv A outer s H E).nox ((defBody sUnlike).drop 2) t ∧
        ∀ (H6 : Hp) (L : Addr) (xs : List V), Same H H6 → H6 L = some (.lst xs) → H L = none → xs.length ≤ 30 → (∀ y ∈ xs, Firm K C L H6 pl qs y) → t { nx := fun _ H' => Q .non H', rt := Q } [some (.ref p), some (.int pl), some (.ref h), some (.ref L), none, none] H6 := by
      refine ⟨_, PSs.nox (pss_cons (ps_expr (pe_bm PySem.F.plainAttrs_list PySem.F.slot_list_append PySem.F.type_list_append mt_append (pv 3) (pa1 (pe_make (E := E0) mI oI hr (by rfl) T.gl bI .nil pass00 (pa_cons (pe_op op_sub pe_int (pv 1)) (pa1
            (pe_lc (own := [("link", 4)]) (g := gName 4) rfl scUnlike.nd (pi_list (pv 2)) (blkOk_by (own := [("link", 4)]) (N := ["first", "places", "links", "others", "link", "other"]) (sc := defScope sUnlike) (by decide +kernel))
              (fun _ _ _ _ _ => pg_name (i := 4) scUnlike.nd rfl (Or.inl rfl)) (fun _ _ _ _ _ => pts_one (pt_cmpR (r := rEqD K) (op_eqD hr.units) (pv 4) (pe_tup (pa_cons pe_int (pa_cons pe_int (pa1 pe_int)))) (nomark _))) (fun _ _ _ _ _ => pv 4))))))))
        (pss_one (ps_ret (pe_cmpR (op_eqD hr.units)
            (pe_lc (own := [("other", 5)]) (g := gName 5) rfl scUnlike.nd (pi_list (pv 3)) (blkOk_by (own := [("other", 5)]) (N := ["first", "places", "links", "others", "link", "other"]) (sc := defScope sUnlike) (by decide +kernel))
              (fun _ _ _ _ _ => pg_name (i := 5) scUnlike.nd rfl (Or.inl rfl))
              (fun _ _ _ _ _ => pts_one (PW.pt (pw_or (pt_cmpR (r := rOwnEq K C (spWEq K C) E0) (op_ownEq oE hsE hfE bE pass0 h1) (pv 0) (pv 5) (nomark _))
                (pw_or (pt_cmpR (r := fun x y H Q => rBackEq K C (spWEq K C) E0 x y H Q ∨ rOwnEq K C (spWEq K C) E0 x y H Q) (OpR.or (op_backEq oE hsE hfE bE pass0 h1) (op_ownEq oE hsE hfE bE pass0 h1)) (pv 5) (pv 0) (nomark _))
                (pw_or1 (pt_not (pt_cmpR (r := rOwnNe K C (spWEq K C) E0) (op_ownNe oE hsE hfE hne hob bE pass0 h2) (pv 0) (pv 5) (nomark _)))))))) (fun _ _ _ _ _ => pv 5))
            (pe_lst pa_nil) (nomark _))))), fun H6 L xs s6 hL nL hx U => ?_⟩
      refine ⟨_, rfl, .inl ⟨rfl, _, SqL.of hL⟩, _, rfl, _, _, rfl, rfl, _, rfl, h, rfl, ⟨_, SqL.of (s6 _ _ hh)⟩, fun D nD => filt_r (fun l => decide (l = [0, 0, 0])) (s6 _ _ hh) (by omega) nD (fun r hr2 H' sm N M k => ⟨rfl, ?_⟩) (fun H7 s7 hD => ?_)⟩
      · refine ⟨_, rfl, (by show 3 ≤ sizeLine; decide), fun z1 nz1 => ⟨tupD r.2, tupD [0, 0, 0], ?_, .tup (SqT.of (xs := [V.int 0, V.int 0, V.int 0]) upd_same) (dp_ints [0, 0, 0]), tup_sh _, tup_sh _, _, rfl, iteE (tupD_eqv _ _) ?_⟩⟩
        · exact .tup (SqT.of (upd_same_as nz1 _ _ (sm _ _ (s6 _ _ (ht r hr2))))) (dp_ints _)
        · have k2 := k _ (upd_same_as (o := .tup [V.int 0, V.int 0, V.int 0]) nz1)
          by_cases e : r.2 = [0, 0, 0]
          · simp only [decide_eq_true e, if_true] at k2 ⊢
            exact ⟨_, rfl, k2⟩
          · simp only [decide_eq_false e] at k2 ⊢
            exact k2
      · have pp3 : 3 - pl = 1 ∨ 3 - pl = 2 := by omega
        have ht7 : TupsAt H7 (ps.filter fun q => decide (q.2 = [0, 0, 0])) := fun r hr2 => s7 _ _ (s6 _ _ (ht r (List.mem_filter.mp hr2).1))
        have hl3 : Lnks (3 - pl) ((ps.filter fun q => decide (q.2 = [0, 0, 0])).map (·.2)) := by
          have h0 := hl.sift fun l => decide (l = [0, 0, 0])
          refine ⟨fun l hm => ?_, h0.nd, h0.few⟩
          obtain ⟨r, hr2, rfl⟩ := List.mem_map.mp hm
          have e := of_decide_eq_true (List.mem_filter.mp hr2).2
          rw [e]
          exact lnk0 pp3
        intro x dx nx ndx _
        refine make_r nx ndx pp3 hD ht7 hl3 fun l2 rc2 H8 s8 W8 _ nl => ⟨rfl, ?_⟩
        have hL8 := s8 _ _ (s7 _ _ hL)
        have sH8 := s6.trans (s7.trans s8)
        refine ⟨L, xs, _, rfl, rfl, hL8, small1000 (by omega), ?_⟩
        have nxL : x ≠ L := fun e => by
          rw [e, s7 _ _ hL] at nx
          cases nx
        have keep : ∀ c o, H8 c = some o → c ≠ L → (upd H8 L (.lst (xs ++ [.ref x]))) c = some o := fun c o e ne => by
          rw [upd_ne ne]
          exact e
        have sX : Same H (upd H8 L (.lst (xs ++ [.ref x]))) := fun c o e => keep _ _ (sH8 _ _ e) (ne_of_none e nL)
        have U9 : ∀ y ∈ xs ++ [V.ref x], Unlike K C (upd H8 L (.lst (xs ++ [.ref x]))) pl qs y := by
          intro y hy
          rcases List.mem_append.mp hy with hy | hy
          · exact U y hy _ fun c o e ne => keep c o (s8 _ _ (s7 _ _ e)) ne
          · rw [List.mem_singleton.mp hy]
            exact Firm.web W8 (s7 _ _ hL) s8 nx nl (.inl (by omega)) _ keep
        have hL9 : (upd H8 L (.lst (xs ++ [.ref x]))) L = some (.lst (xs ++ [.ref x])) := upd_same
        generalize upd H8 L (.lst (xs ++ [.ref x])) = H9 at sX U9 hL9 ⊢
        have W9 := W.same sX
        refine ⟨_, rfl, L, rfl, ⟨_, SqL.of hL9⟩, fun D2 nD2 => lc_list (K := K) (a := L) (xs := xs ++ [.ref x]) (fun i H' => H' = upd H9 D2 (.lst [])) rfl (fun i H' _ e => by rw [e]; exact SqL.of (upd_same_as nD2 _ _ hL9)) ?_ ?_⟩
        · rintro i y H' hy rfl
          have Uy := (U9 y (List.mem_of_getElem? hy)).same (upd_same_as (o := .lst []) nD2)
          have Wy := W9.same (upd_same_as (o := .lst []) nD2)
          refine ⟨rfl, _, rfl, _, rfl, un_eq WK Wy Uy ⟨false, rfl, iteF ⟨_, rfl, _, rfl, un_back WK Wy Uy ⟨false, rfl, iteF ⟨_, rfl, _, rfl, un_ne WK Wy Uy ⟨true, rfl, ?_⟩⟩⟩⟩⟩⟩
          exact iteF rfl
        · rintro H' rfl
          refine ⟨(by show 0 ≤ sizeLine; decide), fun a9 n9 => ⟨.list [], .list [], .lst (SqL.of (upd_same_as n9 _ _ upd_same)) .nil, .lst (SqL.of upd_same) .nil, by decide +kernel, by decide +kernel, ?_⟩⟩
          have e : PyData.eqv (.list []) (.list []) = true := by simp [PyData.eqv, PyData.eqvAll]
          rw [e]
          exact q _ (sX.trans ((upd_same_as nD2).trans (upd_same_as n9)))
    obtain ⟨t, htl, hq⟩ := tail
    refine ⟨_, pss_cons (ps_set (i := 3) scUnlike.nd rfl (.inl rfl) (pe_lst (pa_cons pe_non (pa_cons pe_int (pa_cons (pe_lst pa_nil) (pa_cons pe_dnewK (pa_cons (pe_tup (pa_cons (pv 1) (pa1 (pv 2)))) (pa_cons pe_str (pa_cons (pv 2) (pa1 (pe_meth0 (pv 0) T.cl mH oH h1 bH .nil pass0)))))))))))
      (pss_cons (ps_if (pt_cmpR (op_inD (room65 hr)) (pe_tup (pa_cons pe_int (pa_cons pe_int (pa1 pe_int)))) (pv 2) (by rfl))
          (pss_one (ps_expr (pe_bm PySem.F.plainAttrs_list PySem.F.slot_list_append PySem.F.type_list_append mt_append (pv 3) (pa1 (pe_make (E := E0) mI oI hr (by rfl) T.gl bI .nil pass00 (pa_cons (pv 1) (pa1
            (pe_lc (own := [("link", 4)]) (g := gName 4) rfl scUnlike.nd (pi_list (pv 2)) (blkOk_by (own := [("link", 4)]) (N := ["first", "places", "links", "others", "link", "other"]) (sc := defScope sUnlike) (by decide +kernel))
              (fun _ _ _ _ _ => pg_name (i := 4) scUnlike.nd rfl (Or.inl rfl)) (fun _ _ _ _ _ => pts_one (pt_cmpR (r := rNeD K) (op_neD hr.units) (pv 4) (pe_tup (pa_cons pe_int (pa_cons pe_int (pa1 pe_int)))) (nomark _))) (fun _ _ _ _ _ => pv 4)))))))))
          (pss_one (ps_expr (pe_bm PySem.F.plainAttrs_list PySem.F.slot_list_append PySem.F.type_list_append mt_append (pv 3) (pa1 (pe_make (E := E0) mI oI hr (by rfl) T.gl bI .nil pass00 (pa_cons (pv 1) (pa1
            (pe_op op_cat (pv 2) (pe_lst (pa1 (pe_tup (pa_cons pe_int (pa_cons pe_int (pa1 pe_int))))))))))))))) htl), ?_⟩
    refine ⟨(by show 0 ≤ sizeLine; decide), fun a1 n1 a2 n2 => ⟨_, rfl, _, rfl, (by show 2 ≤ sizeLine; decide), fun a3 n3 => ?_⟩⟩
    have s1 := upd_same_as (o := .lst ([] : List V)) n1
    have s2 := upd_same_as (o := .dK []) n2
    have s3 := upd_same_as (o := .tup [.int pl, .ref h]) n3
    have e1 := s3 _ _ (s2 _ _ (upd_same (H := H) (a := a1) (o := .lst ([] : List V))))
    have e2 := s3 _ _ (upd_same (H := upd H a1 (.lst ([] : List V))) (a := a2) (o := .dK []))
    have e3 := upd_same (H := upd (upd H a1 (.lst ([] : List V))) a2 (.dK [])) (a := a3) (o := .tup [.int pl, .ref h])
    have s03 := s1.trans (s2.trans s3)
    generalize upd (upd (upd H a1 (.lst ([] : List V))) a2 (.dK [])) a3 (.tup [.int pl, .ref h]) = H3 at s03 e1 e2 e3 ⊢
    clear s1 s2 s3
    have W3 := W.same s03
    obtain ⟨dx3, ob3⟩ := W3.ob
    refine ⟨_, rfl, _, rfl, p, dx3, _, rfl, ob3, wf_no _ _ _ (by decide +kernel) (by decide +kernel) (by decide +kernel), p, l, pl, rc, qs, rfl, W3, fun a4 n4 => ⟨(by show 8 ≤ sizeLine; decide), fun L nL => ?_⟩⟩
    have s4 := s03.trans (upd_same_as (o := .lst (qs.map fun q => V.ref q.1)) n4)
    have e4 := upd_same (H := H3) (a := a4) (o := .lst (qs.map fun q => V.ref q.1))
    replace e1 := upd_same_as (o := .lst (qs.map fun q => V.ref q.1)) n4 _ _ e1
    replace e2 := upd_same_as (o := .lst (qs.map fun q => V.ref q.1)) n4 _ _ e2
    replace e3 := upd_same_as (o := .lst (qs.map fun q => V.ref q.1)) n4 _ _ e3
    generalize upd H3 a4 (.lst (qs.map fun q => V.ref q.1)) = H4 at s4 e1 e2 e3 e4 nL ⊢
    have U4 : ∀ y ∈ [V.non, .int 0, .ref a1, .ref a2, .ref a3, .str "web", .ref h, .ref a4], Unlike K C H4 pl qs y := fun y hy => by
      simp only [List.mem_cons, List.not_mem_nil, or_false] at hy
      rcases hy with rfl | rfl | rfl | rfl | rfl | rfl | rfl | rfl
      · exact .kind .non (.base .non) (by decide)
      · exact .kind (.int 0) (.base (.int 0)) (by decide)
      · exact .kind (.lst (SqL.of e1)) (.base (.lst e1)) (by decide)
      · exact .kind (.dK e2) (.base (.dK e2)) (by decide)
      · exact .kind (.tup (SqT.of e3)) (.base (.tup e3)) (by decide)
      · exact .kind (.str _) (.base (.str _)) (by decide)
      · exact .kind (.lst (SqL.of (s4 _ _ hh))) (.base (.lst (s4 _ _ hh))) (by decide)
      · exact .kind (.lst (SqL.of e4)) (.base (.lst e4)) (by decide)
    have s5 := upd_same_as (o := .lst [V.non, .int 0, .ref a1, .ref a2, .ref a3, .str "web", .ref h, .ref a4]) nL
    have F5 : ∀ y ∈ [V.non, .int 0, .ref a1, .ref a2, .ref a3, .str "web", .ref h, .ref a4], Firm K C L (upd H4 L (.lst [V.non, .int 0, .ref a1, .ref a2, .ref a3, .str "web", .ref h, .ref a4])) pl qs y := fun y hy => Firm.old nL s5 (U4 y hy)
    have hL5 := upd_same (H := H4) (a := L) (o := .lst [V.non, .int 0, .ref a1, .ref a2, .ref a3, .str "web", .ref h, .ref a4])
    have lx : [V.non, .int 0, .ref a1, .ref a2, .ref a3, .str "web", .ref h, .ref a4].length = 8 := rfl
    have nH : H L = none := s4.free nL
    replace s5 := s4.trans s5
    generalize [V.non, .int 0, .ref a1, .ref a2, .ref a3, .str "web", .ref h, .ref a4] = xs at s5 F5 hL5 lx ⊢
    generalize upd H4 L (.lst xs) = H5 at s5 F5 hL5 ⊢
    clear U4 e1 e2 e3 e4
    refine ⟨(by show 3 ≤ sizeLine; decide), fun z1 nz1 => ⟨_, rfl, tupD [0, 0, 0], (ps.map (·.2)).map tupD, .tup (SqT.of (xs := [V.int 0, V.int 0, V.int 0]) upd_same) (dp_ints [0, 0, 0]), ?_, tup_sh _, lis_shaped _, _, rfl, iteE (any_eqv [0, 0, 0] (ps.map (·.2))) ?_⟩⟩
    · have sz := s5.trans (upd_same_as (o := .tup [V.int 0, V.int 0, V.int 0]) nz1)
      exact dp_lis (sz _ _ hh) fun r hr2 => sz _ _ (ht r hr2)
    have sz := upd_same_as (o := .tup [V.int 0, V.int 0, V.int 0]) nz1
    generalize upd H5 z1 (.tup [V.int 0, V.int 0, V.int 0]) = H6 at sz ⊢
    have s6 := s5.trans sz
    have hL6 := sz _ _ hL5
    have F6 : ∀ y ∈ xs, Firm K C L H6 pl qs y := fun y hy H' k => F5 y hy H' fun c o e => k c o (sz c o e)
    by_cases m : [0, 0, 0] ∈ ps.map (·.2)
    · rw [decide_eq_true m]
      refine iteT ?_
      refine ⟨_, rfl, .inl ⟨rfl, _, SqL.of hL6⟩, _, rfl, _, rfl, h, rfl, ⟨_, SqL.of (s6 _ _ hh)⟩, fun D nD => filt_r (fun l => !decide (l = [0, 0, 0])) (s6 _ _ hh) (by omega) nD (fun r hr2 H' sm N M k => ⟨rfl, ?_⟩) (fun H7 s7 hD => ?_)⟩
      · refine ⟨_, rfl, (by show 3 ≤ sizeLine; decide), fun z1 nz1 => ⟨tupD r.2, tupD [0, 0, 0], ?_, .tup (SqT.of (xs := [V.int 0, V.int 0, V.int 0]) upd_same) (dp_ints [0, 0, 0]), tup_sh _, tup_sh _, _, rfl, iteE (c := !decide (r.2 = [0, 0, 0])) (by rw [tupD_eqv]) ?_⟩⟩
        · exact .tup (SqT.of (upd_same_as nz1 _ _ (sm _ _ (s6 _ _ (ht r hr2))))) (dp_ints _)
        · have k2 := k _ (upd_same_as (o := .tup [V.int 0, V.int 0, V.int 0]) nz1)
          by_cases e : r.2 = [0, 0, 0]
          · simp only [decide_eq_true e] at k2 ⊢
            exact k2
          · simp only [decide_eq_false e] at k2 ⊢
            exact ⟨_, rfl, k2⟩
      · have ht7 : TupsAt H7 (ps.filter fun q => !decide (q.2 = [0, 0, 0])) := fun r hr2 => s7 _ _ (s6 _ _ (ht r (List.mem_filter.mp hr2).1))
        intro x dx nx ndx _
        refine make_r nx ndx pp hD ht7 (hl.sift fun l => !decide (l = [0, 0, 0])) fun l2 rc2 H8 s8 W8 _ nl => ⟨rfl, ?_⟩
        have hL8 := s8 _ _ (s7 _ _ hL6)
        have sH8 := s6.trans (s7.trans s8)
        refine ⟨L, xs, _, rfl, rfl, hL8, small1000 (by omega), ?_⟩
        refine hq _ L (xs ++ [.ref x]) (fun c o e => by rw [upd_ne (ne_of_none e nH)]; exact sH8 _ _ e) upd_same nH (by rw [List.length_append, lx]; exact Nat.le_of_ble_eq_true rfl) fun y hy => Firm.upd ?_
        rcases List.mem_append.mp hy with hy | hy
        · exact (F6 y hy).up (s7.trans s8)
        · rw [List.mem_singleton.mp hy]
          refine Firm.web W8 (s7 _ _ hL6) s8 nx nl (.inr ?_)
          rw [hlen, (srt_perm _).length_eq]
          obtain ⟨r, hr2, er⟩ := List.mem_map.mp m
          have := (List.length_filter_lt_length_iff_exists (p := fun q : Addr × List Int => !decide (q.2 = [0, 0, 0]))).mpr ⟨r, hr2, by simp [er]⟩
          omega
    · rw [decide_eq_false m]
      refine iteF ?_
      refine ⟨_, rfl, .inl ⟨rfl, _, SqL.of hL6⟩, _, rfl, _, rfl, (by show 3 ≤ sizeLine; decide), fun z2 nz2 => ⟨(by show 1 ≤ sizeLine; decide), fun b nb => ?_⟩⟩
      have t1 := upd_same_as (o := .tup [V.int 0, V.int 0, V.int 0]) nz2
      have ez := upd_same_as (o := .lst [V.ref z2]) nb _ _ (upd_same (H := H6) (a := z2) (o := .tup [V.int 0, V.int 0, V.int 0]))
      have t2 := t1.trans (upd_same_as (o := .lst [V.ref z2]) nb)
      refine ⟨h, b, _, _, rfl, rfl, t2 _ _ (s6 _ _ hh), upd_same, by rw [List.length_map, sizeLine_eq]; show ps.length + 1 ≤ _; omega, fun D nD => ?_⟩
      have t3 := t2.trans (upd_same_as (o := .lst ((ps.map fun q => V.ref q.1) ++ [V.ref z2])) nD)
      replace ez := upd_same_as (o := .lst ((ps.map fun q => V.ref q.1) ++ [V.ref z2])) nD _ _ ez
      have eD := upd_same (H := upd (upd H6 z2 (.tup [V.int 0, V.int 0, V.int 0])) b (.lst [V.ref z2])) (a := D) (o := .lst ((ps.map fun q => V.ref q.1) ++ [V.ref z2]))
      generalize upd (upd (upd H6 z2 (.tup [V.int 0, V.int 0, V.int 0])) b (.lst [V.ref z2])) D (.lst ((ps.map fun q => V.ref q.1) ++ [V.ref z2])) = H7 at t3 ez eD ⊢
      have hD : H7 D = some (.lst ((ps ++ [(z2, ([0, 0, 0] : List Int))]).map fun q => V.ref q.1)) := by
        rw [List.map_append]
        exact eD
      have ht7 : TupsAt H7 (ps ++ [(z2, ([0, 0, 0] : List Int))]) := fun r hr2 => by
        rcases List.mem_append.mp hr2 with hr2 | hr2
        · exact t3 _ _ (s6 _ _ (ht r hr2))
        · rw [List.mem_singleton.mp hr2]
          exact ez
      have hl7 : Lnks pl ((ps ++ [(z2, ([0, 0, 0] : List Int))]).map (·.2)) := by
        rw [List.map_append]
        refine ⟨fun x hx => ?_, ?_, ?_⟩
        · rcases List.mem_append.mp hx with hx | hx
          · exact hl.one x hx
          · rw [List.mem_singleton.mp hx]
            exact lnk0 pp
        · refine List.nodup_append.mpr ⟨hl.nd, List.nodup_cons.mpr ⟨List.not_mem_nil, List.nodup_nil⟩, fun x hx y hy e => ?_⟩
          rw [List.mem_singleton.mp hy] at e
          have e : x = [0, 0, 0] := e
          rw [e] at hx
          exact m hx
        · rw [List.length_append, List.length_map]
          show ps.length + 1 ≤ 20
          omega
      intro x dx nx ndx _
      refine make_r nx ndx pp hD ht7 hl7 fun l2 rc2 H8 s8 W8 _ nl => ⟨rfl, ?_⟩
      have hL8 := s8 _ _ (t3 _ _ hL6)
      have sH8 := s6.trans (t3.trans s8)
      refine ⟨L, xs, _, rfl, rfl, hL8, small1000 (by omega), ?_⟩
      refine hq _ L (xs ++ [.ref x]) (fun c o e => by rw [upd_ne (ne_of_none e nH)]; exact sH8 _ _ e) upd_same nH (by rw [List.length_append, lx]; exact Nat.le_of_ble_eq_true rfl) fun y hy => Firm.upd ?_
      rcases List.mem_append.mp hy with hy | hy
      · exact (F6 y hy).up (t3.trans s8)
      · rw [List.mem_singleton.mp hy]
        refine Firm.web W8 (t3 _ _ hL6) s8 nx nl (.inr ?_)
        rw [hlen, (srt_perm _).length_eq, List.length_append]
        show ps.length ≠ ps.length + 1
        omega
end
end Kx
/-! The law. -/
namespace Kx
open PySem PySem.Spec PyProof.Rows L2 Xa Xb Xc Xd Xs Xp Xm Xr Xl Xt Yl Ym Yn Yo Yp
abbrev sLaw : Stmt := top 26
/-! ### facts -/
theorem Gen.up {H : Hp} {g : Addr} {n m : Nat} (h : n ≤ m) : Gen H g n → Gen H g m := fun ⟨g0, g1, g2, h1, h2, h3, h4, h5, h6, h7⟩ => ⟨g0, g1, g2, h1, h2, h3, h4, h5, h6, by omega⟩
theorem Gen.to {H H' : Hp} {g : Addr} {n : Nat} (e : ∀ o, H g = some o → H' g = some o) : Gen H g n → Gen H' g n := fun ⟨g0, g1, g2, h1, r⟩ => ⟨g0, g1, g2, e _ h1, r⟩
theorem Gen.some_ {H : Hp} {g : Addr} {n : Nat} : Gen H g n → ∃ xs, H g = some (.lst xs) := fun ⟨_, _, _, h, _⟩ => ⟨_, h⟩
theorem map_erase {α β : Type} (f : α → β) : ∀ (l : List α) (k : Nat), (l.map f).eraseIdx k = (l.eraseIdx k).map f
  | [], _ => by simp
  | a :: l, 0 => by simp
  | a :: l, k + 1 => by simp [map_erase f l k]
theorem erase_perm {α : Type} : ∀ (l : List α) (k : Nat) (x : α), l[k]? = some x → (x :: l.eraseIdx k).Perm l
  | [], k, x, h => by simp at h
  | a :: l, 0, x, h => by
    obtain rfl : a = x := by simpa using h
    simp
  | a :: l, k + 1, x, h => by
    have ih := erase_perm l k x (by simpa using h)
    rw [List.eraseIdx_cons_succ]
    exact (List.Perm.swap a x _).trans (ih.cons a)
/-- the reach is the greatest distance -/
theorem reach_one {rc m : Int} {ls : List (List Int)} (R : Reach rc ls) (lk : ∀ l ∈ ls, ∃ i j d, l = [i, j, d]) (hm : m ∈ 1 :: ls.map absd) (hle : ∀ y ∈ 1 :: ls.map absd, y ≤ m) : rc = m := by
  obtain ⟨r1, r2, r3⟩ := R
  have ab : ∀ {i j d : Int}, absd [i, j, d] = if d < 0 then -d else d := rfl
  have le1 : m ≤ rc := by
    rcases List.mem_cons.mp hm with e | e
    · omega
    · obtain ⟨l, hl, rfl⟩ := List.mem_map.mp e
      obtain ⟨i, j, d, rfl⟩ := lk l hl
      have := r2 _ hl i j d rfl
      rw [ab]
      split <;> omega
  have le2 : rc ≤ m := by
    rcases r3 with e | ⟨l, hl, i, j, d, rfl, e⟩
    · have := hle 1 List.mem_cons_self
      omega
    · have y := hle _ (List.mem_cons_of_mem _ (List.mem_map.mpr ⟨_, hl, rfl⟩))
      rw [ab] at y
      split at y <;> omega
  omega
theorem Reach.perm {rc : Int} {l m : List (List Int)} (p : l.Perm m) (R : Reach rc l) : Reach rc m :=
  ⟨R.1, fun x hx => R.2.1 x (p.mem_iff.mpr hx), R.2.2.imp id fun ⟨x, hx, r⟩ => ⟨x, p.mem_iff.mp hx, r⟩⟩
theorem Reach.small {pl rc : Int} {ls : List (List Int)} (R : Reach rc ls) (pp : pl = 1 ∨ pl = 2) (h : ∀ l ∈ ls, Lnk pl l) : 1 ≤ rc ∧ rc ≤ 2 := by
  obtain ⟨r1, r2, r3⟩ := R
  refine ⟨r1, ?_⟩
  rcases r3 with e | ⟨l, hl, i, j, d, rfl, e⟩
  · omega
  · obtain ⟨i1, j1, d1, e1, _, _, _, _, h5, h6⟩ := h _ hl
    injection e1 with _ e1
    injection e1 with _ e1
    injection e1 with e1 _
    omega
theorem Lnks.short {pl : Int} {ls : List (List Int)} (pp : pl = 1 ∨ pl = 2) (h : Lnks pl ls) : Short ls := by
  refine ⟨by have := h.few; omega, fun l hl => ?_⟩
  obtain ⟨i, j, d, rfl, h1, h2, h3, h4, h5, h6⟩ := h.one l hl
  refine ⟨by simp, fun z hz => ?_⟩
  have e30 : (10 : Nat) ^ 30 = 1000000000000000000000000000000 := by decide
  simp only [List.mem_cons, List.not_mem_nil, or_false] at hz
  rcases hz with rfl | rfl | rfl <;> omega
/-- [places, reach, hears] as a datum -/
def triD (pl rc : Int) (ls : List (List Int)) : PyData := .list [.int pl, .int rc, lisD ls]
theorem tri_in {K : PySem.W.Frag} {H : Hp} {t u : Addr} {pl rc : Int} {ks : List (Addr × List Int)} (ht : H t = some (.lst [.int pl, .int rc, .ref u])) (h : H u = some (.lst (ks.map fun q => V.ref q.1))) (tu : ∀ q ∈ ks, H q.1 = some (.tup (q.2.map V.int)))
    (p1 : pl.natAbs < 10 ^ 30) (r1 : rc.natAbs < 10 ^ 30) (s : Short (ks.map (·.2))) :
    Dq K H (.ref t) (triD pl rc (ks.map (·.2))) [t, u] ∧ ((triD pl rc (ks.map (·.2))).hasDict = true → sysModules ∉ [t, u]) ∧ (triD pl rc (ks.map (·.2))).showable = true ∧ (triD pl rc (ks.map (·.2))).depth ≤ 60 ∧ (triD pl rc (ks.map (·.2))).shown.length ≤ sizeLine := by
  obtain ⟨d1, d2, d3, d4, d5⟩ := lis_in (K := K) h tu s
  have sh : ∀ z : Int, z.natAbs < 10 ^ 30 → (PyData.int z).showable = true := fun z hz => by
    have := ints_showable [z] (fun y hy => by rw [List.mem_singleton.mp hy] <;> exact hz)
    simpa [PyData.showableAll] using this
  refine ⟨.lst (SqL.of ht) (.cons (l1 := []) (.int pl) (.cons (l1 := []) (.int rc) (.cons (l1 := [u]) d1 .nil))), fun z => ?_, ?_, ?_, ?_⟩
  · have nd := tups_nodict (ks.map (·.2))
    generalize ks.map (·.2) = ls at nd z
    simp [triD, lisD, PyData.hasDict, PyData.hasDictAll, nd] at z
  · simp only [triD, PyData.showable, PyData.showableAll, Bool.and_true, Bool.and_eq_true]
    exact ⟨sh pl p1, sh rc r1, d3⟩
  · have := lis_depth (ks.map (·.2))
    simp only [triD, PyData.depth, PyData.depthAll]
    omega
  · obtain ⟨h1, h2⟩ := s
    have h3 := tups_short (ks.map (·.2)) fun l hl => (h2 l hl).2
    have h4 := tups_weight (ks.map (·.2)) h2
    have h5 := ints_short [pl, rc] (fun y hy => by
      simp only [List.mem_cons, List.not_mem_nil, or_false] at hy
      rcases hy with rfl | rfl
      · exact p1
      · exact r1)
    have h6 := ints_weight [pl, rc] (fun y hy => by
      simp only [List.mem_cons, List.not_mem_nil, or_false] at hy
      rcases hy with rfl | rfl
      · exact p1
      · exact r1)
    have h7 := PyData.shown_le 32 (by decide) (triD pl rc (ks.map (·.2))) (by
      simp only [List.map_cons, List.map_nil, PyData.leavesShortAll, Bool.and_true, Bool.and_eq_true] at h5
      simp only [triD, lisD, PyData.leavesShort, PyData.leavesShortAll, Bool.and_true, Bool.and_eq_true]
      exact ⟨h5.1, h5.2, h3⟩)
    have h8 : (triD pl rc (ks.map (·.2))).weight ≤ 304 * 66 := by
      simp only [List.map_cons, List.map_nil, PyData.weightAll, List.length_cons, List.length_nil] at h6
      simp only [triD, lisD, PyData.weight, PyData.weightAll] at h6 ⊢
      omega
    have h9 : (32 + 2) * (triD pl rc (ks.map (·.2))).weight ≤ 34 * (304 * 66) := Nat.mul_le_mul (Nat.le_refl _) h8
    rw [sizeLine_eq]
    omega

section
variable {P : Program} {w : World} {K : PySem.W.Frag} {mg : Str → Option Value} {base : Heap} {f C CN CL CI : Addr} {fd : FuncData}
/-- the law's own functions -/
structure LawF (P : Program) (w : World) (K : PySem.W.Frag) (mg : Str → Option Value) (base : Heap) (C : Addr) : Prop where
  gen : CanG P w K mg base 2 "_law_generator" ["script", "index"] (spGener K)
  rnd : CanG P w K mg base 2 "_law_random" ["generator", "bound"] spRandom
  par : CanG P w K mg base 3 "_law_web_parts" ["generator"] spParts
  unl : CanG P w K mg base 7 "_law_unlike_right" ["first", "places", "links"] (spUnlike C)
  ref : CanG P w K mg base 8 "_law_refused" ["places", "links"] spRefused
def spLaw (K : PySem.W.Frag) : Sp := fun xs H Q _ => ∃ (a : Addr) (ns : List Int), xs = [.ref a] ∧ SqL K H a (ns.map V.int) ∧ ∀ H', Q (.bl true) H'
theorem scLaw : FnScope ["script", "index", "generator", "places", "links", "turned", "left", "given", "first", "twin", "due", "link", "told"] ["script"] (defScope sLaw) := ⟨rfl, rfl, rfl, by decide +kernel, rfl, by decide +kernel, by decide +kernel⟩
/-- what is popped and what is left -/
structure Pop (H : Hp) (A B gA : Addr) (ps ts qs : List (Addr × List Int)) (n : Nat) : Prop where
  la : H A = some (.lst (ts.map fun q => V.ref q.1))
  lb : H B = some (.lst (qs.map fun q => V.ref q.1))
  pm : (ts ++ qs).Perm ps
  gn : Gen H gA n
theorem fn_law (F : FnP K "law" sLaw f fd) (B : Bi2 mg) (WK : WebK P w K mg base C CN CL CI) (LF : LawF P w K mg base C) : FnG P w K mg base 9 f fd ["script"] (spLaw K) := by
  have WK0 := WK
  obtain ⟨T, WD, ⟨fI, fdI, mI, oI, bI⟩, ⟨fH, fdH, mH, oH, bH⟩, ⟨fE, fdE, oE, hsE, hfE, bE⟩, hne, hob, _⟩ := WK0
  obtain ⟨cG, cR, cP, cU, cF⟩ := LF
  refine okG F scLaw (fun xs H Q E h => ?_) (fun cdv A outer s H vs Q E hr hn h => ?_)
  · obtain ⟨a, ns, rfl, _⟩ := h
    rfl
  · obtain ⟨sa, ns, rfl, hS, q⟩ := h
    have h1 := hr.mono (show 1 ≤ 8 by decide)
    have h2 := hr.mono (show 2 ≤ 8 by decide)
    have h6 := hr.mono (show 6 ≤ 8 by decide)
    have h7 := hr.mono (show 7 ≤ 8 by decide)
    refine ⟨_, PSs.nox <| pss_cons (ps_for PassesOwn.never rfl (pi_range1 (by rfl) B.range <| pa1 pe_int) (pg_name (i := 1) scLaw.nd rfl (.inl rfl)) <|
        pss_cons (ps_set (i := 2) scLaw.nd rfl (.inl rfl) <| pe_canG cG h2 hn <| pa_cons (pv 0) <| pa1 <| pv 1) <|
        pss_cons (ps_asg (pe_canG cP (hr.mono (by decide)) hn <| pa1 <| pv 2) <| pg_tup (by rfl) <| pgs_cons (pg_name (i := 3) scLaw.nd rfl (.inl rfl)) <| pgs_cons (pg_name (i := 4) scLaw.nd rfl (.inl rfl)) pgs_nil) <|
        pss_cons (ps_par (i := 5) (j := 6) (by rfl) scLaw.nd rfl rfl (by decide) rfl rfl (pa_cons (pe_lst pa_nil) <| pa1 <| pe_ty call_list_of B.list <| pa1 <| pv 4) (by rfl)) <|
        pss_cons (ps_while PassesOwn.never (pt_cmpR (op_neD hr.units) (pv 6) (pe_lst pa_nil) (nomark _)) <|
          pss_one <| ps_expr <| pe_bm PySem.F.plainAttrs_list PySem.F.slot_list_append PySem.F.type_list_append mt_append (pv 5) <| pa1 <|
            pe_bm PySem.F.plainAttrs_list PySem.F.slot_list_pop PySem.F.type_list_pop mt_popAt (pv 6) <| pa1 <| pe_canG cR h2 hn <| pa_cons (pv 2) <| pa1 <| pe_bi call_len_seq B.len <| pa1 <| pv 6) <|
        pss_cons (ps_set (i := 7) scLaw.nd rfl (.inl rfl) <| pe_ty call_list_of B.list <| pa1 <| pv 5) <|
        pss_cons (ps_par (i := 8) (j := 9) (by rfl) scLaw.nd rfl rfl (by decide) rfl rfl (pa_cons (pe_make (E := E0) mI oI h6 (by rfl) T.gl bI .nil pass00 <| pa_cons (pv 3) <| pa1 <| pv 7) <| pa1 <| pe_make (E := E0) mI oI h6 (by rfl) T.gl bI .nil pass00 <| pa_cons (pv 3) <| pa1 <| pv 4) (by rfl)) <|
        pss_cons (ps_expr <| pe_bm PySem.F.plainAttrs_list PySem.F.slot_list_append PySem.F.type_list_append mt_append (pv 7) <| pa1 pe_non) <|
        pss_cons (ps_set (i := 10) scLaw.nd rfl (.inl rfl) <| pe_lst <| pa_cons (pv 3) <| pa_cons (pe_bi (cr_max rfl) B.max <| pa1 <| pe_op op_cat (pe_lst <| pa1 pe_int) <| pe_lc (own := [("link", 11)]) (g := gName 11) (tt := tYes) rfl scLaw.nd (pi_list <| pv 4)
            (blkOk_by (own := [("link", 11)]) (N := ["script", "index", "generator", "places", "links", "turned", "left", "given", "first", "twin", "due", "link", "told"]) (sc := defScope sLaw) (by decide +kernel))
            (fun _ _ _ _ _ => pg_name (i := 11) scLaw.nd rfl (Or.inl rfl)) (fun _ _ _ _ _ => pts_nil) (fun _ _ _ _ _ => pe_bi call_abs B.abs <| pa1 <| pe_ty call_int1 B.int <| pa1 <| pe_ix (r := rIxT K) ix_tup (pv 11) pe_int (fun _ _ => rfl))) <|
            pa1 <| pe_bi (cr_sortL rfl hr.units) B.sorted <| pa1 <| pv 4) <|
        pss_cons (ps_if (PW.pt <| pw_or (pt_cmpR op_ne (pe_bi (call_repr hn hr.units) B.repr <| pa1 <| pe_lst <| pa_cons (pe_fld (pv 8) rfl) <| pa_cons (pe_fld (pv 8) rfl) <| pa1 <| pe_meth0 (pv 8) T.cl mH oH h1 bH .nil pass0)
              (pe_bi (call_repr hn hr.units) B.repr <| pa1 <| pv 10) (nomark _)) <|
            pw_or (pt_cmpR (op_ownNe oE hsE hfE hne hob bE pass0 h2) (pv 8) (pv 9) (nomark _)) <| pw_or1 <| pt_not <| pt_cmpR (op_ownEq oE hsE hfE bE pass0 h1) (pv 9) (pv 8) (nomark _)) (pss_one <| ps_ret pe_bl) pss_nil) <|
        pss_cons (ps_set (i := 12) scLaw.nd rfl (.inl rfl) <| pe_meth0 (pv 8) T.cl mH oH h1 bH .nil pass0) <|
        pss_cons (ps_expr <| pe_bm PySem.F.plainAttrs_list PySem.F.slot_list_append PySem.F.type_list_append mt_append (pv 12) <| pa1 pe_non) <|
        pss_one <| ps_if (PW.pt <| pw_or (pt_cmpR (op_neD hr.units) (pe_meth0 (pv 8) T.cl mH oH h1 bH .nil pass0) (pe_ix ix_list (pv 10) pe_int (fun _ _ => rfl)) (nomark _)) <|
            pw_or (pt_not <| pt_val <| pe_canG cU h7 hn <| pa_cons (pv 8) <| pa_cons (pv 3) <| pa1 <| pv 4) <| pw_or1 <| pt_not <| pt_val <| pe_canG cF hr hn <| pa_cons (pv 3) <| pa1 <| pv 5) (pss_one <| ps_ret pe_bl) pss_nil) <|
      pss_one <| ps_ret <| pe_and (pe_cmpR op_eq (pe_fld (pe_make (E := E0) mI oI h6 (by rfl) T.gl bI .nil pass00 <| pa_cons pe_int <| pa1 <| pe_lst pa_nil) rfl) pe_int (nomark _)) <|
        pe_one <| pe_cmpR (op_eqD hr.units) (pe_meth0 (pe_make (E := E0) mI oI h6 (by rfl) T.gl bI .nil pass00 <| pa_cons pe_int <| pa1 <| pe_lst pa_nil) T.cl mH oH h1 bH .nil pass0) (pe_lst pa_nil) (nomark _), ?_⟩
    refine ⟨_, rfl, by decide, by decide, for_range (lo := 0) (fun i σ H' => ∃ v1 v2 v3 v4 v5 v6 v7 v8 v9 v10 v12 : Option V, σ = [some (.ref sa), v1, v2, v3, v4, v5, v6, v7, v8, v9, v10, none, v12] ∧ Same H H')
      ⟨_, _, _, _, _, _, _, _, _, _, _, rfl, Same.refl _⟩ ?_ fun σ H' ⟨_, _, _, _, _, _, _, _, _, _, _, e, _⟩ => ?_⟩
    · rintro i σ H0 hi ⟨v1, v2, v3, v4, v5, v6, v7, v8, v9, v10, v12, rfl, s0⟩
      have hi5 : i < 5 := hi
      refine ⟨_, rfl, _, rfl, sa, ns, i, by simp, by omega, s0.seq hS, fun gA H1 ng s1 G1 => ?_⟩
      refine ⟨_, rfl, gA, 1000 * i, rfl, G1, by omega, fun pl ps t a H2 p1 p2 L b2 G2 nt na ta htp hla tu nw => ?_⟩
      have pp : pl = 1 ∨ pl = 2 := by omega
      have few := L.few14 pp
      rw [List.length_map] at few
      refine ⟨t, _, rfl, SqT.of htp, rfl, .int pl, _, rfl, .ref a, _, rfl, rfl, ?_⟩
      refine ⟨(by show 0 ≤ sizeLine; decide), fun A nA => ⟨_, rfl, a, _, rfl, .inl (SqL.of (upd_same_as nA _ _ hla)), fun Bq nB => ⟨_, _, rfl, ?_⟩⟩⟩
      have sA := upd_same_as (o := .lst ([] : List V)) nA
      have sB := upd_same_as (o := .lst (ps.map fun q => V.ref q.1)) nB
      have s23 := sA.trans sB
      have hA3 : (upd (upd H2 A (.lst ([] : List V))) Bq (.lst (ps.map fun q => V.ref q.1))) A = some (.lst []) := sB _ _ upd_same
      have hB3 : (upd (upd H2 A (.lst ([] : List V))) Bq (.lst (ps.map fun q => V.ref q.1))) Bq = some (.lst (ps.map fun q => V.ref q.1)) := upd_same
      have nB2 : H2 Bq = none := sA.free nB
      have AB : A ≠ Bq := fun e => by
        rw [← e, upd_same] at nB
        cases nB
      generalize upd (upd H2 A (.lst ([] : List V))) Bq (.lst (ps.map fun q => V.ref q.1)) = H3 at s23 hA3 hB3 ⊢
      clear sA sB nB
      have G3 := G2.to (s23 gA)
      have Ag : A ≠ gA := fun e => by
        obtain ⟨xs, y⟩ := G2.some_
        rw [e, y] at nA
        cases nA
      have Bg : Bq ≠ gA := fun e => by
        obtain ⟨xs, y⟩ := G2.some_
        rw [e, y] at nB2
        cases nB2
      have aA : a ≠ A := fun e => by
        rw [e, nA] at hla
        cases hla
      have aB : a ≠ Bq := fun e => by
        rw [e, nB2] at hla
        cases hla
      have aG : a ≠ gA := fun e => by
        obtain ⟨xs, y⟩ := G1.some_
        rw [e, y] at na
        cases na
      obtain ⟨Wh, eWh⟩ : ∃ Wh : Nat → L2.St → Hp → Prop, Wh = fun m σ H' => ∃ ts qs, m = qs.length ∧ σ = [some (.ref sa), some (.int (0 + (i : Int))), some (.ref gA), some (.int pl), some (.ref a), some (.ref A), some (.ref Bq), v7, v8, v9, v10, none, v12] ∧ Pop H' A Bq gA ps ts qs (1000 * i + 200 + 4 * ts.length) ∧
        ∀ c o, H3 c = some o → c ≠ A → c ≠ Bq → c ≠ gA → H' c = some o := ⟨_, rfl⟩
      refine ⟨Wh, ⟨ps.length, by rw [eWh]; exact ⟨[], ps, rfl, rfl, ⟨hA3, hB3, List.Perm.refl _, G3⟩, fun c o e _ _ _ => e⟩⟩, fun m σ H4 w4 => ?_⟩
      rw [eWh] at w4
      obtain ⟨ts, qs, rfl, rfl, P4, kp4⟩ := w4
      have tu4 : ∀ q ∈ ps, H4 q.1 = some (.tup (q.2.map V.int)) := fun q hq => by
        have y := s23 _ _ (tu q hq)
        obtain ⟨xs, yg⟩ := G3.some_
        exact kp4 _ _ y (ne_of y hA3 (by intro z; cases z)) (ne_of y hB3 (by intro z; cases z)) (ne_of y yg (by intro z; cases z))
      have tlen : ts.length + qs.length = ps.length := by
        rw [← List.length_append, P4.pm.length_eq]
      refine ⟨_, rfl, (by show 0 ≤ sizeLine; decide), fun a0 n0 => ?_⟩
      have s40 := upd_same_as (o := .lst ([] : List V)) n0
      refine ⟨lisD (qs.map (·.2)), lisD [], dp_lis (s40 _ _ P4.lb) (fun q hq => s40 _ _ (tu4 q (P4.pm.mem_iff.mp (List.mem_append_right _ hq)))), .lst (SqL.of upd_same) .nil, lis_shaped _, lis_shaped _, _, rfl, ?_⟩
      have a0A : A ≠ a0 := ne_of_none P4.la n0
      have P5 : Pop (upd H4 a0 (.lst ([] : List V))) A Bq gA ps ts qs (1000 * i + 200 + 4 * ts.length) := ⟨s40 _ _ P4.la, s40 _ _ P4.lb, P4.pm, P4.gn.to (s40 gA)⟩
      have kp5 : ∀ c o, H3 c = some o → c ≠ A → c ≠ Bq → c ≠ gA → (upd H4 a0 (.lst ([] : List V))) c = some o := fun c o e h1 h2 h3 => s40 _ _ (kp4 c o e h1 h2 h3)
      have tu5 : ∀ q ∈ ps, (upd H4 a0 (.lst ([] : List V))) q.1 = some (.tup (q.2.map V.int)) := fun q hq => s40 _ _ (tu4 q hq)
      generalize upd H4 a0 (.lst ([] : List V)) = H5 at P5 kp5 tu5 ⊢
      clear P4 kp4 tu4 s40 n0 a0A
      cases qs with
      | cons q0 qs =>
        have e0 : (!PyData.eqv (lisD ((q0 :: qs).map (·.2))) (lisD [])) = true := by simp [lisD, PyData.eqv, PyData.eqvAll]
        rw [e0]
        refine iteT ⟨fun σ' H' => ∃ m', m' < (q0 :: qs).length ∧ Wh m' σ' H', fun _ _ z => z, ?_⟩
        generalize hqs : q0 :: qs = qq at P5 tlen ⊢
        have ql : 0 < qq.length := by rw [← hqs]; exact Nat.succ_pos _
        refine ⟨_, rfl, .inl ⟨rfl, _, SqL.of P5.la⟩, _, rfl, .inl ⟨rfl, _, SqL.of P5.lb⟩, _, rfl, _, rfl, Bq, _, rfl, .inl (SqL.of P5.lb), gA, ((qq.map fun q => V.ref q.1).length : Nat), _, rfl, ?_, ?_, P5.gn, ?_, fun r H6 r0 r1 G6 k6 => ?_⟩
        · rw [List.length_map]
          omega
        · rw [List.length_map]
          omega
        · omega
        rw [List.length_map] at r1
        obtain ⟨k, rfl⟩ : ∃ k : Nat, r = k := ⟨r.toNat, by omega⟩
        have kl : k < qq.length := by omega
        have hk : qq[k]? = some qq[k] := List.getElem?_eq_getElem kl
        have hB6 : H6 Bq = some (.lst (qq.map fun q => V.ref q.1)) := by rw [k6 Bq Bg]; exact P5.lb
        have hA6 : H6 A = some (.lst (ts.map fun q => V.ref q.1)) := by rw [k6 A Ag]; exact P5.la
        refine ⟨Bq, _, k, k, .ref qq[k].1, rfl, rfl, hB6, by omega, by omega, ?_, ?_, ?_⟩
        · unfold seqIndex?
          rw [List.length_map]
          have h1 : ¬ ((k : Int) < 0) := by omega
          simp only [h1, if_false]
          rw [if_pos (by simp; omega)]
          simp
        · rw [List.getElem?_map, hk]
          rfl
        refine ⟨A, _, _, rfl, rfl, by rw [upd_ne AB]; exact hA6, ?_, ?_⟩
        · rw [List.length_map]
          exact small1000 (by omega)
        rw [eWh]
        have lt : (qq.eraseIdx k).length < qq.length := by
          rw [List.length_eraseIdx_of_lt kl]
          omega
        refine ⟨(qq.eraseIdx k).length, lt, ts ++ [qq[k]], qq.eraseIdx k, rfl, rfl, ⟨?_, ?_, ?_, ?_⟩, fun c o e c1 c2 c3 => ?_⟩
        · rw [upd_same, List.map_append]
          rfl
        · rw [upd_ne (Ne.symm AB), upd_same, map_erase]
        · refine List.Perm.trans ?_ P5.pm
          rw [List.append_assoc]
          exact (erase_perm qq k _ hk).append_left ts
        · have G7 : Gen H6 gA (1000 * i + 200 + 4 * (ts ++ [qq[k]]).length) := G6.up (by rw [List.length_append, List.length_singleton]; omega)
          exact G7.to fun o e => by
            rw [upd_ne (Ne.symm Ag), upd_ne (Ne.symm Bg)]
            exact e
        · rw [upd_ne c1, upd_ne c2, k6 c c3]
          exact kp5 c o e c1 c2 c3
      | nil =>
        have e0 : (!PyData.eqv (lisD (([] : List (Addr × List Int)).map (·.2))) (lisD [])) = false := by
          show (!PyData.eqv (lisD []) (lisD [])) = false
          rw [lis_eqv]
          rfl
        rw [e0]
        refine iteF ?_
        clear eWh Wh
        have pm : ts.Perm ps := by simpa using P5.pm
        have hla5 : H5 a = some (.lst (ps.map fun q => V.ref q.1)) := kp5 _ _ (s23 _ _ hla) aA aB aG
        have hA5 := P5.la
        have Lt : Lnks pl (ts.map (·.2)) := L.perm (pm.map _).symm
        have tuT5 : TupsAt H5 ts := fun q hq => tu5 q (pm.mem_iff.mp hq)
        have few2 : ts.length ≤ 14 := by rw [pm.length_eq]; exact few
        have keep05 : ∀ c o, H0 c = some o → H5 c = some o := fun c o e => by
          have cg : c ≠ gA := ne_of_none e ng
          have e2 := b2 c o (s1 c o e) cg
          exact kp5 c o (s23 c o e2) (ne_of_none e2 nA) (ne_of_none e2 nB2) cg
        clear kp5 P5
        -- given, first, twin
        refine ⟨_, rfl, A, _, rfl, .inl (SqL.of hA5), fun G nG => ?_⟩
        have s6 := upd_same_as (o := .lst (ts.map fun q => V.ref q.1)) nG
        have hG6 := upd_same (H := H5) (a := G) (o := .lst (ts.map fun q => V.ref q.1))
        generalize upd H5 G (.lst (ts.map fun q => V.ref q.1)) = H6 at s6 hG6 ⊢
        refine ⟨_, rfl, _, rfl, ?_⟩
        intro x1 dx1 nx1 ndx1 _
        refine make_r nx1 ndx1 pp hG6 (fun q hq => s6 _ _ (tuT5 q hq)) Lt fun l1 rc1 H7 s7 W1 R1 nl1 => ⟨rfl, ?_⟩
        refine ⟨_, rfl, _, rfl, ?_⟩
        intro x2 dx2 nx2 ndx2 _
        refine make_r nx2 ndx2 pp (s7 _ _ (s6 _ _ hla5)) (fun q hq => s7 _ _ (s6 _ _ (tu5 q hq))) L fun l2 rc2 H8 s8 W2 R2 nl2 => ⟨rfl, ?_⟩
        refine ⟨_, _, rfl, ?_⟩
        have hG8 := s8 _ _ (s7 _ _ hG6)
        have W1 := W1.same s8
        refine ⟨_, rfl, .inl ⟨rfl, _, SqL.of hG8⟩, G, _, _, rfl, rfl, hG8, by rw [List.length_map]; exact small1000 (by omega), ?_⟩
        have s58 := s6.trans (s7.trans s8)
        have s59 : Same H5 (upd H8 G (.lst ((ts.map fun q => V.ref q.1) ++ [.non]))) := fun c o e => by
          rw [upd_ne (ne_of_none e nG)]
          exact s58 _ _ e
        have firm : ∀ {x l : Addr} {rc : Int} {qs : List (Addr × List Int)}, WebAt C H8 x pl rc l qs → H6 x = none → H6 l = none → WebAt C (upd H8 G (.lst ((ts.map fun q => V.ref q.1) ++ [.non]))) x pl rc l qs := fun {x l rc qs} W n1 n2 => by
          obtain ⟨⟨dx, ob⟩, li, tt⟩ := W
          refine ⟨⟨dx, ?_⟩, ?_, fun q hq => ?_⟩
          · rw [upd_ne (fun e => by rw [e, hG6] at n1; cases n1)]
            exact ob
          · rw [upd_ne (fun e => by rw [e, hG6] at n2; cases n2)]
            exact li
          · rw [upd_ne (ne_of (tt q hq) hG8 (by intro z; cases z))]
            exact tt q hq
        have W1 := firm W1 nx1 nl1
        have W2 := firm W2 (s7.free nx2) (s7.free nl2)
        generalize upd H8 G (.lst ((ts.map fun q => V.ref q.1) ++ [.non])) = H9 at s59 W1 W2 ⊢
        clear firm
        -- due
        refine ⟨_, rfl, (by show 1 ≤ sizeLine; decide), fun a1 m1 => ?_⟩
        have s10 := s59.trans (upd_same_as (o := .lst [V.int 1]) m1)
        have W1 := W1.same (upd_same_as (o := .lst [V.int 1]) m1)
        have W2 := W2.same (upd_same_as (o := .lst [V.int 1]) m1)
        have ga1 := upd_same (H := H9) (a := a1) (o := .lst [V.int 1])
        generalize upd H9 a1 (.lst [V.int 1]) = H10 at s10 W1 W2 ga1 ⊢
        have hla10 := s10 _ _ hla5
        have tu10 : TupsAt H10 ps := fun q hq => s10 _ _ (tu5 q hq)
        refine ⟨_, rfl, a, rfl, ⟨_, SqL.of hla10⟩, fun D nD => ?_⟩
        refine lc_list (K := K) (a := a) (xs := ps.map fun q => V.ref q.1) (fun i H' => H' = upd H10 D (.lst (((ps.take i).map fun q => absd q.2).map V.int))) rfl (fun i H' _ e => by
          rw [e]
          exact SqL.of (upd_same_as nD _ _ hla10)) ?_ ?_
        · rintro i x H' hx rfl
          obtain ⟨r, hr, rfl⟩ : ∃ r, ps[i]? = some r ∧ x = .ref r.1 := by
            rw [List.getElem?_map] at hx
            cases e : ps[i]? with
            | none =>
              rw [e] at hx
              cases hx
            | some r =>
              rw [e] at hx
              exact ⟨r, rfl, (Option.some.inj hx).symm⟩
          have rin := List.mem_of_getElem? hr
          obtain ⟨i1, j1, d1, el, b1⟩ := L.one r.2 (List.mem_map.mpr ⟨r, rin, rfl⟩)
          have tr := tu10 r rin
          rw [el] at tr
          refine ⟨rfl, lc_yes ?_⟩
          refine ⟨_, rfl, r.1, _, 2, .int d1, rfl, rfl, SqT.of (xs := [V.int i1, V.int j1, V.int d1]) (by rw [upd_ne (ne_of_none tr nD)]; exact tr), atI_nat (j := 2) rfl, .inl ⟨d1, rfl, d1, rfl, _, upd_same, ?_, ?_⟩⟩
          · rw [List.length_map, List.length_map]
            refine small1000 ?_
            rw [List.length_take]
            omega
          · rw [upd_upd, List.take_add_one, hr, List.map_append, List.map_append]
            have e : absd r.2 = if d1 < 0 then -d1 else d1 := by rw [el] <;> rfl
            show upd H10 D (.lst (_ ++ [V.int (if d1 < 0 then -d1 else d1)])) = upd H10 D (.lst (_ ++ [V.int (absd r.2)]))
            rw [e]
        · rintro H' rfl
          rw [List.length_map, List.take_length]
          have sD := upd_same_as (o := .lst ((ps.map fun q => absd q.2).map V.int)) nD
          have gD := upd_same (H := H10) (a := D) (o := .lst ((ps.map fun q => absd q.2).map V.int))
          have ga1 := sD _ _ ga1
          generalize upd H10 D (.lst ((ps.map fun q => absd q.2).map V.int)) = H11 at sD gD ga1 ⊢
          refine ⟨a1, D, [V.int 1], _, rfl, rfl, ga1, gD, ?_, fun b nb => ?_⟩
          · rw [List.length_map, List.length_map]
            show 1 + ps.length ≤ sizeLine
            exact Nat.le_of_lt (small1000 (by omega))
          refine ⟨b, 1 :: ps.map fun q => absd q.2, rfl, SqL.of upd_same, Nat.succ_pos _, fun mx hm hle => ?_⟩
          have em : ps.map (fun q => absd q.2) = (ps.map (·.2)).map absd := by rw [List.map_map] <;> rfl
          rw [em] at hm hle
          have lk3 : ∀ l ∈ ps.map (·.2), ∃ i j d, l = [i, j, d] := fun l hl2 => let ⟨i, j, d, e, _⟩ := L.one l hl2; ⟨i, j, d, e⟩
          have e1 : rc1 = mx := reach_one (R1.perm (pm.map _)) lk3 hm hle
          have e2 : rc2 = mx := reach_one R2 lk3 hm hle
          subst e1 e2
          obtain ⟨rs1, rs2⟩ := R2.small pp L.one
          have s12 := s10.trans (sD.trans (upd_same_as (o := .lst ([V.int 1] ++ (ps.map fun q => absd q.2).map V.int)) nb))
          have W1 := W1.same (sD.trans (upd_same_as (o := .lst ([V.int 1] ++ (ps.map fun q => absd q.2).map V.int)) nb))
          have W2 := W2.same (sD.trans (upd_same_as (o := .lst ([V.int 1] ++ (ps.map fun q => absd q.2).map V.int)) nb))
          generalize upd H11 b (.lst ([V.int 1] ++ (ps.map fun q => absd q.2).map V.int)) = H12 at s12 W1 W2 ⊢
          refine ⟨_, rfl, a, ps, 2, rfl, SqL.of (s12 _ _ hla5), fun r hr => SqT.of (s12 _ _ (tu5 r hr)), fun r hr => ?_, fun l3 nl3 => ⟨(by show 3 ≤ sizeLine; decide), fun LD nLD => ?_⟩⟩
          · obtain ⟨i1, j1, d1, el, _⟩ := L.one r.2 (List.mem_map.mpr ⟨r, hr, rfl⟩)
            rw [el] <;> rfl
          have s3 := upd_same_as (o := .lst ((srt ps).map fun q => V.ref q.1)) nl3
          have s4 := upd_same_as (o := .lst [V.int pl, V.int rc2, V.ref l3]) nLD
          have hl3 := s4 _ _ (upd_same (H := H12) (a := l3) (o := .lst ((srt ps).map fun q => V.ref q.1)))
          have hLD := upd_same (H := upd H12 l3 (.lst ((srt ps).map fun q => V.ref q.1))) (a := LD) (o := .lst [V.int pl, V.int rc2, V.ref l3])
          have s14 := s12.trans (s3.trans s4)
          have W1 := W1.same (s3.trans s4)
          have W2 := W2.same (s3.trans s4)
          generalize upd (upd H12 l3 (.lst ((srt ps).map fun q => V.ref q.1))) LD (.lst [V.int pl, V.int rc2, V.ref l3]) = H14 at s14 hl3 hLD W1 W2 ⊢
          clear s3 s4
          have es : (srt ts).map (·.2) = (srt ps).map (·.2) := srt_one (pm.map _)
          have tuS : TupsAt H14 (srt ps) := fun r hr => s14 _ _ (tu5 r ((srt_perm ps).mem_iff.mp hr))
          have shS : Short ((srt ps).map (·.2)) := Lnks.short pp (L.perm ((srt_perm ps).map _).symm)
          have shT : Short ((srt ts).map (·.2)) := by rw [es]; exact shS
          have e30 : (10 : Nat) ^ 30 = 1000000000000000000000000000000 := by decide
          have pn : pl.natAbs < 10 ^ 30 := by rw [e30]; omega
          have rn : rc2.natAbs < 10 ^ 30 := by rw [e30]; omega
          have nP := wf_no pl rc2 l1 (m := "hears") (by decide +kernel) (by decide +kernel) (by decide +kernel)
          -- told
          obtain ⟨dx1, ob1⟩ := W1.ob
          refine ⟨_, rfl, x1, C, dx1, _, _, rfl, ob1, T.cl, T.nP, wf_pl _ _ _, _, rfl, x1, C, dx1, _, _, rfl, ob1, T.cl, T.nR, wf_rc _ _ _, _, rfl, x1, dx1, _, rfl, ob1, nP, x1, l1, pl, rc2, srt ts, rfl, W1, fun a9 n9 => ⟨(by show 3 ≤ sizeLine; decide), fun LT nLT => ?_⟩⟩
          have s3 := upd_same_as (o := .lst ((srt ts).map fun q => V.ref q.1)) n9
          have s4 := upd_same_as (o := .lst [V.int pl, V.int rc2, V.ref a9]) nLT
          have h9 := s4 _ _ (upd_same (H := H14) (a := a9) (o := .lst ((srt ts).map fun q => V.ref q.1)))
          have hLT := upd_same (H := upd H14 a9 (.lst ((srt ts).map fun q => V.ref q.1))) (a := LT) (o := .lst [V.int pl, V.int rc2, V.ref a9])
          have s16 := s14.trans (s3.trans s4)
          have W1 := W1.same (s3.trans s4)
          have W2 := W2.same (s3.trans s4)
          replace hl3 := (s3.trans s4) _ _ hl3
          replace hLD := (s3.trans s4) _ _ hLD
          have tuS := fun q hq => (s3.trans s4) _ _ (tuS q hq)
          generalize upd (upd H14 a9 (.lst ((srt ts).map fun q => V.ref q.1))) LT (.lst [V.int pl, V.int rc2, V.ref a9]) = H16 at s16 hl3 hLD h9 hLT W1 W2 tuS ⊢
          clear s3 s4
          obtain ⟨y1, y2, y3, y4, y5⟩ := tri_in (K := K) hLT h9 W1.tu pn rn shT
          obtain ⟨z1, z2, z3, z4, z5⟩ := tri_in (K := K) hLD hl3 tuS pn rn shS
          refine ⟨.ref LT, _, _, rfl, y1, y2, y3, y4, y5, _, rfl, .ref LD, _, _, rfl, z1, z2, z3, z4, z5, rfl, _, rfl, iteE (c := false) (by rw [es]; simp) (iteF ?_)⟩
          have we : webEqv pl pl (srt ts) (srt ps) = true := by
            unfold webEqv
            rw [es, lis_eqv, decide_eq_true rfl]
            rfl
          have we2 : webEqv pl pl (srt ps) (srt ts) = true := by
            unfold webEqv
            rw [es, lis_eqv, decide_eq_true rfl]
            rfl
          obtain ⟨dx1, ob1⟩ := W1.ob
          obtain ⟨dx2, ob2⟩ := W2.ob
          refine ⟨_, rfl, _, rfl, x1, dx1, _, .ref C, rfl, ob1, .ins ob2, nf_own K C, x1, l1, pl, rc2, srt ts, .ref x2, rfl, W1, .inr ⟨x2, l2, pl, rc2, srt ps, rfl, W2, ?_⟩⟩
          rw [we]
          refine ⟨true, rfl, false, rfl, iteF ?_⟩
          refine ⟨_, rfl, _, rfl, x2, dx2, _, .ref C, rfl, ob2, .ins ob1, nf_own K C, x2, l2, pl, rc2, srt ps, .ref x1, rfl, W2, .inr ⟨x1, l1, pl, rc2, srt ts, rfl, W1, ?_⟩⟩
          rw [we2]
          refine ⟨true, rfl, true, rfl, iteF ?_⟩
          -- told is lengthened
          refine ⟨_, rfl, x1, dx1, _, rfl, ob1, nP, x1, l1, pl, rc2, srt ts, rfl, W1, fun a11 n11 => ?_⟩
          have few3 : (srt ts).length ≤ 14 := by rw [(srt_perm ts).length_eq]; exact few2
          refine ⟨_, rfl, .inl ⟨rfl, _, SqL.of upd_same⟩, a11, _, _, rfl, rfl, upd_same, by rw [List.length_map]; exact small1000 (by omega), ?_⟩
          have s18 : Same H16 (upd (upd H16 a11 (.lst ((srt ts).map fun q => V.ref q.1))) a11 (.lst (((srt ts).map fun q => V.ref q.1) ++ [.non]))) := fun c o e => by
            rw [upd_ne (ne_of_none e n11), upd_ne (ne_of_none e n11)]
            exact e
          generalize upd (upd H16 a11 (.lst ((srt ts).map fun q => V.ref q.1))) a11 (.lst (((srt ts).map fun q => V.ref q.1) ++ [.non])) = H18 at s18 ⊢
          have W1 := W1.same s18
          obtain ⟨dx1, ob1⟩ := W1.ob
          refine ⟨_, rfl, x1, dx1, _, rfl, ob1, nP, x1, l1, pl, rc2, srt ts, rfl, W1, fun a12 n12 => ?_⟩
          have s19 := upd_same_as (o := .lst ((srt ts).map fun q => V.ref q.1)) n12
          have h12 := upd_same (H := H18) (a := a12) (o := .lst ((srt ts).map fun q => V.ref q.1))
          have sE := s18.trans s19
          have W1 := W1.same s19
          generalize upd H18 a12 (.lst ((srt ts).map fun q => V.ref q.1)) = H19 at sE h12 W1 ⊢
          refine ⟨_, rfl, LD, _, 2, .ref l3, rfl, rfl, SqL.of (sE _ _ hLD), atI_nat (j := 2) rfl, lisD ((srt ts).map (·.2)), lisD ((srt ps).map (·.2)), dp_lis h12 W1.tu, dp_lis (sE _ _ hl3) (fun q hq => sE _ _ (tuS q hq)), lis_shaped _, lis_shaped _, _, rfl, ?_⟩
          rw [es, lis_eqv]
          refine iteF ?_
          have s519 := s16.trans sE
          refine ⟨_, rfl, _, rfl, _, rfl, x1, l1, a, pl, rc2, srt ts, ps, rfl, W1, pp, s519 _ _ hla5, fun q hq => s519 _ _ (tu5 q hq), L, by rw [(srt_perm ts).length_eq, pm.length_eq], fun H20 s20 => ⟨_, rfl, iteF ?_⟩⟩
          have s520 := s519.trans s20
          refine ⟨_, rfl, _, rfl, pl, A, ts, rfl, pp, s520 _ _ hA5, fun q hq => s520 _ _ (tuT5 q hq), Lt, fun H21 s21 => ⟨_, rfl, iteF ?_⟩⟩
          exact ⟨_, _, _, _, _, _, _, _, _, _, _, rfl, s0.trans fun c o e => (s520.trans s21) _ _ (keep05 c o e)⟩
    · subst e
      refine ⟨(by show 0 ≤ sizeLine; decide), fun D nD => ?_⟩
      intro x dx nx ndx _
      have e0 : (upd H' D (.lst ([] : List V))) D = some (.lst (([] : List (Addr × List Int)).map fun q => V.ref q.1)) := upd_same
      refine make_r nx ndx (.inl rfl) e0 (ps := []) (fun r hr2 => nomatch hr2) ⟨(fun l hl => nomatch hl), List.nodup_nil, Nat.zero_le _⟩ fun l2 rc2 H8 s8 W8 R8 nl => ⟨rfl, ?_⟩
      have r1 : rc2 = 1 := by
        rcases R8.2.2 with e | ⟨l, hl, _⟩
        · exact e
        · cases hl
      subst r1
      obtain ⟨dx8, ob8⟩ := W8.ob
      refine ⟨x, C, dx8, _, _, rfl, ob8, T.cl, T.nR, wf_rc _ _ _, rfl, ?_⟩
      refine ⟨true, by rw [decide_eq_true rfl], iteT ?_⟩
      refine ⟨(by show 0 ≤ sizeLine; decide), fun D2 nD2 => ?_⟩
      intro x2 dx2 nx2 ndx2 _
      have e2 : (upd H8 D2 (.lst ([] : List V))) D2 = some (.lst (([] : List (Addr × List Int)).map fun q => V.ref q.1)) := upd_same
      refine make_r nx2 ndx2 (.inr rfl) e2 (ps := []) (fun r hr2 => nomatch hr2) ⟨(fun l hl => nomatch hl), List.nodup_nil, Nat.zero_le _⟩ fun l3 rc3 H9 s9 W9 R9 nl3 => ⟨rfl, ?_⟩
      obtain ⟨dx9, ob9⟩ := W9.ob
      refine ⟨x2, dx9, _, rfl, ob9, wf_no _ _ _ (by decide +kernel) (by decide +kernel) (by decide +kernel), x2, l3, 2, rc3, srt [], rfl, W9, fun a9 n9 => ?_⟩
      refine ⟨(by show 0 ≤ sizeLine; decide), fun a10 n10 => ⟨.list [], .list [], .lst (SqL.of (upd_same_as n10 _ _ upd_same)) ?_, .lst (SqL.of upd_same) .nil, by decide +kernel, by decide +kernel, ?_⟩⟩
      · rw [show srt [] = [] from List.Perm.eq_nil (srt_perm [])]
        exact .nil
      · have e : PyData.eqv (.list []) (.list []) = true := by simp [PyData.eqv, PyData.eqvAll]
        rw [e]
        exact q _
end
end Kx
/-! The head: facts by names, the run. -/
namespace Kx
open PySem PySem.Spec PyProof.Rows L2 Xa Xb Xc Xd Xs Xp Xm
abbrev sXInvalidNumber : Stmt := inClass (top 3) 0
abbrev sXInvalidList : Stmt := inClass (top 4) 0
abbrev sXInvalidItem : Stmt := inClass (top 5) 0
def dTop (x : Str) (st : Stmt) : He.DefD := ⟨(x, none), x, x, defArgs st, defBody st, defScope st, [], []⟩
def dMet (c m q : Str) (st : Stmt) (dfl : List He.Dv) (kwd : List (Str × He.Dv)) : He.DefD := ⟨(c, some m), m, q, defArgs st, defBody st, defScope st, dfl, kwd⟩
def dfs : List He.DefD := [dMet "InvalidNumber" "__init__" "InvalidNumber.__init__" sXInvalidNumber [.non] [],
  dMet "InvalidList" "__init__" "InvalidList.__init__" sXInvalidList [.non] [],
  dMet "InvalidItem" "__init__" "InvalidItem.__init__" sXInvalidItem [.non] [],
  dMet "Web" "__init__" "Web.__init__" sWInit [] [],
  dMet "Web" "hears" "Web.hears" sWHears [] [],
  dMet "Web" "__eq__" "Web.__eq__" sWEq [] [],
  dTop "is_whole" sWhole,
  dTop "is_between" sBetween,
  dTop "check_places" sCkPlaces,
  dTop "is_item" sIsItem,
  dTop "check_items" sItems,
  dTop "_law_cell" sCell,
  dTop "_law_hash" sHash,
  dTop "_law_generator" sGener,
  dTop "_law_random" sRandom,
  dTop "_law_web_parts" sParts,
  dTop "_law_caught" sCaught,
  dTop "_law_bad_links" sBad,
  dTop "_law_refused" sRefused,
  dTop "_law_unlike_right" sUnlike,
  dTop "law" sLaw]
def fas : List He.Fa := [.glo "WatchError", .glo "InvalidNumber", .glo "InvalidList", .glo "InvalidItem", .glo "Web", .glo "FARTHEST", .glo "is_whole", .glo "is_between", .glo "check_places", .glo "is_item", .glo "check_items", .glo "_law_cell", .glo "_law_hash", .glo "_law_generator", .glo "_law_random", .glo "_law_web_parts", .glo "_law_caught", .glo "_law_bad_links", .glo "_law_refused", .glo "_law_unlike_right", .glo "law", .free "len", .free "int", .free "max", .free "range", .free "isinstance", .free "bool", .free "tuple", .free "list", .free "set", .free "sorted", .free "abs", .free "repr", .cls "Web", .noat "Web" "places", .noat "Web" "reach", .noat "Web" "_hears", .meth "Web" "hears", .mkr "Web", .int "MOST_PLACES" 2]
/-- WatchError's own reads -/
def wbB (K : PySem.W.Frag) : Bool := PySem.W.readsIn K (He.ga K "WatchError") (.type "type") && (He.eqO (PySem.W.specialIn K (.ref (He.ga K "WatchError")) "__getattribute__") (some (some (.builtin "type.__getattribute__"))) &&
  (match PySem.W.findCls K (.ref (He.ga K "WatchError")) (.type "type") "__init__" with
  | some (.val (.builtin n)) => n == "ValueError.__init__"
  | _ => false))
/-- an error class and its __init__ -/
def xmB (K : PySem.W.Frag) (x f : Str) : Bool := xclsB K (He.ga K x) f && (He.eqO (PySem.W.findIn K (.ref (He.ga K x)) "__init__") (some (some (.ref (He.ma K (He.ga K x) "__init__")))) && decide (PySem.W.typeIn K (.ref (He.ma K (He.ga K x) "__init__")) = some (.type "function")))
def kitE (K : PySem.W.Frag) (x y : Str) (b : Bool) : Bool := decide (PySem.W.kitOne K (.ref (He.ga K x)) (.ref (He.ga K y)) = some b)
def exL (K : PySem.W.Frag) : List Bool := [wbB K,
  farB K (He.ga K "FARTHEST"),
  xmB K "InvalidNumber" "value",
  xmB K "InvalidList" "value",
  xmB K "InvalidItem" "value",
  kitE K "InvalidNumber" "InvalidNumber" true,
  kitE K "InvalidNumber" "InvalidList" false,
  kitE K "InvalidNumber" "InvalidItem" false,
  kitE K "InvalidList" "InvalidNumber" false,
  kitE K "InvalidList" "InvalidList" true,
  kitE K "InvalidList" "InvalidItem" false,
  kitE K "InvalidItem" "InvalidNumber" false,
  kitE K "InvalidItem" "InvalidList" false,
  kitE K "InvalidItem" "InvalidItem" true,
  decide (PySem.W.exmOne K (.ref (He.ga K "InvalidNumber")) (.ref (He.ga K "WatchError")) = some true),
  decide (PySem.W.exmOne K (.ref (He.ga K "InvalidList")) (.ref (He.ga K "WatchError")) = some true),
  decide (PySem.W.exmOne K (.ref (He.ga K "InvalidItem")) (.ref (He.ga K "WatchError")) = some true),
  He.eqO (PySem.W.findIn K (.ref (He.ga K "Web")) "__class__") (some (some (.builtin "object.__class__"))),
  He.eqO (PySem.W.specialIn K (.builtin "object.__class__") "__get__") (some (some (.builtin "getset_descriptor.__get__"))),
  decide (PySem.W.takesIn K (.builtin "object.__class__") = some true),
  decide (PySem.W.mroIn K (He.ga K "Web") (.type "object") = some true),
  decide (PySem.W.kitOne K (.ref (He.ga K "Web")) (.ref (He.ga K "Web")) = some true),
  He.eqO (PySem.W.findIn K (.ref (He.ga K "Web")) "__eq__") (some (some (.ref (He.ma K (He.ga K "Web") "__eq__")))),
  PySem.W.isFn K (.ref (He.ma K (He.ga K "Web") "__eq__")),
  He.eqO (PySem.W.findIn K (.ref (He.ga K "Web")) "__ne__") (some (some (.builtin "object.__ne__"))),
  decide (PySem.W.subIn K (.ref (He.ga K "Web")) (.type "object") = some true),
  decide (PySem.W.subIn K (.ref (He.ga K "Web")) (.type "NoneType") = some false),
  PySem.W.notFirst K (He.ga K "Web") (.type "NoneType"),
  decide (PySem.W.kitOne K (.type "NoneType") (.ref (He.ga K "Web")) = some false),
  decide (PySem.W.subIn K (.ref (He.ga K "Web")) (.type "int") = some false),
  PySem.W.notFirst K (He.ga K "Web") (.type "int"),
  decide (PySem.W.kitOne K (.type "int") (.ref (He.ga K "Web")) = some false),
  decide (PySem.W.subIn K (.ref (He.ga K "Web")) (.type "str") = some false),
  PySem.W.notFirst K (He.ga K "Web") (.type "str"),
  decide (PySem.W.kitOne K (.type "str") (.ref (He.ga K "Web")) = some false),
  decide (PySem.W.subIn K (.ref (He.ga K "Web")) (.type "list") = some false),
  PySem.W.notFirst K (He.ga K "Web") (.type "list"),
  decide (PySem.W.kitOne K (.type "list") (.ref (He.ga K "Web")) = some false),
  decide (PySem.W.subIn K (.ref (He.ga K "Web")) (.type "tuple") = some false),
  PySem.W.notFirst K (He.ga K "Web") (.type "tuple"),
  decide (PySem.W.kitOne K (.type "tuple") (.ref (He.ga K "Web")) = some false),
  decide (PySem.W.subIn K (.ref (He.ga K "Web")) (.type "dict") = some false),
  PySem.W.notFirst K (He.ga K "Web") (.type "dict"),
  decide (PySem.W.kitOne K (.type "dict") (.ref (He.ga K "Web")) = some false)]
def andL : List Bool → Bool
  | [] => true
  | b :: r => b && andL r
theorem andL_at : ∀ {l : List Bool}, andL l = true → ∀ (i : Nat), i < l.length → l[i]? = some true
  | b :: r, h, 0, _ => congrArg some (He.ba h).1
  | b :: r, h, i + 1, hi => andL_at (l := r) (He.ba h).2 i (Nat.lt_of_succ_lt_succ hi)
def exB (K : PySem.W.Frag) : Bool := andL (exL K)
abbrev RR : PySem.W.OpenRow := PySem.W.OpenLaw.row PySem.Challenge.rw_hearunlike_k10_webs_made
/-- the part of the heap that is looked at -/
def frY (g : Addr → Option Obj) : PySem.W.Frag := He.frG g (cStatics :: He.asD g 6)
def obY (g : Addr → Option Obj) : He.AlD × Bool := (He.obsD fas dfs (frY g), exB (frY g))
/-- what is told of it -/
structure Says (K : PySem.W.Frag) (h : Heap) : Prop where
  inn : K.In h
  dd : He.SaysD fas dfs K
  ex : exB K = true
def hkX : PySem.W.Hook where
  α := He.AlD × Bool
  obs := fun s => obY s.heap.get?
  val := fun _ => (He.valD dfs, true)
  says := fun _ h => ∃ K : PySem.W.Frag, Says K h
  of := fun _ _ e => ⟨_, He.frG_in, congrArg (fun z : He.AlD × Bool => z.1) e, congrArg (fun z : He.AlD × Bool => z.2) e⟩
  keeps := fun _ _ _ ⟨K, c⟩ k => ⟨K, PySem.W.Frag.In.keeps c.inn k, c.dd, c.ex⟩
def obX (s : PySem.W.SharedT) : He.AlD × Bool := obY (HandSHeadRun.getT s)
theorem obX_eq (s : PySem.W.SharedT) : obX s = hkX.obs s.abs := by
  show obY (HandSHeadRun.getT s) = obY s.abs.heap.get?
  rw [show HandSHeadRun.getT s = s.abs.heap.get? from funext (HandSHeadRun.getT_eq s)]
def loose : List Str := ["_wall", "WatchError", "InvalidNumber", "InvalidList", "InvalidItem", "is_whole", "is_between", "check_places", "MOST_PLACES", "FARTHEST", "Web", "is_item", "check_items", "_law_cell", "_law_hash", "_law_generator", "_law_random", "_law_web_parts", "_law_caught", "_law_bad_links", "_law_refused", "_law_unlike_right"]
theorem runX (w : World) : HandSHeadRun.RunEq RR (PySem.W.view RR.prog [26]) hkX obX 14000 loose w := by
  refine PySem.W.byRow2 "special-get-raises" (P := fun w => HandSHeadRun.RunEq RR (PySem.W.view RR.prog [26]) hkX obX 14000 loose w) (fun w => ?_) (fun w => ?_) w
  · intro os
    kernel_rfl
  · intro os
    kernel_rfl
end Kx
/-! The facts joined. -/
namespace Kx
open PySem PySem.Spec PyProof.Rows L2 Xa Xb Xc Xd Xs Xp Xm Xr Xl Xt Yl Ym Yn Yo Yp
section
variable {P : Program} {w : World} {K : PySem.W.Frag} {mg : Str → Option Value} {base h : Heap}
theorem dfnAt (c : Says K h) (G : h.Ns mainGlobals mg) (i j : Nat) {x : Str} {st : Stmt} (hd : dfs[i]? = some (dTop x st) := by rfl) (hf : fas[j]? = some (.glo x) := by rfl) : Dfn K mg x st :=
  ⟨let ⟨fd, F⟩ := c.dd.def_ i hd; ⟨_, fd, F, He.glo_ok c.inn G (c.dd.fact j hf)⟩⟩
theorem gloAt (c : Says K h) (G : h.Ns mainGlobals mg) (j : Nat) {x : Str} (hf : fas[j]? = some (.glo x) := by rfl) : mg x = some (.ref (He.ga K x)) := He.glo_ok c.inn G (c.dd.fact j hf)
theorem freeAt (c : Says K h) (G : h.Ns mainGlobals mg) (j : Nat) {x : Str} (hf : fas[j]? = some (.free x) := by rfl) : mg x = none := He.free_ok c.inn G (c.dd.fact j hf)
theorem exA (e : exB K = true) (i : Nat) (hi : i < (exL K).length) {b : Bool} (hb : (exL K)[i]? = some b) : b = true := by
  have h := andL_at e i hi
  rw [hb] at h
  exact Option.some.inj h
theorem bi2 (c : Says K h) (G : h.Ns mainGlobals mg) : Bi2 mg := ⟨⟨freeAt c G 21, freeAt c G 22, freeAt c G 23, freeAt c G 24⟩, freeAt c G 25, freeAt c G 26, freeAt c G 27, freeAt c G 28, freeAt c G 29, freeAt c G 30, freeAt c G 31, freeAt c G 32⟩
theorem wbase (c : Says K h) (G : h.Ns mainGlobals mg) : WBase K mg "WatchError" := by
  have e := c.ex
  have e := exA e 0 (by show 0 < 44; decide) rfl
  obtain ⟨a1, c2⟩ := He.ba e
  obtain ⟨a2, a3⟩ := He.ba c2
  refine ⟨He.ga K "WatchError", .type "type", gloAt c G 0, a1, He.eqO_ok a2, ?_⟩
  split at a3
  · rename_i n q
    rw [q, beq_iff_eq.mp a3]
  · cases a3
theorem bindsX {x qual : Str} {params : Arguments} {body : List Stmt} {scope : Scope} {f : Addr} {fd : FuncData} {ps : List Str} (F : FunD K x qual params body scope [.non] [] f fd) (hn : ps.length = 2)
    (hb : ∀ (T : Addr) (kV doc pm : Value) (an : Option Addr) (cdv ct : Value) (us its : List Value), us.length = 2 → its.length = 1 →
      ∃ k, bindArgs (PySem.W.fnOf x qual params body scope (.ref T) kV doc pm an cdv ct) ⟨us, []⟩ = seqItems? (.ref T) >>= k ∧ k (some its.toArray) = pure (ps.zip (us ++ its.drop 1))) : Binds K fd ps [] := by
  obtain ⟨ds, r, b⟩ := F.binds1 (ps := ps) 2 1 (by simp) (by rw [hn] <;> rfl) hb
  cases r
  exact b
theorem scInvalidNumber : FnScope ["self", "value"] ["self", "value"] (defScope sXInvalidNumber) := ⟨rfl, rfl, rfl, by decide +kernel, rfl, by decide +kernel, by decide +kernel⟩
theorem makeInvalidNumber (c : Says K h) (G : h.Ns mainGlobals mg) : XMake P w K mg base "InvalidNumber" (He.ga K "InvalidNumber") "value" := by
  have e := c.ex
  have e1 := exA e 2 (by show 2 < 44; decide) rfl
  obtain ⟨a1, c2⟩ := He.ba e1
  obtain ⟨a2, a3⟩ := He.ba c2
  obtain ⟨fd, F⟩ := c.dd.def_ 0 (d := dMet "InvalidNumber" "__init__" "InvalidNumber.__init__" sXInvalidNumber [.non] []) rfl
  have T := xcls_ok a1
  exact ⟨T, gloAt c G 1, _, fd, He.eqO_ok a2, of_decide_eq_true a3, ok_xi (f := "value") F scInvalidNumber T (wbase c G) rfl rfl rfl (fun _ _ _ => ⟨_, rfl⟩) (by decide) (by decide), bindsX F rfl fun T kV doc pm an cdv ct us its h1 h2 => match us, its, h1, h2 with | [_, _], [_], _, _ => ⟨_, rfl, rfl⟩⟩
theorem scInvalidList : FnScope ["self", "value"] ["self", "value"] (defScope sXInvalidList) := ⟨rfl, rfl, rfl, by decide +kernel, rfl, by decide +kernel, by decide +kernel⟩
theorem makeInvalidList (c : Says K h) (G : h.Ns mainGlobals mg) : XMake P w K mg base "InvalidList" (He.ga K "InvalidList") "value" := by
  have e := c.ex
  have e1 := exA e 3 (by show 3 < 44; decide) rfl
  obtain ⟨a1, c2⟩ := He.ba e1
  obtain ⟨a2, a3⟩ := He.ba c2
  obtain ⟨fd, F⟩ := c.dd.def_ 1 (d := dMet "InvalidList" "__init__" "InvalidList.__init__" sXInvalidList [.non] []) rfl
  have T := xcls_ok a1
  exact ⟨T, gloAt c G 2, _, fd, He.eqO_ok a2, of_decide_eq_true a3, ok_xi (f := "value") F scInvalidList T (wbase c G) rfl rfl rfl (fun _ _ _ => ⟨_, rfl⟩) (by decide) (by decide), bindsX F rfl fun T kV doc pm an cdv ct us its h1 h2 => match us, its, h1, h2 with | [_, _], [_], _, _ => ⟨_, rfl, rfl⟩⟩
theorem scInvalidItem : FnScope ["self", "value"] ["self", "value"] (defScope sXInvalidItem) := ⟨rfl, rfl, rfl, by decide +kernel, rfl, by decide +kernel, by decide +kernel⟩
theorem makeInvalidItem (c : Says K h) (G : h.Ns mainGlobals mg) : XMake P w K mg base "InvalidItem" (He.ga K "InvalidItem") "value" := by
  have e := c.ex
  have e1 := exA e 4 (by show 4 < 44; decide) rfl
  obtain ⟨a1, c2⟩ := He.ba e1
  obtain ⟨a2, a3⟩ := He.ba c2
  obtain ⟨fd, F⟩ := c.dd.def_ 2 (d := dMet "InvalidItem" "__init__" "InvalidItem.__init__" sXInvalidItem [.non] []) rfl
  have T := xcls_ok a1
  exact ⟨T, gloAt c G 3, _, fd, He.eqO_ok a2, of_decide_eq_true a3, ok_xi (f := "value") F scInvalidItem T (wbase c G) rfl rfl rfl (fun _ _ _ => ⟨_, rfl⟩) (by decide) (by decide), bindsX F rfl fun T kV doc pm an cdv ct us its h1 h2 => match us, its, h1, h2 with | [_, _], [_], _, _ => ⟨_, rfl, rfl⟩⟩
theorem errF (c : Says K h) (G : h.Ns mainGlobals mg) : ErrF K mg (He.ga K "WatchError") (He.ga K "InvalidNumber") (He.ga K "InvalidList") (He.ga K "InvalidItem") := by
  have e := c.ex
  exact ⟨gloAt c G 0, gloAt c G 1, gloAt c G 2, gloAt c G 3, ⟨of_decide_eq_true (exA e 5 (by show 5 < 44; decide) rfl), of_decide_eq_true (exA e 6 (by show 6 < 44; decide) rfl), of_decide_eq_true (exA e 7 (by show 7 < 44; decide) rfl)⟩, ⟨of_decide_eq_true (exA e 8 (by show 8 < 44; decide) rfl), of_decide_eq_true (exA e 9 (by show 9 < 44; decide) rfl), of_decide_eq_true (exA e 10 (by show 10 < 44; decide) rfl)⟩, ⟨of_decide_eq_true (exA e 11 (by show 11 < 44; decide) rfl), of_decide_eq_true (exA e 12 (by show 12 < 44; decide) rfl), of_decide_eq_true (exA e 13 (by show 13 < 44; decide) rfl)⟩, of_decide_eq_true (exA e 14 (by show 14 < 44; decide) rfl), of_decide_eq_true (exA e 15 (by show 15 < 44; decide) rfl), of_decide_eq_true (exA e 16 (by show 16 < 44; decide) rfl), xcls_ok (He.ba (exA e 2 (by show 2 < 44; decide) rfl)).1, xcls_ok (He.ba (exA e 3 (by show 3 < 44; decide) rfl)).1, xcls_ok (He.ba (exA e 4 (by show 4 < 44; decide) rfl)).1⟩
theorem cWhole (c : Says K h) (G : h.Ns mainGlobals mg) : Can P w K mg base CX0 1 "is_whole" ["value"] (spWhole K) := can_whole (dfnAt c G 6 6) (bi2 c G)
theorem cBetween (c : Says K h) (G : h.Ns mainGlobals mg) : Can P w K mg base CX0 2 "is_between" ["value", "low", "high"] (spBetween K) := can_between (dfnAt c G 7 7) (cWhole c G)
theorem webK (c : Says K h) (G : h.Ns mainGlobals mg) : WebK P w K mg base (He.ga K "Web") (He.ga K "InvalidNumber") (He.ga K "InvalidList") (He.ga K "InvalidItem") := by
  have e := c.ex
  have B := bi2 c G
  have cI := can_isitem (dfnAt c G 9 9) B (cBetween (P := P) (w := w) (base := base) c G) (gloAt c G 5) (exA e 1 (by show 1 < 44; decide) rfl)
  obtain ⟨tm, gM⟩ := He.int_ok c.inn G (c.dd.fact 39 (f := .int "MOST_PLACES" 2) rfl)
  have cK := can_ckplaces (P := P) (w := w) (base := base) (dfnAt c G 8 8) gM (makeInvalidNumber c G) (cBetween c G)
  have c4 := can_items (dfnAt c G 10 10) B (makeInvalidItem c G) cI
  have T : WTxt K mg (He.ga K "Web") := ⟨He.cls_ok (c.dd.fact 33 (f := .cls "Web") rfl), He.noat_ok (c.dd.fact 34 (f := .noat "Web" "places") rfl), He.noat_ok (c.dd.fact 35 (f := .noat "Web" "reach") rfl), He.noat_ok (c.dd.fact 36 (f := .noat "Web" "_hears") rfl), gloAt c G 4⟩
  have WD : WKind K (He.ga K "Web") := ⟨He.eqO_ok (exA e 17 (by show 17 < 44; decide) rfl), He.eqO_ok (exA e 18 (by show 18 < 44; decide) rfl), of_decide_eq_true (exA e 19 (by show 19 < 44; decide) rfl), of_decide_eq_true (exA e 20 (by show 20 < 44; decide) rfl), of_decide_eq_true (exA e 21 (by show 21 < 44; decide) rfl)⟩
  obtain ⟨fd2, F2⟩ := c.dd.def_ 3 (d := dMet "Web" "__init__" "Web.__init__" sWInit [] []) rfl
  obtain ⟨fd3, F3⟩ := c.dd.def_ 4 (d := dMet "Web" "hears" "Web.hears" sWHears [] []) rfl
  obtain ⟨fd4, F4⟩ := c.dd.def_ 5 (d := dMet "Web" "__eq__" "Web.__eq__" sWEq [] []) rfl
  refine ⟨T, WD, ⟨_, fd2, He.mkr_ok (c.dd.fact 38 (f := .mkr "Web") rfl), ok_winit F2 T B cK c4 (makeInvalidList c G), F2.bindsN fun _ _ _ _ _ _ us hl => match us, hl with | [_, _, _], _ => rfl⟩,
    ⟨_, fd3, He.meth_ok (c.dd.fact 37 (f := .meth "Web" "hears") rfl), ok_hears F3 T B, F3.bindsN fun _ _ _ _ _ _ us hl => match us, hl with | [_], _ => rfl⟩,
    ⟨_, fd4, ok_weq F4 T WD B, He.eqO_ok (exA e 22 (by show 22 < 44; decide) rfl), exA e 23 (by show 23 < 44; decide) rfl, F4.bindsN fun _ _ _ _ _ _ us hl => match us, hl with | [_, _], _ => rfl⟩, He.eqO_ok (exA e 24 (by show 24 < 44; decide) rfl), of_decide_eq_true (exA e 25 (by show 25 < 44; decide) rfl), fun T hT => ?_⟩
  simp only [List.mem_cons, List.not_mem_nil, or_false] at hT
  rcases hT with rfl | rfl | rfl | rfl | rfl | rfl
  · exact ⟨of_decide_eq_true (exA e 26 (by show 26 < 44; decide) rfl), exA e 27 (by show 27 < 44; decide) rfl, of_decide_eq_true (exA e 28 (by show 28 < 44; decide) rfl)⟩
  · exact ⟨of_decide_eq_true (exA e 29 (by show 29 < 44; decide) rfl), exA e 30 (by show 30 < 44; decide) rfl, of_decide_eq_true (exA e 31 (by show 31 < 44; decide) rfl)⟩
  · exact ⟨of_decide_eq_true (exA e 32 (by show 32 < 44; decide) rfl), exA e 33 (by show 33 < 44; decide) rfl, of_decide_eq_true (exA e 34 (by show 34 < 44; decide) rfl)⟩
  · exact ⟨of_decide_eq_true (exA e 35 (by show 35 < 44; decide) rfl), exA e 36 (by show 36 < 44; decide) rfl, of_decide_eq_true (exA e 37 (by show 37 < 44; decide) rfl)⟩
  · exact ⟨of_decide_eq_true (exA e 38 (by show 38 < 44; decide) rfl), exA e 39 (by show 39 < 44; decide) rfl, of_decide_eq_true (exA e 40 (by show 40 < 44; decide) rfl)⟩
  · exact ⟨of_decide_eq_true (exA e 41 (by show 41 < 44; decide) rfl), exA e 42 (by show 42 < 44; decide) rfl, of_decide_eq_true (exA e 43 (by show 43 < 44; decide) rfl)⟩
theorem lawF (c : Says K h) (G : h.Ns mainGlobals mg) : LawF P w K mg base (He.ga K "Web") := by
  have B := bi2 c G
  obtain ⟨fC, fdC, FC, gC⟩ := (dfnAt c G 11 11 : Dfn K mg "_law_cell" sCell).at_
  obtain ⟨fH, fdH, FH, gH⟩ := (dfnAt c G 12 12 : Dfn K mg "_law_hash" sHash).at_
  obtain ⟨fG, fdG, FG, gG⟩ := (dfnAt c G 13 13 : Dfn K mg "_law_generator" sGener).at_
  obtain ⟨fR, fdR, FR, gR⟩ := (dfnAt c G 14 14 : Dfn K mg "_law_random" sRandom).at_
  obtain ⟨fP, fdP, FP, gP⟩ := (dfnAt c G 15 15 : Dfn K mg "_law_web_parts" sParts).at_
  have WK := webK (P := P) (w := w) (base := base) c G
  obtain ⟨fI, fdI, mI, oI, bI⟩ := WK.mkx
  have cC := can_caught (dfnAt c G 16 16) B (errF c G) mI oI (gloAt c G 4) bI
  exact ⟨FnG.can (ok_gener FG B.toBi FC gC) FG gG fun _ _ _ _ _ _ us hl => match us, hl with | [_, _], _ => rfl,
    FnG.can (ok_random FR B.toBi FH gH) FR gR fun _ _ _ _ _ _ us hl => match us, hl with | [_, _], _ => rfl,
    FnG.can (ok_parts FP B.toBi FR gR FH gH) FP gP fun _ _ _ _ _ _ us hl => match us, hl with | [_], _ => rfl,
    can_unlike (dfnAt c G 19 19) B WK, can_refused (dfnAt c G 18 18) B cC (can_bad (dfnAt c G 17 17))⟩
end
end Kx
open PySem PySem.W PySem.Calls PyProof.Rows
theorem PySem.Challenge.cw_hearunlike_k10_webs_made_holds : PySem.Challenge.rw_hearunlike_k10_webs_made.Holds := by
  w_on; o_law
  refine HandSHeadRun.head_any (r := Kx.RR) (q := view Kx.RR.prog [26]) (H := Kx.hkX) (ob := Kx.obX) (M := 14000) (loose := Kx.loose) (d := HandSHeadRun.topDef Kx.RR.prog 26) (kwd := []) Kx.obX_eq
    (by kernel_rfl) (fun s => by kernel_rfl) Kx.runX (by kernel_rfl) (by kernel_rfl) (by kernel_rfl) (by rfl) (by first | assumption | decide +kernel) (by decide +kernel) ⟨rfl, rfl, rfl, rfl, rfl, by decide +kernel⟩ ?hw ?hc
  case hw => w_witness2
  case hc =>
    refine Xh.walkG (l := PySem.Challenge.rw_hearunlike_k10_webs_made) (n := 63) (k := 9) (x := "script") rfl (by decide) (by kernel_rfl) ⟨rfl, by decide, by decide⟩ rfl ?F
    intro w mg fa h Y G hmg0
    obtain ⟨K, c⟩ := Y
    have hmg : mg ("law" : PySem.Str) = some (.ref fa) := by
      have e : (HandSHeadRun.topDef Kx.RR.prog 26).name = ("law" : PySem.Str) := by kernel_rfl
      rw [← e]
      exact hmg0
    obtain ⟨fd, F⟩ := c.dd.def_ 20 (d := Kx.dTop "law" Kx.sLaw) rfl
    have e := hmg.symm.trans (Kx.gloAt c G 20)
    cases e
    have b := L2.FunD.bindsA (ps := ["script"]) F fun _ _ _ _ _ _ us hl => match us, hl with | [_], _ => rfl
    exact ⟨K, fd, Kx.spLaw K, c.inn, fun s v => b s [v] rfl, fun H a ns hS => ⟨a, ns, rfl, hS, fun _ => rfl⟩, fun base => Kx.fn_law F (Kx.bi2 c G) (Kx.webK c G) (Kx.lawF c G)⟩
