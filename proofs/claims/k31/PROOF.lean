import PyProof.Rows.All
import Wide.All
import OpenK.AllK
import Wide.FinOn
import PyProof.ReprRoads
import HandS.ForMost
import HandS.Exc
import HandS.ExcOwn
import HandS.ExcInit
import HandS.ExcIs
import HandS.ExcField
import HandS.IsInst
import HandS.Defaults
import HandS.WordsExc
import KE.KExcIs
import HandS.TryOnly
import HandS.HeadHook4
import HandS.ExcValue
import HandS.TupSets
import HandS.Strs
import KE.SortData
import HandS.MakeKw
import PyProof.FitsInt
import PyProof.ReprLen
import HandS.Ends
import HandS.HeadEnd
import HandS.ReplaceLit
import HandS.ReplaceDef
import PyProof.Draws
import PyProof.WalksEnum
import PyProof.EnumMake
import HandS.Walk
import HandS.Style
import HandS.Codes
import HandS.Wide
import HandS.WideBits
import Lean
import HandS.More
import HandS.Head0
import HandS.Head1
import HandS.Head2
import HandS.HeadHook1
import HandS.HeadHook2
import PySem.Challenge.RW_hearunlike_k31_texts_of_no_plan
set_option Elab.async false
set_option linter.all false
set_option maxRecDepth 100000
set_option maxHeartbeats 0
/-! Own ground, part A: defs that know that no repr is under way; repr of data. -/
namespace Xa
open PySem PySem.Spec PyProof.Rows L2

/-! ### no repr is under way -/
def NoRep (A : Around) : Prop := A.guards = some []
theorem NoRep.deeper {A : Around} (n : NoRep A) (en : Env) : NoRep (A.deeper en) := n

/-- a def's promise where no repr is under way and nothing leaves it -/
structure FnG (P : Program) (w : World) (K : PySem.W.Frag) (mg : Str → Option Value) (base : Heap) (lev : Nat) (at_ : Addr) (fd : FuncData) (ps : List Str) (pr : Sp) : Prop where
  size : ∀ xs H Q E, pr xs H Q E → xs.length = ps.length
  go : ∀ (A : Around) (out : List Env) (st : Shared) (H : Hp) (ar : Args) (us : List Value) (xs : List V) (Q : VK) (E : XK), Room lev A → NoRep A →
    Env0 P w K mg base A out st H → BindsTo st fd ar (ps.zip us) → Vals xs us → pr xs H Q E → codeAny (model P w) A (.call (.ref at_) ar) (CR CX0 out P w H st Q E) st

section
variable {P : Program} {w : World} {K : PySem.W.Frag} {mg : Str → Option Value} {base : Heap} {x qual : Str} {params : Arguments} {body : List Stmt} {scope : Scope} {dvs : List V} {kws : List (Str × V)} {at_ : Addr} {fd : FuncData}
theorem okG {N ps : List Str} {lev : Nat} {pr : Sp} (F : FunD K x qual params body scope dvs kws at_ fd) (S : FnScope N ps scope) (size : ∀ xs H Q E, pr xs H Q E → xs.length = ps.length)
    (hb : ∀ (cdv : Value) (A : Around) (out : List Env) (st : Shared) (H : Hp) (xs : List V) (Q : VK) (E : XK), Room lev (A.deeper (envOfC qual scope st.heap.objs.size at_ cdv)) → NoRep (A.deeper (envOfC qual scope st.heap.objs.size at_ cdv)) → pr xs H Q E →
      ∃ t, PSs (cxOf CX0 P w K mg base N qual scope at_ cdv A out st H E).nox body t ∧ t { nx := fun _ H' => Q .non H', rt := Q } (start N xs) H) : FnG P w K mg base (lev + 1) at_ fd ps pr := by
  obtain ⟨oc, od, dV, kV, doc, pm, an, cdv, ct, osl, rfl, lk, hcd, _, _⟩ := F.ex
  refine ⟨size, fun A out st H ar us xs Q E hr hn e0 bnd rel hp => ?_⟩
  have sz := size _ _ _ _ hp
  have inK : K.In st.heap := e0.mod.kin.keeps fun b o z => (e0.bs b o z).1
  have noLim : st.heap.NoLimit := e0.mod.nolimit.keeps fun b o z => (e0.bs b o z).1
  refine codeAny_call_function hr.depth (inK _ _ lk) rfl S.co S.gen rfl (PySem.W.codeRec_of inK hcd) (bnd _ _ _ _ ?_)
  refine wpAny_newFunctionEnv_cells S.kind (fun ⟨n, v⟩ hy => ?_) fun env he s1 ic => ?_
  · exact (S.par n (List.of_mem_zip hy).1).elim .inl fun z => .inr ⟨z, PySem.W.cellsFrom_some _ _ _ (.inl z)⟩
  subst he
  refine ⟨noLim.keeps ic.toInCall.keep, codeAny_func ?_⟩
  obtain ⟨t, ht, hq⟩ := hb cdv A out st H xs Q E (hr.deeper _) (hn.deeper _) hp
  have I : Inv (cxOf CX0 P w K mg base N qual scope at_ cdv A out st H E) [] (start N xs) H s1 := inv_start S hr.hd e0 sz rel ic
  refine wpAny_mono (ht.nox.run [] s1 (start N xs) H _ I hq) (fun fl s2 hs => ?_) fun e s2 hs => hs
  cases fl with
  | ret u => exact let ⟨v, _, H', J, rv, q⟩ := hs; ⟨v, H', J.os, J.bare, J.base, J.hok, rv, q⟩
  | next => exact let ⟨_, H', J, q⟩ := hs; ⟨V.non, H', J.os, J.bare, J.base, J.hok, rfl, q⟩
  | brk => exact let ⟨_, _, _, q⟩ := hs; False.elim q
  | cont => exact let ⟨_, _, _, q⟩ := hs; False.elim q
theorem FnG.up {ps : List Str} {i j : Nat} {pr : Sp} (G : FnG P w K mg base i at_ fd ps pr) (h : i ≤ j) : FnG P w K mg base j at_ fd ps pr :=
  ⟨G.size, fun A out st H ar us xs Q E hr => G.go A out st H ar us xs Q E (hr.mono h)⟩
end

section
variable {X : Cx} {lev : Nat} {at_ : Addr} {fd : FuncData} {ps : List Str} {pr : Sp} {x : Str} {p pos : Pos} {e : Expr} {es : List Expr} {ta : TA}
theorem run_G {pins : List (Addr × Obj)} {σ : L2.St} {H : Hp} {st : Shared} {Q : VK} {us : List Value} {xs : List V} (G : FnG X.prog X.w X.K X.mg X.base lev at_ fd ps pr) (hr : Room lev X.A) (hn : NoRep X.A) (hb : Binds X.K fd ps [])
    (I : Inv X pins σ H st) (rel : Vals xs us) (hp : pr xs H Q E0) : wpAny (model X.prog X.w) X.A (call (.ref at_) us) (EP X pins σ Q) X.xe st := by
  have sz : us.length = ps.length := by rw [← rel.length]; exact G.size _ _ _ _ hp
  have bnd := hb st us I.kIn (by rw [List.append_nil]; exact sz)
  rw [List.append_nil] at bnd
  refine wpAny_call (codeAny_mono (G.go X.A X.stack st H ⟨us, []⟩ us xs Q E0 hr hn I.env0 bnd rel hp) fun r s2 hq => ?_)
  cases r with
  | error er => exact False.elim hq
  | ok fl =>
    cases fl with
    | ret u => exact I.after hq
    | next => exact False.elim hq
    | brk => exact False.elim hq
    | cont => exact False.elim hq
/-- f(e, ..) of such a def -/
theorem pe_callG (G : FnG X.prog X.w X.K X.mg X.base lev at_ fd ps pr) (hr : Room lev X.A) (hn : NoRep X.A) (hg : Gl X x) (hm : X.mg x = some (.ref at_)) (kp : PySem.W.keepIn X.K (.ref at_) = true) (hb : Binds X.K fd ps [])
    (ha : PA X (e :: es) ta) (hdb : (x == ("__debug__" : Str)) = false := by decide) (he : starEach (e :: es) X.env = (false, eval e X.env) :: starEach es X.env := by rfl)
    (hpl : (backTo pos (starEach es X.env)).any (·.1) = false := by rfl) : PE X (.Call (.Name x p) (e :: es) [] pos) (tCall pr [] E0 ta) := by
  refine ⟨fun pins st σ H Q I h => wpAny_Call_Name_kw (ld_glob I hg hm ?_ hdb)⟩
  refine PySem.W.callWith_K (h₀ := X.base) I.ok.mod.kin kp (thn (ha.run pos pins st σ H _ I h) fun us s1 ⟨xs, H1, I1, rel, q⟩ => ⟨I1.kIn, ?_⟩) he hpl
  exact run_G G hr hn hb I1 rel (by rw [← List.append_nil xs]; exact q)
theorem pe_callG0 (G : FnG X.prog X.w X.K X.mg X.base lev at_ fd ps pr) (hr : Room lev X.A) (hn : NoRep X.A) (hg : Gl X x) (hm : X.mg x = some (.ref at_)) (kp : PySem.W.keepIn X.K (.ref at_) = true) (hb : Binds X.K fd ps [])
    (hdb : (x == ("__debug__" : Str)) = false := by decide) : PE X (.Call (.Name x p) [] [] pos) (tCall pr [] E0 tNil) := by
  refine ⟨fun pins st σ H Q I h => wpAny_Call_Name_kw (ld_glob I hg hm ?_ hdb)⟩
  exact PySem.W.callWith_K0 I.kIn kp (run_G (us := []) (xs := []) G hr hn hb I .nil h)
end

/-! ### repr of data -/
mutual
/-- v is the datum d, met through the lists at ls: as Dp, and dicts with int and text keys -/
inductive Dq (K : PySem.W.Frag) (H : Hp) : V → PyData → List Addr → Prop
  | non : Dq K H .non .none []
  | bl (b : Bool) : Dq K H (.bl b) (.bool b) []
  | int (i : Int) : Dq K H (.int i) (.int i) []
  | str (z : Str) : Dq K H (.str z) (.str z) []
  | lst {a : Addr} {xs : List V} {ds : List PyData} {ls : List Addr} : SqL K H a xs → Dqs K H xs ds ls → Dq K H (.ref a) (.list ds) (a :: ls)
  | tup {a : Addr} {xs : List V} {ds : List PyData} {ls : List Addr} : SqT K H a xs → Dqs K H xs ds ls → Dq K H (.ref a) (.tuple ds) ls
  | dic {a : Addr} {kvs : List (Key × V)} {ds : List (PyData × PyData)} {l1 l2 : List Addr} : H a = some (.dK kvs) → Dqs K H (kvs.map fun p => kV p.1) (ds.map (·.1)) l1 → Dqs K H (kvs.map (·.2)) (ds.map (·.2)) l2 → Dq K H (.ref a) (.dict ds) (l1 ++ l2)
inductive Dqs (K : PySem.W.Frag) (H : Hp) : List V → List PyData → List Addr → Prop
  | nil : Dqs K H [] [] []
  | cons {v : V} {vs : List V} {d : PyData} {ds : List PyData} {l1 l2 : List Addr} : Dq K H v d l1 → Dqs K H vs ds l2 → Dqs K H (v :: vs) (d :: ds) (l1 ++ l2)
end
theorem kv_vals : ∀ {kvs : List (Key × V)} {us : List (Key × Value)} {P : Program} {w : World} {es : List DictEntry}, KV kvs us → Pairs (mixKind P w) es us → Vals (kvs.map (·.2)) (es.map (·.val)) ∧ Vals (kvs.map fun p => kV p.1) (es.map (·.key))
  | [], _, _, _, _, .nil, .nil => ⟨.nil, .nil⟩
  | (k, v) :: r, _, _, _, _, .cons (b := (k', u)) h t, .cons (e := e) he hv q => by
    obtain ⟨r1, r2⟩ := kv_vals t q
    obtain ⟨e1, e2⟩ := h
    have e1' : k = k' := e1
    subst e1'
    refine ⟨.cons (show RelV v e.val from by rw [hv]; exact e2) r1, .cons ?_ r2⟩
    rcases keyIs_shape (show keyIs k e.key = true from he) with ⟨i, t, rfl, z⟩ | ⟨x, t, rfl, z⟩
    · exact ⟨t, z⟩
    · exact ⟨t, z⟩
section
variable {X : Cx} {pins : List (Addr × Obj)} {σ : L2.St} {H : Hp} {st : Shared}
/-- what stands behind such a datum, as the library reads it -/
def Sees (h : Heap) (u : Value) (d : PyData) (ls : List Addr) : Prop := ∃ as, Reads h u d as ∧ ∀ a ∈ as, a ∈ ls ∨ (a == sysModules) = false
def SeesAll (h : Heap) (us : List Value) (ds : List PyData) (ls : List Addr) : Prop := ∃ as, ReadsAll h us ds as ∧ ∀ a ∈ as, a ∈ ls ∨ (a == sysModules) = false
mutual
theorem Dq.sees (I : Inv X pins σ H st) : ∀ (v : V) (d : PyData) (ls : List Addr) (u : Value), Dq X.K H v d ls → RelV v u → Sees st.heap u d ls
  | _, _, _, _, .non, r => by
    cases r
    exact ⟨_, .none, fun _ z => nomatch z⟩
  | _, _, _, _, .bl b, r => by
    cases r
    exact ⟨_, .bool b, fun _ z => nomatch z⟩
  | _, _, _, _, .int i, r => by
    obtain ⟨t, rfl⟩ := r
    exact ⟨_, .int i t, fun _ z => nomatch z⟩
  | _, _, _, _, .str z, r => by
    obtain ⟨t, rfl⟩ := r
    exact ⟨_, .str z t, fun _ z => nomatch z⟩
  | _, _, _, _, .lst (a := a) hq hs, r => by
    obtain rfl := (show _ = Value.ref a from r)
    obtain ⟨its, rv, ⟨o, n, ho, hc, _, hd⟩, _⟩ := I.list hq
    obtain ⟨as, ra, ha⟩ := Dqs.sees I _ _ _ _ hs rv
    exact ⟨_, .list ho hc hd ra, fun b hb => (List.mem_cons.mp hb).elim (fun z => .inl (z ▸ List.mem_cons_self)) fun z => (ha b z).imp (List.mem_cons_of_mem _) id⟩
  | _, _, _, _, .tup (a := a) hq hs, r => by
    obtain rfl := (show _ = Value.ref a from r)
    obtain ⟨its, rv, ⟨o, ho, hc, n, hd⟩, _⟩ := I.tuple hq
    obtain ⟨as, ra, ha⟩ := Dqs.sees I _ _ _ _ hs rv
    exact ⟨_, .tuple ho hc hd ra, ha⟩
  | _, _, _, _, .dic (a := a) (kvs := kvs) ha hk hv, r => by
    obtain rfl := (show _ = Value.ref a from r)
    obtain ⟨_, hm, us, kv, o, es, ep, ho, hx, hd, _, hp, _⟩ := (show ObjOk X.prog X.w H st.heap a (.dK kvs) from I.hok a _ ha)
    obtain ⟨rv, rk⟩ := kv_vals kv hp
    obtain ⟨as, r1, h1⟩ := Dqs.sees I _ _ _ _ hk rk
    obtain ⟨bs, r2, h2⟩ := Dqs.sees I _ _ _ _ hv rv
    refine ⟨_, .dict ho hx.1 hd r1 r2, fun b hb => ?_⟩
    rcases List.mem_append.mp hb with hb | hb
    · rcases List.mem_cons.mp hb with rfl | hb
      · exact .inr hm
      · exact (h1 b hb).imp (List.mem_append_left _) id
    · exact (h2 b hb).imp (List.mem_append_right _) id
theorem Dqs.sees (I : Inv X pins σ H st) : ∀ (vs : List V) (ds : List PyData) (ls : List Addr) (us : List Value), Dqs X.K H vs ds ls → Vals vs us → SeesAll st.heap us ds ls
  | _, _, _, _, .nil, .nil => ⟨_, .nil, fun _ z => nomatch z⟩
  | _, _, _, _, .cons h t, .cons r rs => by
    obtain ⟨as, r1, h1⟩ := Dq.sees I _ _ _ _ h r
    obtain ⟨bs, r2, h2⟩ := Dqs.sees I _ _ _ _ t rs
    refine ⟨_, .cons r1 r2, fun b hb => ?_⟩
    rcases List.mem_append.mp hb with hb | hb
    · exact (h1 b hb).imp (List.mem_append_left _) id
    · exact (h2 b hb).imp (List.mem_append_right _) id
end
end
section
variable {X : Cx}
/-- repr(v), v a datum -/
def rRepr (K : PySem.W.Frag) : List V → Hp → VK → Prop := fun xs H Q => ∃ (v : V) (d : PyData) (ls : List Addr), xs = [v] ∧ Dq K H v d ls ∧ (d.hasDict = true → sysModules ∉ ls) ∧ d.showable = true ∧ d.depth ≤ 60 ∧ d.shown.length ≤ sizeLine ∧ Q (.str d.shown) H
theorem call_repr (hn : NoRep X.A) (hu : X.A.units + 64 < cLine) : CallR X (.builtin "repr") (rRepr X.K) := by
  intro pins st σ H xs us Q I r h
  obtain ⟨v, d, ls, rfl, hd, hs, sh, dp, sz, q⟩ := h
  obtain ⟨u, rfl, ru⟩ := vals1 r
  obtain ⟨as, rd, ha⟩ := Dq.sees I v d ls u hd ru
  have no : d.hasDict = true → sysModules ∉ as := fun z hm => by
    rcases ha _ hm with k | k
    · exact hs z k
    · exact absurd (beq_self_eq_true sysModules) (by rw [k]; exact Bool.false_ne_true)
  have fin : ∀ {tk tk2 : Nat} {h' : Heap}, (∀ b o, st.heap.get? b = some o → h'.get? b = some o) → EP X pins σ Q (.str d.shown tk) { st with heap := h', toks := tk2 } := fun k => ⟨.str _, H, I.kept k, ⟨_, rfl⟩, q⟩
  cases hd with
  | non =>
    obtain rfl := (show u = Value.none from ru)
    exact PySem.P.repr_of_none (fin (h' := st.heap) fun _ _ z => z)
  | bl b =>
    obtain rfl := (show u = Value.bool b from ru)
    exact PySem.P.repr_of_bool (fin (h' := st.heap) fun _ _ z => z)
  | int i =>
    obtain ⟨t, rfl⟩ := (show ∃ t, u = Value.int i t from ru)
    exact PySem.P.repr_of_int (of_decide_eq_true sh) (fin (h' := st.heap) fun _ _ z => z)
  | str z =>
    obtain ⟨t, rfl⟩ := (show ∃ t, u = Value.str z t from ru)
    exact PySem.P.repr_of_str (fin (h' := st.heap) fun _ _ z => z) sz
  | lst hq hx =>
    obtain rfl := (show u = Value.ref _ from ru)
    exact repr_of_reads' rd sh no hn (by omega) (fun _ _ z => z) (fun h' _ _ k => fin k) sz
  | tup hq hx =>
    obtain rfl := (show u = Value.ref _ from ru)
    exact repr_of_reads' rd sh no hn (by omega) (fun _ _ z => z) (fun h' _ _ k => fin k) sz
  | dic hq hk hv =>
    obtain rfl := (show u = Value.ref _ from ru)
    exact repr_of_reads' rd sh no hn (by omega) (fun _ _ z => z) (fun h' _ _ k => fin k) sz
end
end Xa
/-! Own ground, part B: exceptions of own classes over an own WatchError: made, raised, caught and kept, their field, isinstance. -/
namespace Xb
open PySem PySem.Spec PyProof.Rows L2 Xa

/-! ### what the text says of a class -/
/-- C is such a class: its instances' field is called f -/
structure XCls (K : PySem.W.Frag) (C : Addr) (f : Str) : Prop where
  oex : OexC K C
  xf : XfC K C
  isx : ExcC K C
  nof : PySem.W.findIn K (.ref C) f = some none
def ocB (K : PySem.W.Frag) (C : Addr) : Bool := match K.lookup C with
  | some ⟨.type "type", _, .cls ⟨_, _, .ref C2 :: bm, _, _, true, _, _, _, _, false⟩, ⟨[_, _, _, _, some (.builtin n), _]⟩⟩ => C2 == C && (n == "ValueError.__new__" && HandSPX.refsVE bm)
  | _ => false
theorem ocB_ok {K : PySem.W.Frag} {C : Addr} (h : ocB K C = true) : ∃ nm q N bs bm sn sub ab col dd k0 k1 k2 k3 k5, K.lookup C = some (excClassObj nm q C N bs bm true sn sub ab col dd k0 k1 k2 k3 k5 "ValueError.__new__") ∧ HandSPX.refsVE bm = true := by
  unfold ocB at h
  split at h
  · rename_i e
    obtain ⟨h1, h2⟩ := He.ba h
    obtain ⟨h3, h4⟩ := He.ba h2
    have e1 := beq_iff_eq.mp h1
    have e2 := beq_iff_eq.mp h3
    subst e1 e2
    exact ⟨_, _, _, _, _, _, _, _, _, _, _, _, _, _, _, e, h4⟩
  · cases h
def vEq (a b : Option (Option Value)) : Bool := decide (a = b)
def xclsB (K : PySem.W.Frag) (C : Addr) (f : Str) : Bool := ocB K C && (He.eqO (PySem.W.findIn K (.ref C) "__setattr__") (some (some (.builtin "object.__setattr__"))) && (decide (PySem.W.subIn K (.ref C) (.type "BaseException") = some true) &&
  (decide (PySem.W.typeIn K (.ref C) = some (.type "type")) && (PySem.W.keepIn K (.ref C) && (xfB K C && (He.eqO (PySem.W.findIn K (.ref C) "__class__") (some (some (.builtin "object.__class__"))) &&
  (He.eqO (PySem.W.specialIn K (.builtin "object.__class__") "__get__") (some (some (.builtin "getset_descriptor.__get__"))) && (decide (PySem.W.takesIn K (.builtin "object.__class__") = some true) && (decide (PySem.W.mroIn K C (.type "object") = some true) &&
  He.eqO (PySem.W.findIn K (.ref C) f) (some none))))))))))
theorem xcls_ok {K : PySem.W.Frag} {C : Addr} {f : Str} (h : xclsB K C f = true) : XCls K C f := by
  obtain ⟨h1, h⟩ := He.ba h
  obtain ⟨h2, h⟩ := He.ba h
  obtain ⟨h3, h⟩ := He.ba h
  obtain ⟨h4, h⟩ := He.ba h
  obtain ⟨h5, h⟩ := He.ba h
  obtain ⟨h6, h⟩ := He.ba h
  obtain ⟨h7, h⟩ := He.ba h
  obtain ⟨h8, h⟩ := He.ba h
  obtain ⟨h9, h⟩ := He.ba h
  obtain ⟨h10, h11⟩ := He.ba h
  have x := xfB_ok h6
  exact ⟨⟨ocB_ok h1, He.eqO_ok h2, of_decide_eq_true h3, of_decide_eq_true h4, h5⟩, x, ⟨x.ga, x.gg, x.exC, x.hdC, He.eqO_ok h7, He.eqO_ok h8, of_decide_eq_true h9, of_decide_eq_true h10⟩, He.eqO_ok h11⟩

/-! ### an exception as a tracked thing -/
/-- at a: an exception of the class at C, its own dict at d -/
def xob (a C d : Addr) : HO := .ext fun h => ∃ (oe : Obj) (vs : Array Value), h.get? a = some oe ∧ oe.cls = .ref C ∧ oe.dict = some d ∧ oe.data = .fields vs
theorem xob_ok {P : Program} {w : World} {H : Hp} {h : Heap} {a C d : Addr} {oe : Obj} (e : h.get? a = some oe) (c : oe.cls = .ref C) (hd : oe.dict = some d) (hf : ∃ vs, oe.data = .fields vs) : ObjOk P w H h a (xob a C d) := by
  obtain ⟨vs, hf⟩ := hf
  exact ⟨⟨oe, vs, e, c, hd, hf⟩, ⟨oe, e⟩, fun _ _ z k => let ⟨o, v, q, r⟩ := z; ⟨o, v, k o q, r⟩⟩
section
variable {X : Cx} {pins : List (Addr × Obj)} {σ : L2.St} {H : Hp} {st : Shared}
theorem xob_inst {a C d : Addr} {fs : List (Str × V)} (I : Inv X pins σ H st) (ha : H a = some (xob a C d)) (hd : H d = some (.xd fs)) :
    ∃ (ox od : Obj) (mA : Str → Option Value), PySem.W.InstAt st.heap a ox C (some od) ∧ (∀ n, PySem.W.lookIn n od = some (mA n)) ∧ ∀ n, RelO (fs.lookup n) (mA n) := by
  obtain ⟨⟨oe, vs, e, c, ed, ef⟩, _⟩ := (show ObjOk X.prog X.w H st.heap a (xob a C d) from I.hok a _ ha)
  obtain ⟨mA, hns, hr⟩ := (show ObjOk X.prog X.w H st.heap d (.xd fs) from I.hok d _ hd)
  obtain ⟨od, ho, hl⟩ := lookIn_ns hns
  exact ⟨oe, od, mA, ⟨e, c, by unfold PySem.W.notCls; rw [ef] <;> rfl, by rw [ed]; exact ho⟩, hl, hr⟩
end
/-- e.f, an exception's field -/
def tXv (K : PySem.W.Frag) (f : Str) (te : TE) : TE := fun σ H Q => te σ H fun x H1 => ∃ (a C d : Addr) (fs : List (Str × V)) (v : V), x = .ref a ∧ H1 a = some (xob a C d) ∧ H1 d = some (.xd fs) ∧ XCls K C f ∧ fs.lookup f = some v ∧ Q v H1
/-- isinstance(e, c), e such an exception -/
def rIsx (K : PySem.W.Frag) : List V → Hp → VK → Prop := fun xs H Q => ∃ (a C d : Addr) (fs : List (Str × V)) (c : V) (cv : Value) (b : Bool), xs = [.ref a, c] ∧ H a = some (xob a C d) ∧ H d = some (.xd fs) ∧ ExcC K C ∧ ClsV c cv ∧ PySem.W.kitOne K (.ref C) cv = some b ∧ Q (.bl b) H
section
variable {X : Cx} {e : Expr} {te : TE} {pos : Pos} {f : Str}
theorem pe_xv (he : PE X e te) (hb : attributeBase e f X.env (eval e X.env) = eval e X.env := by rfl) : PE X (.Attribute e f pos) (tXv X.K f te) := by
  refine ⟨fun pins st σ H Q I h => attr_of hb (thn (he.run pins st σ H _ I h) fun u s1 ⟨x, H1, I1, rx, a, C, d, fs, v, ex, ea, ed, T, l, q⟩ => ?_)⟩
  subst ex
  obtain rfl : u = Value.ref a := rx
  obtain ⟨ox, od, mA, J, hl, hr⟩ := xob_inst I1 ea ed
  obtain ⟨u, hu, ru⟩ := RelO.some_of (v := v) (o := mA f) (by rw [← l]; exact hr f)
  exact HandSPX.exc_get I1.kIn J T.xf.ga T.xf.gg T.xf.exC (PySem.W.findObj_own T.xf.hdC T.nof rfl (by rw [hl, hu])) (handed_of ru) ⟨v, H1, I1.tok _, ru, q⟩
theorem call_isx : CallR X (.builtin "isinstance") (rIsx X.K) := by
  intro pins st σ H xs us Q I r h
  obtain ⟨a, C, d, fs, c, cv, b, rfl, ha, hd, T, k, e, q⟩ := h
  obtain ⟨u1, u2, rfl, r1, r2⟩ := vals2 r
  have e2 := k.eq r2
  subst e2
  obtain rfl := (show u1 = Value.ref a from r1)
  obtain ⟨ox, od, mA, J, _, _⟩ := xob_inst I ha hd
  have hc : (PySem.W.clsIn X.K C).isSome = true := by
    obtain ⟨cd, hcd, _⟩ := PySem.W.any_some T.hd
    rw [hcd]
    rfl
  exact PySem.W.kia_one (PySem.W.kitx_exc hc T.hg T.hk T.hs T.ha T.hn T.ht T.hm) I.kIn J e (fun z => nomatch z) fun tk => ⟨.bl b, H, I.tok tk, rfl, q⟩
end

/-! ### WatchError.__init__(self, ..), within the __init__ of a class over it -/
structure WBase (K : PySem.W.Frag) (mg : Str → Option Value) (wn : Str) : Prop where
  ex : ∃ (W : Addr) (mc : Value), mg wn = some (.ref W) ∧ PySem.W.readsIn K W mc = true ∧ PySem.W.specialIn K (.ref W) "__getattribute__" = some (some (.builtin "type.__getattribute__")) ∧
    PySem.W.findCls K (.ref W) mc "__init__" = some (.val (.builtin "ValueError.__init__"))
section
variable {X : Cx} {e : Expr} {es : List Expr} {ta : TA} {wn : Str} {p1 p2 pos : Pos}
theorem pe_winit {pl : Sem Bool} (hg : Gl X wn) (T : WBase X.K X.mg wn) (ha : PA X (e :: es) ta) (hdb : (wn == ("__debug__" : Str)) = false := by decide)
    (hc : eval (.Call (.Attribute (.Name wn p1) "__init__" p2) (e :: es) [] pos) X.env = (do
      let ov ← eval (.Name wn p1) X.env
      standAt p2.atName
      let (g, fst) ← holding [ov] (getMethod ov "__init__" pl)
      callWith pos g fst (backTo pos (starEach (e :: es) X.env)) (backToKw pos (keywordEach [] X.env))) := by rfl)
    (he : starEach (e :: es) X.env = (false, eval e X.env) :: starEach es X.env := by rfl) (hpl : (backTo pos (starEach es X.env)).any (·.1) = false := by rfl) :
    PE X (.Call (.Attribute (.Name wn p1) "__init__" p2) (e :: es) [] pos) (tVeI X.K ta) := by
  obtain ⟨W, mc, gW, rd, ga, fc⟩ := T.ex
  refine ⟨fun pins st σ H Q I h => PySem.W.methodCall_KW (ld_glob I hg gW ?_ hdb) hc⟩
  refine PySem.W.method_cls I.kIn ga (PySem.W.cls_value I.kIn rd fc rfl ?_)
  show wpAny _ _ (callWith pos (Value.builtin "ValueError.__init__") [] (backTo pos (starEach (e :: es) X.env)) []) _ _ _
  refine PyProof.Rows.callWith_method1 (thn (ha.run pos pins _ σ H _ (I.tok _) h) fun us s1 ⟨xs, H1, I1, rel, a, C, ws, ev, hl, Tc, ea, q⟩ => ?_) he hpl
  subst ev
  cases rel with
  | @cons _ u0 _ ur ra rw' =>
    obtain rfl : u0 = Value.ref a := ra
    have hlen : ur.length ≤ sizeLine := by
      rw [← Paired.length rw', sizeLine_eq]
      omega
    exact oinit_ok Tc I1 ea hlen fun s2 J => ⟨.non, H1, J, rfl, q⟩
end
end Xb
/-! Own ground, part C: such exceptions raised, caught and kept. -/
namespace Xc
open PySem PySem.Spec PyProof.Rows L2 Xa Xb

/-- a reading closed under weaker wishes -/
def tUp (te : TE) : TE := fun σ H Q => ∃ Q0 : VK, te σ H Q0 ∧ ∀ v H1, Q0 v H1 → Q v H1
theorem pe_up {X : Cx} {e : Expr} {te : TE} (he : PE X e te) : PE X e (tUp te) :=
  ⟨fun pins st σ H Q I ⟨Q0, h, k⟩ => thn (he.run pins st σ H Q0 I h) fun _ _ ⟨v, H1, I1, r, q⟩ => ⟨v, H1, I1, r, k v H1 q⟩⟩

/-! ### __init__ -/
/-- what __init__ of such a class promises -/
def spXi (C : Addr) (f : Str) : Sp := fun xs H Q _ => ∃ (a : Addr) (v : V), xs = [.ref a, v] ∧ H a = some (exo a C none) ∧ ∀ dx, H dx = none → dx ≠ a → Q .non (upd (upd H dx (exd dx [(f, v)])) a (exo a C (some dx)))
def xiBody (msg f : Str) (k : Nat) (p1 p2 p3 p4 p5 p6 p7 p8 p9 p10 : Pos) : List Stmt :=
  [.Expr (.Call (.Attribute (.Name "WatchError" p1) "__init__" p2) [.Name "self" p3, .Constant (.str msg) k p4] [] p5) p6, .Assign [.Attribute (.Name "self" p7) f p8] (.Name f p9) p10]
/-- how the call of WatchError.__init__ is run there (rfl at each class) -/
def XiRun (qual : Str) (scope : Scope) (msg : Str) (k : Nat) (p1 p2 p3 p4 p5 : Pos) : Prop := ∀ (n g : Addr) (cdv : Value), ∃ pl : Sem Bool,
  eval (.Call (.Attribute (.Name "WatchError" p1) "__init__" p2) [.Name "self" p3, .Constant (.str msg) k p4] [] p5) (envOfC qual scope n g cdv) = (do
    let ov ← eval (.Name "WatchError" p1) (envOfC qual scope n g cdv)
    standAt p2.atName
    let (m, fst) ← holding [ov] (getMethod ov "__init__" pl)
    callWith p5 m fst (backTo p5 (starEach [.Name "self" p3, .Constant (.str msg) k p4] (envOfC qual scope n g cdv))) (backToKw p5 (keywordEach [] (envOfC qual scope n g cdv))))
theorem ok_xi {P : Program} {w : World} {K : PySem.W.Frag} {mg : Str → Option Value} {base : Heap} {C fI : Addr} {fd : FuncData} {qual msg f : Str} {params : Arguments} {scope : Scope} {dvs : List V} {k : Nat} {p1 p2 p3 p4 p5 p6 p7 p8 p9 p10 : Pos}
    (F : FunD K "__init__" qual params (xiBody msg f k p1 p2 p3 p4 p5 p6 p7 p8 p9 p10) scope dvs [] fI fd) (S : FnScope ["self", f] ["self", f] scope) (T : XCls K C f) (B : WBase K mg "WatchError")
    (hs : scope.names.lookup ("self" : Str) = some .local) (hf : scope.names.lookup f = some .local) (hw : scope.names.lookup ("WatchError" : Str) = some .globalImplicit) (run : XiRun qual scope msg k p1 p2 p3 p4 p5) (f1 : (f == ("__debug__" : Str)) = false) (f2 : (f == ("__classdict__" : Str)) = false) :
    FnOk P w K mg base CX0 1 fI fd ["self", f] (spXi C f) := by
  refine F.ok S (fun xs H Q E h => ?_) (fun cdv A outer s H vs Q E hr h => ?_)
  · obtain ⟨a, v, rfl, _⟩ := h
    rfl
  · obtain ⟨a, v, rfl, ha, q⟩ := h
    obtain ⟨pl, hc⟩ := run s.heap.objs.size fI cdv
    refine ⟨_, PSs.nox (pss_cons (ps_expr (pe_winit (pl := pl) hw B (pa_cons (pe_var (i := 0) rfl (.inl hs)) (pa_cons pe_str pa_nil)) (by decide) hc)) (pss_one (ps_ost (pe_var (i := 0) rfl (.inl hs)) (pe_var (i := 1) rfl (.inl hf) f1 f2)))), ?_⟩
    refine ⟨_, rfl, a, C, [.str msg], rfl, (by show 1 ≤ 1000; decide), T.oex, ha, ?_⟩
    exact ⟨_, rfl, _, rfl, a, C, rfl, T.oex, T.nof, .inl ⟨ha, fun dx n ne => q dx n ne⟩⟩

/-! ### raise C(e) -/
/-- the class is known by the name x, its __init__ stands at fI -/
structure XMake (P : Program) (w : World) (K : PySem.W.Frag) (mg : Str → Option Value) (base : Heap) (x : Str) (C : Addr) (f : Str) : Prop where
  cls : XCls K C f
  glo : mg x = some (.ref C)
  ini : ∃ (fI : Addr) (fd : FuncData), PySem.W.findIn K (.ref C) "__init__" = some (some (.ref fI)) ∧ PySem.W.typeIn K (.ref fI) = some (.type "function") ∧ FnOk P w K mg base CX0 1 fI fd ["self", f] (spXi C f) ∧ Binds K fd ["self", f] []
def tRz (C : Addr) (f : Str) (W : WX) (te : TE) : TS := fun _ σ H => te σ H fun v H1 => ∀ d, H1 d = none → W (.ref C) (some d) σ (upd H1 d (.xd [(f, v)]))
theorem new_heap {H : Hp} {a C d : Addr} {f : Str} {v : V} (ha : H a = none) (hd : d ≠ a) :
    upd (del (upd (upd (upd H a (exo a C none)) d (exd d [(f, v)])) a (exo a C (some d))) a) d (.xd [(f, v)]) = upd H d (.xd [(f, v)]) := by
  funext b
  by_cases h1 : b = d
  · rw [h1, upd_same, upd_same]
  · rw [upd_ne h1, upd_ne h1]
    by_cases h2 : b = a
    · rw [h2, del_same, ha]
    · rw [del_ne h2, upd_ne h2, upd_ne h1, upd_ne h2]
theorem ps_rz {X : Cx} {x f : Str} {C : Addr} {W : WX} {e : Expr} {te : TE} {p pos pos2 : Pos} (hc : X.calm = true) (M : XMake X.prog X.w X.K X.mg X.base x C f) (hr : Room 2 X.A) (tk : Takes X W) (hg : Gl X x) (he : PE X e te)
    (hdb : (x == ("__debug__" : Str)) = false := by decide) (hst : starEach [e] X.env = (false, eval e X.env) :: starEach [] X.env := by rfl) (hpl : (backTo pos (starEach [] X.env)).any (·.1) = false := by rfl) :
    PS X (.Raise (some (.Call (.Name x p) [e] [] pos)) none pos2) (tRz C f W te) := by
  obtain ⟨fI, fd, i1, i2, F, b⟩ := M.ini
  have R := ps_raise (pos := pos2) hc tk (pmk_oex (p := p) (pos := pos) (k := 1) M.cls.oex i1 i2 F hr b .nil pass0 hg M.glo (pa_cons (pe_up he) pa_nil hst) hdb hst hpl)
  refine ⟨fun pins st σ H D I h => R.run pins st σ H D I ⟨_, h, fun v H1 q => ⟨(by show 1 ≤ 1000; decide), fun a na => ⟨a, v, rfl, upd_same, fun dx ndx ne => ⟨rfl, dx, [(f, v)], upd_same, ?_, ?_, ?_⟩⟩⟩⟩⟩
  · rw [upd_ne ne, upd_same]
  · rw [upd_ne ne] at ndx
    exact ndx
  · rw [new_heap na ne]
    rw [upd_ne ne] at ndx
    exact q dx ndx
end Xc
/-! Own ground, part D: try: body / except X as n: c = n, the exception kept and tracked. -/
namespace Xd
open PySem PySem.Spec PyProof.Rows L2 Xa Xb Xc

section
variable {X : Cx} {pins : List (Addr × Obj)} {σ : L2.St} {H : Hp} {st : Shared} {a C d : Addr} {oe : Obj}
/-- a pinned exception, new since the entry, is tracked from here on -/
theorem track (I : Inv X ((a, oe) :: pins) σ H st) (n0 : X.s_0.heap.get? a = none) (np : ∀ p ∈ X.pn ++ pins, p.1 ≠ a) (hc : oe.cls = .ref C) (hd : oe.dict = some d) (hf : ∃ vs, oe.data = .fields vs) : Inv X pins σ (upd H a (xob a C d)) st := by
  obtain ⟨ha, hn, hL, hF, hcell⟩ := I.pin (a, oe) (List.mem_append_right _ List.mem_cons_self)
  have n1 : ∀ b o, X.s_0.heap.get? b = some o → b ≠ a := fun b o z q => by rw [q, n0] at z; cases z
  refine ⟨I.ok, I.os, I.bare, ⟨I.base.keep, I.base.slot, fun b o z n hx => ?_, I.base.there, fun b xs z => ?_, fun b o u z => ?_, fun b ps z => ?_⟩, I.loc, I.cell, ?_, fun x c z => ?_, fun p hp => ?_, ?_, I.len⟩
  · rw [upd_ne (n1 b o z)]
    exact I.base.free b o z n hx
  · have q := I.base.tups b xs z
    rw [upd_ne (ne_of_none q hn)]
    exact q
  · have q := I.base.frzs b o u z
    rw [upd_ne (ne_of_none q hn)]
    exact q
  · obtain ⟨m, q⟩ := I.base.tbls b ps z
    exact ⟨m, by rw [upd_ne (ne_of_none q hn)]; exact q⟩
  · rw [upd_ne (Ne.symm hL)]
    exact I.free
  · have q : c ≠ a := fun e => by
      obtain ⟨v, o, ho, hv⟩ := I.cell x c z
      rw [e, ha] at ho
      exact hcell v (by rw [Option.some.inj ho]; exact hv)
    rw [upd_ne q]
    exact I.freeC x c z
  · have q : p ∈ X.pn ++ (a, oe) :: pins := by
      rcases List.mem_append.mp hp with z | z
      · exact List.mem_append_left _ z
      · exact List.mem_append_right _ (List.mem_cons_of_mem _ z)
    obtain ⟨k1, k2, k3⟩ := I.pin p q
    exact ⟨k1, by rw [upd_ne (np p hp)]; exact k2, k3⟩
  · exact I.hok.laidN (fun _ _ z => z) hn (xob_ok ha hc hd hf)
end

/-- what the clause wishes of an exception of the body: n stands in slot i, c in slot j -/
def wKeep (K : PySem.W.Frag) (cv : Value) (i j : Nat) (D : Ends) : WX := fun cls d σ H => ∃ C dx : Addr, cls = .ref C ∧ d = some dx ∧ PySem.W.exmOne K cls cv = some true ∧ ∀ a, H a = none → D.nx (((σ.set i (some (.ref a))).set j (some (.ref a))).set i none) (upd H a (xob a C dx))
section
variable {X : Cx} {x n : Str} {cv : Value} {i j : Nat} {body : List Stmt} {keep : Stmt} {np hp pos : Pos} {tb : WX → TS}
theorem ps_keep (hs : X.stack = X.env :: X.outer) (hf : X.env.frame = some X.env.locals) (hex : X.ex = []) (nd : X.N.Nodup) (hi : X.N[i]? = some n) (hln : X.env.kindOf n = some .local) (hlen : i < X.N.length) (hc : Names X x cv)
    (hb : ∀ (W : WX) (pn : List (Addr × Obj)) (xe : Value → Shared → Prop), Takes (X.tr pn xe) W → PassesOwn (model X.prog X.w) X.A X.env xe → PSs (X.tr pn xe) body (tb W))
    (hk : ∀ (a : Addr) (pn : List (Addr × Obj)), PSs (X.suite a pn) [keep] (tAsg (tVar i) (gName j))) :
    PS X (.Try body [.ExceptHandler (some (.Name x np)) (some n) [keep] hp] [] [] pos) (fun D σ H => tb (wKeep X.K cv i j D) D σ H) := by
  refine ⟨fun pins st σ H D I h => ?_⟩
  have ok := I.ok
  have frm : X.A.frames = some (X.env :: X.outer) := by rw [ok.frames, hs]
  refine wpAny_Try_except ?_
  refine wpAny_mono ((hb (wKeep X.K cv i j D) (X.pn ++ pins) (fun u t1 => wpAny (model X.prog X.w) X.A (noteFrame u X.env) (fun _ t2 => wpAny (model X.prog X.w) X.A (setFlight u none) (fun _ t3 =>
    wpAny (model X.prog X.w) X.A (handleBy u X.env [.ExceptHandler (some (.Name x np)) (some n) [keep] hp]) (SP X pins D) X.xe t3) X.xe t2) X.xe t1) (fun u s2 air => ?_) PassesOwn.looking).run [] st σ H D (I.toTry _) h) (fun fl s1 sp => ?_) (fun _ _ z => z)
  · obtain ⟨a, B, sI, pins2, σ2, H2, cls, d, rfl, J0, nb, up, sky, na, os, ag, C, dx, ec, ed, em, go⟩ := air
    subst ec ed
    have J : Inv X pins σ2 H2 sI := J0.ofTry ok
    have sky2 : Sky B (X.env :: X.outer) a (Zc (.ref C) (some dx)) X.env.locals s2.heap := by rw [← hs]; exact sky
    show wpAny (model X.prog X.w) X.A (noteFrame (.ref a) X.env) _ _ _
    refine Sky.land Zc.steady frm hf sky2 fun h3 fl3 up3 => ?_
    have J3 : Inv X pins σ2 H2 { s2 with heap := h3 } := J.landed nb fl3.1 (up.trans up3) os ag
    obtain ⟨o3, v3, g3, z3, d3⟩ := fl3.there
    have off : a ∉ frs (X.env :: X.outer) := fun hm => by
      obtain ⟨_, o', e', hnf⟩ := fl3.2.2.1.mem hm
      rw [g3] at e'
      cases e'
      exact hnf _ d3
    have nL : a ≠ X.env.locals := fun z => off (List.mem_filterMap.mpr ⟨X.env, List.mem_cons_self, by rw [hf, z]⟩)
    have nF : a ∉ X.fs := fun hm => by
      obtain ⟨e, he, q⟩ := List.mem_filterMap.mp hm
      exact off (List.mem_filterMap.mpr ⟨e, List.mem_cons_of_mem _ he, q⟩)
    have offS : ∀ b, b ≠ X.env.locals → b ∉ X.fs → b ∉ frs X.stack := fun b h1 h2 hm => (List.mem_cons.mp (J.stkSub b hm)).elim h1 h2
    have inB : ∀ b o, b ≠ X.env.locals → b ∉ X.fs → sI.heap.get? b = some o → b ≠ a := fun b o h1 h2 z q => by
      have y := nb b o z (offS b h1 h2)
      rw [q, fl3.2.1] at y
      cases y
    have n0 : X.s_0.heap.get? a = none := by
      cases z : X.s_0.heap.get? a with
      | none => rfl
      | some o =>
        obtain ⟨o', y⟩ := J.base.there a o z (by rw [hex]; exact fun k => nomatch k)
        exact absurd rfl (inB a o' nL nF y)
    have npin : ∀ p ∈ X.pn ++ pins, p.1 ≠ a := fun p hp => by
      obtain ⟨k1, _, k3, k4, _⟩ := J.pin p hp
      exact inB p.1 p.2 k3 k4 k1
    have S3 := J3.suite g3 d3 na nL nF
    refine wpAny_handleBy_cons (codeAny_handlers_test ?_) (by intro q; cases q)
    have LT : PySem.W.Looks (model X.prog X.w) h3 (typeOf (.ref a)) (.ref C) := fun _ _ _ _ k q => wpAny_typeOf_ref (k _ _ g3) (by rw [z3.1]; exact q)
    have LM := PySem.W.exm_one (M := model X.prog X.w) (J3.kIn) LT em
    have named : ∀ {Q : Value → Shared → Prop} {E : Value → Shared → Prop}, Q cv { s2 with heap := h3 } → wpAny (model X.prog X.w) (X.A.mark (some (.ref a))) (eval (.Name x np) X.env) Q E { s2 with heap := h3 } := fun {Q E} q => by
      obtain ⟨hg, hdbg, hm | ⟨hm, hv, hnn⟩⟩ := hc
      · exact ld_glob (X := X.suite a ((a, o3) :: (X.pn ++ pins))) S3 hg hm q hdbg
      · exact ld_blt (X := X.suite a ((a, o3) :: (X.pn ++ pins))) S3 hg hm hv q hnn hdbg
    refine named (LM.here ?_)
    refine codeAny_handlers_suite_as ?_
    refine HandSPX.lands_againZ fl3 fun h4 fl4 up4 => ?_
    have J4 : Inv X pins σ2 H2 { s2 with heap := h4 } := J.landed nb fl4.1 ((up.trans up3).trans up4) os ag
    obtain ⟨o4, v4, g4, z4, d4⟩ := fl4.there
    have S4 := J4.suite g4 d4 na nL nF
    refine store_ok (X := X.suite a ((a, o4) :: (X.pn ++ pins))) (v := .ref a) S4 nd hi (.inl hln) rfl (fun s5 S5 => ?_) (.inr hln)
    have hl5 : i < σ2.length := by rw [J.len]; exact hlen
    refine wpAny_mono ((hk a ((a, o4) :: (X.pn ++ pins))).run [] s5 _ H2 { nx := fun σ6 H6 => σ6 = (σ2.set i (some (.ref a))).set j (some (.ref a)) ∧ H6 = H2, rt := fun _ _ => False } S5
      ⟨.ref a, by rw [List.getElem?_set_self hl5], rfl, rfl⟩) (fun fl s6 sp6 => ?_) (fun _ _ z => False.elim z)
    cases fl with
    | next =>
      obtain ⟨σ6, H6, S6, e1, e2⟩ := sp6
      subst e1 e2
      have P6 : Inv X ((a, o4) :: pins) _ H6 s6 := ⟨ok, S6.os, S6.bare, S6.base, S6.loc, S6.cell, S6.free, S6.freeC, fun p hp => S6.pin p (by
        rw [List.append_nil]
        rcases List.mem_append.mp hp with z | z
        · exact List.mem_cons_of_mem _ (List.mem_append_left _ z)
        · rcases List.mem_cons.mp z with z | z
          · rw [z]
            exact List.mem_cons_self
          · exact List.mem_cons_of_mem _ (List.mem_append_right _ z)), S6.hok, S6.len⟩
      exact gone_ok P6 nd hi hln fun s7 J7 => ⟨_, _, track J7 n0 npin z4.1 z4.2 ⟨_, d4⟩, go a na⟩
    | brk => exact let ⟨_, _, _, q⟩ := sp6; False.elim q
    | cont => exact let ⟨_, _, _, q⟩ := sp6; False.elim q
    | ret u => exact let ⟨_, _, _, _, _, q⟩ := sp6; False.elim q
  · cases fl with
    | next => exact let ⟨σ2, H2, J2, q⟩ := sp; wpAny_execs_nil ⟨σ2, H2, J2.ofTry ok, q⟩
    | brk => exact let ⟨σ2, H2, J2, q⟩ := sp; ⟨σ2, H2, J2.ofTry ok, q⟩
    | cont => exact let ⟨σ2, H2, J2, q⟩ := sp; ⟨σ2, H2, J2.ofTry ok, q⟩
    | ret u => exact let ⟨v, σ2, H2, J2, r, q⟩ := sp; ⟨v, σ2, H2, J2.ofTry ok, r, q⟩
end
end Xd
/-! Own ground, part S: sets of tuples of ints that grow: set(), add, in. -/
namespace Xs
open PySem PySem.Spec PyProof.Rows L2 Xa Xb Xc

section
variable {P : Program} {w : World} {A : Around} {E : Value → Shared → Prop} {s : Shared} {a : Addr} {L : List (Addr × List Int)} {es : Array (Int × Value)} {ep : Nat} {t : SetTable}
/-- the c-th place that is looked at -/
abbrev prb (t : SetTable) (h : Int) (c : Nat) : SetTable.Probe := nth t.mask (runAt t.mask (SetTable.bits h % (t.mask + 1)) (SetTable.bits h)) c
theorem prb_clean (t : SetTable) (h : Int) (c : Nat) : (prb t h c).dummy = none := by
  have go : ∀ (n : Nat) (p : SetTable.Probe), p.dummy = none → (nth t.mask p n).dummy = none := fun n => by
    induction n with
    | zero => exact fun _ z => z
    | succ n ih =>
      refine fun p z => ih (adv t.mask p) ?_
      unfold adv
      split <;> exact z
  exact go c _ rfl
theorem prb_on (t : SetTable) (h : Int) (c q : Nat) : nth t.mask (prb t h c) q = prb t h (c + q) := (nth_add t.mask c _ q).symm
/-- what is looked for stands (or doesn't) among the tuples of L: the search of in -/
theorem seek (R : SetTR P w s.heap a L es ep t) {x : Addr} {k : List Int} (hx : IsT P w s.heap k x) (hu : A.units < cLine) {z : Nat} (z1 : z < 10 * SetTable.turns t.mask) (z2 : way t.mask (thash P w k) z ∉ t.place.toList)
    (z3 : ∀ c, c < z → way t.mask (thash P w k) c ∈ t.place.toList) {Q : SetFound → Shared → Prop} (yes : ∀ i, k ∈ L.map (·.2) → Q (.there (some i)) s) (no : k ∉ L.map (·.2) → Q (.free (way t.mask (thash P w k) z) false) s) :
    ∀ (f c : Nat) (at_ : Option SetTable.Probe), at_.getD (t.probeStart (thash P w k)) = prb t (thash P w k) c → c ≤ z → z - c < f →
      (∀ (i : Nat) p, L[i]? = some p → p.2 = k → ∃ c', c ≤ c' ∧ c' < z ∧ t.place.toList[i]? = some (way t.mask (thash P w k) c')) →
      wpAny (model P w) A (setSearchFrom a (.ref x) (thash P w k) false f at_) Q E s := by
  obtain ⟨o, ho, _, hd⟩ := R.ob
  intro f
  induction f with
  | zero => exact fun c _ _ _ hf => absurd hf (Nat.not_lt_zero _)
  | succ f ih =>
    intro c at_ hat hc hf ahead
    rw [setSearchFrom_succ]
    refine wpAny_bind (wpAny_setState_of ho hd R.fits ?_)
    dsimp only
    refine wp_if_neg R.gw ?_
    try refine wpAny_bind (wpAny_pure ?_)
    have go := go_spec t R.tab.ris R.tab.dm (fun i => (es[i]?.map (·.1)).getD 0) (thash P w k) (10 * SetTable.turns t.mask) (z - c) _ (prb_clean t (thash P w k) c) (by omega)
      (fun q hq => by rw [prb_on]; exact z3 (c + q) (by omega)) (by rw [prb_on, show c + (z - c) = z by omega]; exact z2)
    have hash_of : ∀ (i : Nat) p, L[i]? = some p → (es[i]?.map (·.1)).getD 0 = thash P w p.2 := fun i p hp => by rw [R.entry hp] <;> rfl
    rcases go with ⟨q, i, hq, hi, hh, before, met⟩ | ⟨before, met⟩
    · rw [hat, show t.probe _ (thash P w k) (prb t (thash P w k) c) = _ from met]
      dsimp only
      rw [prb_on] at hi
      have hil : i < L.length := by
        have y1 := (List.getElem?_eq_some_iff.mp hi).1
        have y2 := R.tab.sz
        rw [List.length_map] at y2
        rw [Array.length_toList] at y1
        omega
      obtain ⟨p, hp⟩ : ∃ p, L[i]? = some p := ⟨_, List.getElem?_eq_getElem hil⟩
      have pin := List.mem_of_getElem? hp
      have live : t.slot (way t.mask (thash P w k) (c + q)) = .live i := slot_live R.tab.ris hi
      have behind : wpAny (model P w) A (searchRest a (.ref x) (thash P w k) false f es t (way t.mask (thash P w k) (c + q)) i (prb t (thash P w k) (c + (q + 1)))) Q E s := by
        unfold searchRest
        rw [R.entry hp]
        dsimp only
        refine wpAny_bind (wpAny_holding (wpAny_eqBool_tuple hu (R.tup p pin) hx ?_))
        refine wpAny_bind (wpAny_setState_of ho hd R.fits ?_)
        dsimp only
        refine wp_if_neg (by simp) ?_
        try refine wpAny_bind (wpAny_pure ?_)
        rw [sameMem]
        dsimp only
        simp only [if_true, live, R.entry hp]
        refine wpAny_bind (wpAny_isSame_ref_self (wpAny_bind (wpAny_pure ?_)))
        simp only [if_true]
        by_cases e : p.2 = k
        · refine wp_if_pos (by simp [e]) (wpAny_pure (yes i (List.mem_map.mpr ⟨p, pin, e⟩)))
        · refine wp_if_neg (by simp [e]) (ih (c + (q + 1)) _ rfl (by omega) (by omega) fun j r hj hr => ?_)
          obtain ⟨c', y1, y2, y3⟩ := ahead j r hj hr
          refine ⟨c', ?_, y2, y3⟩
          rcases Nat.lt_trichotomy c' (c + q) with y | y | y
          · exact absurd ((hash_of j r hj).trans (congrArg (thash P w) hr)) (before (c' - c) j (by omega) (by rw [prb_on, show c + (c' - c) = c' by omega]; exact y3))
          · rw [y] at y3
            have l2 := slot_live R.tab.ris y3
            rw [live] at l2
            injection l2 with l2
            rw [← l2, hp] at hj
            exact absurd ((congrArg Prod.snd (Option.some.inj hj)).trans hr) e
          · omega
      have nxt : nth t.mask (prb t (thash P w k) c) (q + 1) = prb t (thash P w k) (c + (q + 1)) := prb_on ..
      have plc : (nth t.mask (prb t (thash P w k) c) q).j = way t.mask (thash P w k) (c + q) := congrArg SetTable.Probe.j (prb_on t (thash P w k) c q)
      rw [nxt, plc]
      by_cases led : t.led = true
      · refine wp_if_neg (by simp [led]) ?_
        try refine wpAny_bind (wpAny_pure ?_)
        exact behind
      · refine wp_if_pos (by simp [led]) (wpAny_bind (seen_tup hx (fun y hy => ?_) (wp_if_neg (by decide) ?_)))
        · obtain ⟨e, he, rfl⟩ := List.mem_map.mp hy
          have e1 : e ∈ es.toList := by
            have e2 : e ∈ es ∧ e.1 = thash P w k := by simpa using he
            simpa using e2.1
          rw [R.rows] at e1
          obtain ⟨p2, hp2, rfl⟩ := List.mem_map.mp e1
          exact ⟨p2.2, p2.1, rfl, R.tup p2 hp2⟩
        · try refine wpAny_bind (wpAny_pure ?_)
          exact behind
    · have plc : (nth t.mask (prb t (thash P w k) c) (z - c)).j = way t.mask (thash P w k) z := by
        rw [prb_on, show c + (z - c) = z by omega]
      rw [hat, show t.probe _ (thash P w k) (prb t (thash P w k) c) = _ from met]
      dsimp only
      rw [plc]
      refine wpAny_pure (no fun hm => ?_)
      obtain ⟨p, hp, hk⟩ := List.mem_map.mp hm
      obtain ⟨i, hi, rfl⟩ := List.getElem_of_mem hp
      have hi2 := List.getElem?_eq_getElem hi
      obtain ⟨c', y1, y2, y3⟩ := ahead i _ hi2 hk
      exact before (c' - c) i (by omega) (by rw [prb_on, show c + (c' - c) = c' by omega]; exact y3) ((hash_of i _ hi2).trans (congrArg (thash P w) hk))
theorem seek_all (R : SetTR P w s.heap a L es ep t) {x : Addr} {k : List Int} (hx : IsT P w s.heap k x) (hu : A.units < cLine) {Q : Option Nat → Shared → Prop} (h : ∀ r, r.isSome = decide (k ∈ L.map (·.2)) → Q r s) :
    wpAny (model P w) A (setFind a (.ref x) (thash P w k)) Q E s := by
  obtain ⟨o, ho, _, hd⟩ := R.ob
  have room := R.room
  obtain ⟨z, z1, z2, z3⟩ := R.tab.first (by rw [List.length_map]; omega) (thash P w k)
  have zb : z < 100000 := by
    have : 10 * SetTable.turns t.mask ≤ 1420 := by
      unfold SetTable.turns
      rcases R.tab.mok with e | e | e <;> omega
    omega
  unfold setFind
  rw [show (100000 : Nat) = 99999 + 1 from rfl]
  unfold setFindIn
  refine wpAny_bind (wpAny_setState_of ho hd R.fits ?_)
  dsimp only
  refine wp_if_neg (by simp [byScan, Value.scannable]) ?_
  try refine wpAny_bind (wpAny_pure ?_)
  unfold setSearch
  refine wpAny_bind (seek R hx hu z1 z2 z3 (fun i m => ?_) (fun m => ?_) 100000 0 none rfl (Nat.zero_le _) (by omega) fun i p hp hk => ?_)
  · dsimp only
    exact wpAny_pure (h (some i) (by rw [decide_eq_true m] <;> rfl))
  · dsimp only
    exact wpAny_pure (h none (by rw [decide_eq_false m] <;> rfl))
  · have y1 : (L.map fun p => thash P w p.2)[i]? = some (thash P w k) := by rw [List.getElem?_map, hp, ← hk] <;> rfl
    have y2 : i < t.place.toList.length := by
      have e1 := (List.getElem?_eq_some_iff.mp hp).1
      have e2 := R.tab.sz
      rw [List.length_map] at e2
      rw [Array.length_toList]
      omega
    have y3 := List.getElem?_eq_getElem y2
    obtain ⟨c, hc, e⟩ := R.tab.before z2 y1 y3
    exact ⟨c, Nat.zero_le _, hc, by rw [y3, e]⟩
/-- x in a -/
theorem in_tups (R : SetTR P w s.heap a L es ep t) {x : Addr} {k : List Int} (hx : IsT P w s.heap k x) (hu : A.units + 8 < cLine) {Q : Value → Shared → Prop} (h : ∀ tk, Q (.bool (decide (k ∈ L.map (·.2)))) { s with toks := tk }) :
    wpAny (model P w) A (compareOp .In (.ref x) (.ref a)) Q E s := by
  obtain ⟨o, ho, hex, hd⟩ := R.ob
  have hT : s.TypeIs (.ref a) "set" := ⟨o, ho, hex.1⟩
  show wpAny _ _ (contains (.ref a) (.ref x) >>= fun b => pure (.bool b)) Q E s
  refine wpAny_bind ?_
  unfold contains
  try with_reducible refine wpAny_holding ?_
  refine wpAny_bind (wpAny_specialOf hT F.slot_set_contains.lookup ?_)
  show wpAny _ _ (if (some (Value.builtin "set.__contains__") == some Value.none) = true then _ else _) _ E s
  rw [if_neg (by rw [beq_builtin_none]; exact Bool.false_ne_true)]
  refine wpAny_bind (wpAny_callSpecialUnlessNone?_slot (name := Str.ofString "__contains__") hT F.slot_set_contains (wpAny_call_entry F.slot_set_contains hT entry_set_contains ?_ (F.args_set_contains_2 _ _)))
  unfold Builtin.«frozenset.__contains__» Builtin.Frozenset.oneOther
  simp only [List.isEmpty_nil, bind_assoc]
  unfold Builtin.Frozenset.addrOf Builtin.Frozenset.withSetAsKey setContains
  refine wpAny_bind (wpAny_pure ?_)
  try dsimp only
  refine wpAny_bind (wpAny_pure ?_)
  try dsimp only
  refine wpAny_bind (wpAny_tryCatch ?_)
  refine wpAny_holding ?_
  refine wpAny_bind (wpAny_pyHash_tuple ?_ hx ?_)
  · show A.units + 1 < cLine
    omega
  refine wpAny_bind ?_
  refine seek_all (s := { s with toks := s.toks + (k.length + 1) }) R hx ?_ fun r hr => ?_
  · show A.units + 1 < cLine
    omega
  refine wpAny_pure ?_
  show wpAny _ _ (ret (Value.bool r.isSome)) _ _ _
  rw [hr]
  exact wpAny_pure ⟨_, rfl, wpAny_truthy_bool (wpAny_pure (h _))⟩
/-- a.add(x) -/
theorem add_tups (R : SetTR P w s.heap a L es ep t) {x : Addr} {k : List Int} (hx : IsT P w s.heap k x) (hu : A.units + 8 < cLine) (few : L.length + 1 < 64) {Q : Value → Shared → Prop}
    (h : ∀ h' tk L' es' ep' t', Heap.SameBut a s.heap h' → SetTR P w h' a L' es' ep' t' → (k ∈ L.map (·.2) → L' = L) → (k ∉ L.map (·.2) → L'.Perm ((x, k) :: L)) → Q .none { s with heap := h', toks := tk }) :
    wpAny (model P w) A (call (.builtin "set.add") [.ref a, .ref x]) Q E s := by
  obtain ⟨o, ho, hex, hd⟩ := R.ob
  have hT : s.TypeIs (.ref a) "set" := ⟨o, ho, hex.1⟩
  refine wpAny_call_entry F.slot_set_add hT F.entry_set_add ?_ (F.args_set_add_2 _ _)
  unfold Builtin.«set.add» Builtin.Frozenset.oneOther
  simp only [List.isEmpty_nil, bind_assoc]
  unfold Builtin.Frozenset.addrOf setAdd
  refine wpAny_bind (wpAny_pure ?_)
  try dsimp only
  refine wpAny_bind (wpAny_pure ?_)
  try dsimp only
  refine wpAny_bind (wpAny_holding ?_)
  refine wpAny_bind (wpAny_pyHash_tuple ?_ hx ?_)
  · show A.units + 1 < cLine
    omega
  refine add_at (s := { s with toks := s.toks + (k.length + 1) }) R hx ?_ few fun b h' L' es' ep' t' sb R' i1 i2 => ?_
  · show A.units + 1 < cLine
    omega
  show wpAny _ _ (ret Value.none) _ _ _
  exact wpAny_pure ⟨_, rfl, h h' _ L' es' ep' t' sb R' i1 i2⟩
end

/-! ### rules -/
section
variable {X : Cx}
theorem setTO_full {pins : List (Addr × Obj)} {σ : L2.St} {H : Hp} {s : Shared} {a : Addr} {L : List (Addr × List Int)} (I : Inv X pins σ H s) (ha : H a = some (SetTO X.prog X.w a L)) (hl : ∀ p ∈ L, SqT X.K H p.1 (p.2.map V.int)) :
    ∃ es ep t, SetTR X.prog X.w s.heap a L es ep t := ((show ObjOk X.prog X.w H s.heap a (SetTO X.prog X.w a L) from I.hok a _ ha).1).full fun p hp => I.isT (hl p hp)
/-- set() -/
def rSetT0 (P : Program) (w : World) : List V → Hp → VK → Prop := fun xs H Q => xs = [] ∧ ∀ p, H p = none → Q (.ref p) (upd H p (SetTO P w p []))
theorem cr_setT0 : CallR X (.type "set") (rSetT0 X.prog X.w) := by
  intro pins s σ H xs us Q I r h
  obtain ⟨rfl, q⟩ := h
  cases r
  refine setR_new fun _ => ?_
  refine ⟨.ref _, upd H s.heap.objs.size (SetTO X.prog X.w s.heap.objs.size []), I.laid (t' := s.toks) (fun b u e => Heap.get?_push_of_some _ e) (Nat.le_refl _) (setTO_new ?_), rfl, q _ (I.hok.fresh (Nat.le_refl _))⟩
  exact (setTR_fresh (w := X.w) (P := X.prog) (Heap.get?_push_size _ rfl)).t0
/-- x in a, x not in a -/
def rInT (K : PySem.W.Frag) (P : Program) (w : World) (neg : Bool) : R2 := fun x y H Q => ∃ (p a : Addr) (k : List Int) (L : List (Addr × List Int)), x = .ref p ∧ y = .ref a ∧ SqT K H p (k.map V.int) ∧ H a = some (SetTO P w a L) ∧ (∀ q ∈ L, SqT K H q.1 (q.2.map V.int)) ∧
  Q (.bl (if neg then !decide (k ∈ L.map (·.2)) else decide (k ∈ L.map (·.2)))) H
theorem op_inT (hu : X.A.units + 64 < cLine) : OpR X (compareOp .In) (rInT X.K X.prog X.w false) := by
  rintro pins s σ H x y v u Q I rx ry ⟨p, a, k, L, rfl, rfl, hp, ha, hl, q⟩
  obtain rfl := (show v = Value.ref p from rx)
  obtain rfl := (show u = Value.ref a from ry)
  obtain ⟨es, ep, t, R⟩ := setTO_full I ha hl
  exact in_tups R (I.isT hp) (by omega) fun tk => ⟨.bl _, H, I.tok tk, rfl, q⟩
/-- a.add(x) -/
def tAddT (K : PySem.W.Frag) (P : Program) (w : World) (to te : TE) : TE := fun σ H Q => to σ H fun x H1 => (∃ a L, x = V.ref a ∧ H1 a = some (SetTO P w a L) ∧ ∀ q ∈ L, SqT K H1 q.1 (q.2.map V.int)) ∧ tCons te tNil σ H1 fun ys H2 => ∃ (a p : Addr) (k : List Int) (L : List (Addr × List Int)),
  x = V.ref a ∧ ys = [V.ref p] ∧ H2 a = some (SetTO P w a L) ∧ (∀ q ∈ L, SqT K H2 q.1 (q.2.map V.int)) ∧ SqT K H2 p (k.map V.int) ∧ L.length + 1 < 64 ∧
  ∀ L', (k ∈ L.map (·.2) → L' = L) → (k ∉ L.map (·.2) → L'.Perm ((p, k) :: L)) → Q .non (upd H2 a (SetTO P w a L'))
theorem pe_addT {o e : Expr} {to te : TE} {apos cpos : Pos} (hu : X.A.units + 64 < cLine) (ho : PE X o to) (he : PE X e te)
    (hbase : attributeBase o "add" X.env (eval o X.env) = eval o X.env := by rfl)
    (hfew : ((backTo cpos (starEach [e] X.env)).all (fun x => !x.1) && (backToKw cpos (keywordEach [] X.env)).all (fun x => x.1.isSome)
      && decide ([e].length + ([] : List Keyword).length + (if ([] : List Keyword).isEmpty then 0 else 1) < 30)) = true := by rfl)
    (hline : (apos.endLine == cpos.line) = true := by rfl) (hs : starEach [e] X.env = (false, eval e X.env) :: starEach [] X.env := by rfl) (hpl : (backTo cpos (starEach [] X.env)).any (·.1) = false := by rfl) :
    PE X (.Call (.Attribute o "add" apos) [e] [] cpos) (tAddT X.K X.prog X.w to te) := by
  refine ⟨fun pins s σ H Q I h => ?_⟩
  refine wpAny_Call_method_late hbase hfew hline rfl (thn (ho.run pins s σ H _ I h) fun v s1 ⟨x, H1, I1, r1, ⟨a0, L0, e0, ha0, hl0⟩, q1⟩ => ?_)
  subst e0
  obtain rfl := (show v = Value.ref a0 from r1)
  obtain ⟨es, ep, t, R0⟩ := setTO_full I1 ha0 hl0
  obtain ⟨o0, ho0, hex0, _⟩ := R0.ob
  refine ⟨"set", "set.add", F.plainAttrs_set, F.slot_set_add, F.type_set_add, ⟨o0, ho0, hex0.1⟩, ?_, ?_⟩
  · intro b eb
    cases eb
    exact ⟨o0, ho0, hex0.2.1⟩
  · have hA := (pa_cons he pa_nil hs).run cpos pins s1 σ H1 _ I1 q1
    rw [hs] at hA ⊢
    refine Calls.callWith_builtin (by show (false || (backTo cpos (starEach [] X.env)).any (·.1)) = false; rw [hpl] <;> rfl) (Calls.evalArgs_plain ?_)
    refine thn hA fun us s2 ⟨ys, H2, I2, r2, a, p, k, L, ea, ep2, ha, hl, hp, few, q⟩ => ?_
    subst ep2
    cases ea
    rw [Vals.ref1 r2]
    obtain ⟨es, ep, t, R⟩ := setTO_full I2 ha hl
    refine add_tups R (I2.isT hp) (by omega) few fun h' tk L' es' ep' t' sb R' i1 i2 => ?_
    have old : ∃ u, h'.get? a0 = some u := by
      obtain ⟨o1, g1, _⟩ := R'.ob
      exact ⟨o1, g1⟩
    exact ⟨.non, _, I2.write (e := a0) (t' := tk) (by rw [ha]; trivial) (.inl rfl) (fun b u hb z => (sb.2 b hb).trans z) old (setTO_new R'.t0), rfl, q L' i1 i2⟩
end
end Xs

namespace Xs
open PySem PySem.Spec PyProof.Rows L2 Xa Xb Xc
/-! ### sorted(xs), xs a list of tuples of ints of one length -/
def encT (p : Addr × List Int) : PyData := .tuple (p.2.map .int)
/-- the list in order -/
def srt (ks : List (Addr × List Int)) : List (Addr × List Int) := ks.mergeSort (PySem.W.dataLe false encT)
theorem srt_perm (ks : List (Addr × List Int)) : (srt ks).Perm ks := List.mergeSort_perm _ _
/-- sorted(xs) -/
def rSortL (K : PySem.W.Frag) : List V → Hp → VK → Prop := fun vs H Q => ∃ (a : Addr) (ks : List (Addr × List Int)) (d : Nat), vs = [V.ref a] ∧ SqL K H a (ks.map fun p => V.ref p.1) ∧ (∀ p ∈ ks, SqT K H p.1 (p.2.map V.int)) ∧ (∀ p ∈ ks, p.2.length = d + 1) ∧
  ∀ p, H p = none → Q (.ref p) (upd H p (.lst ((srt ks).map fun q => V.ref q.1)))
theorem alike_ints : ∀ (xs ys : List Int), PySem.W.alikeAll (xs.map .int) (ys.map .int) = true
  | [], [] => by simp [PySem.W.alikeAll]
  | [], _ :: _ => by simp [PySem.W.alikeAll]
  | _ :: _, [] => by simp [PySem.W.alikeAll]
  | x :: xs, y :: ys => by
    have := alike_ints xs ys
    simp [PySem.W.alikeAll, PySem.W.alike, this]
theorem depth_ints : ∀ xs : List Int, PyData.depthAll (xs.map .int) ≤ 1
  | [] => by simp [PyData.depthAll]
  | x :: xs => by
    have := depth_ints xs
    simp only [List.map_cons, PyData.depthAll, PyData.depth]
    omega
theorem each_refs {R : Value → (Addr × List Int) → Prop} : ∀ {ks : List (Addr × List Int)}, (∀ p ∈ ks, R (.ref p.1) p) → PySem.W.EachIs R (ks.map fun p => Value.ref p.1) ks
  | [], _ => .nil
  | p :: ks, h => .cons (h p List.mem_cons_self) (each_refs fun q hq => h q (List.mem_cons_of_mem _ hq))
theorem refs_each : ∀ {ks : List (Addr × List Int)} {vs : List Value}, PySem.W.EachIs (fun v (p : Addr × List Int) => v = .ref p.1) vs ks → Vals (ks.map fun p => V.ref p.1) vs
  | _, _, .nil => .nil
  | _, _, .cons e t => .cons e (refs_each t)
section
variable {X : Cx}
theorem isT_reads {P : Program} {w : World} {h : Heap} {b : Addr} {k : List Int} (x : IsT P w h k b) : ∃ as, Reads h (.ref b) (.tuple (k.map .int)) as := by
  obtain ⟨o, its, n, ho, hc, hd, hi⟩ := x
  have all : ∀ {k : List Int} {us : List Value}, IntsAre us k → ∃ as, ReadsAll h us (k.map .int) as := by
    intro k us r
    induction r with
    | nil => exact ⟨_, .nil⟩
    | cons n t _ ih =>
      obtain ⟨as, q⟩ := ih
      exact ⟨_, .cons (.int n t) q⟩
  obtain ⟨as, q⟩ := all (ints_of_items hi)
  exact ⟨as, .tuple ho hc hd q⟩
theorem cr_sortL (hc : X.calm = true) (hu : X.A.units + 64 < cLine) : CallR X (.builtin "sorted") (rSortL X.K) := by
  intro pins s σ H vs us Q I r h
  obtain ⟨a, ks, d, rfl, hl, ht, hd, q⟩ := h
  rw [Vals.ref1 r]
  obtain ⟨its, rv, pl, hz⟩ := I.list hl
  have e0 : its = ks.map fun p => Value.ref p.1 := refs_of_vals rv
  subst e0
  have hn : H (s.heap.objs.size + 1) = none := I.hok.fresh (Nat.le_succ _)
  rw [List.length_map] at hz
  refine PySem.W.sorted_data (bs := ks) (enc := encT) (R := fun v (p : Addr × List Int) => v = .ref p.1) pl.isList (each_refs fun p _ => rfl) (each_refs fun p hp => isT_reads (P := X.prog) (w := X.w) (I.isT (ht p hp))) ?_ (.inl fun e he => ?_) hz (fun p hp => ?_) fun out lo eo => ?_
  · intro e he e' he'
    obtain ⟨p, hp, rfl⟩ := List.mem_map.mp he
    obtain ⟨p', hp', rfl⟩ := List.mem_map.mp he'
    simp only [encT, PySem.W.alike, alike_ints]
  · obtain ⟨p, hp, rfl⟩ := List.mem_map.mp he
    have := hd p hp
    obtain ⟨b, l⟩ := p
    cases l with
    | nil => simp at this
    | cons x l => exact ⟨.int x, l.map .int, rfl⟩
  · have := depth_ints p.2
    show X.A.units + 2 + (PyData.tuple (p.2.map .int)).depth < cLine
    simp only [PyData.depth]
    omega
  · obtain ⟨c, hc2⟩ := PyProof.Rows.sortedAll_at s.heap (ks.map fun p => Value.ref p.1) out.toArray
    have hv := refs_each eo
    have hlen : ((srt ks).map fun q => V.ref q.1).length ≤ sizeLine := by rw [List.length_map, (srt_perm ks).length_eq]; exact hz
    refine ⟨.ref (s.heap.objs.size + 1), upd H (s.heap.objs.size + 1) (.lst ((srt ks).map fun q => V.ref q.1)), I.laid (a := s.heap.objs.size + 1) (o := .lst ((srt ks).map fun q => V.ref q.1)) (t' := s.toks) (fun b u e => PyProof.Rows.sortedAll_old e) (Nat.le_succ _) ⟨hlen, out, c, hv, hc2⟩, rfl, q _ hn⟩
end
end Xs
/-! Own ground, part P: defs that can be called by name; what kind a value is. -/
namespace Xp
open PySem PySem.Spec PyProof.Rows L2 Xa Xb Xc

/-! ### defs that can be called by their names -/
def Can (P : Program) (w : World) (K : PySem.W.Frag) (mg : Str → Option Value) (base : Heap) (C : CXT) (lev : Nat) (x : Str) (ps : List Str) (pr : Sp) : Prop :=
  ∃ (f : Addr) (fd : FuncData), FnOk P w K mg base C lev f fd ps pr ∧ mg x = some (.ref f) ∧ PySem.W.keepIn K (.ref f) = true ∧ Binds K fd ps []
def CanG (P : Program) (w : World) (K : PySem.W.Frag) (mg : Str → Option Value) (base : Heap) (lev : Nat) (x : Str) (ps : List Str) (pr : Sp) : Prop :=
  ∃ (f : Addr) (fd : FuncData), FnG P w K mg base lev f fd ps pr ∧ mg x = some (.ref f) ∧ PySem.W.keepIn K (.ref f) = true ∧ Binds K fd ps []
section
variable {X : Cx} {C : CXT} {lev : Nat} {x : Str} {ps : List Str} {pr : Sp} {E : XK} {p pos : Pos} {e : Expr} {es : List Expr} {t : TA}
theorem pe_can (c : Can X.prog X.w X.K X.mg X.base C lev x ps pr) (hr : Room lev X.A) (hx : Passes C X E) (ha : PA X (e :: es) t) (hg : Gl X x := by rfl) (hdb : (x == ("__debug__" : Str)) = false := by decide)
    (he : starEach (e :: es) X.env = (false, eval e X.env) :: starEach es X.env := by rfl) (hpl : (backTo pos (starEach es X.env)).any (·.1) = false := by rfl) : PE X (.Call (.Name x p) (e :: es) [] pos) (tCall pr [] E t) := by
  obtain ⟨f, fd, F, g, k, b⟩ := c
  exact pe_call F hr hg g k b .nil hx ha hdb he hpl
theorem pe_canG (c : CanG X.prog X.w X.K X.mg X.base lev x ps pr) (hr : Room lev X.A) (hn : NoRep X.A) (ha : PA X (e :: es) t) (hg : Gl X x := by rfl) (hdb : (x == ("__debug__" : Str)) = false := by decide)
    (he : starEach (e :: es) X.env = (false, eval e X.env) :: starEach es X.env := by rfl) (hpl : (backTo pos (starEach es X.env)).any (·.1) = false := by rfl) : PE X (.Call (.Name x p) (e :: es) [] pos) (tCall pr [] E0 t) := by
  obtain ⟨f, fd, F, g, k, b⟩ := c
  exact pe_callG F hr hn hg g k b ha hdb he hpl
theorem pe_canG0 (c : CanG X.prog X.w X.K X.mg X.base lev x ps pr) (hr : Room lev X.A) (hn : NoRep X.A) (hg : Gl X x := by rfl) (hdb : (x == ("__debug__" : Str)) = false := by decide) : PE X (.Call (.Name x p) [] [] pos) (tCall pr [] E0 tNil) := by
  obtain ⟨f, fd, F, g, k, b⟩ := c
  exact pe_callG0 F hr hn hg g k b hdb
theorem pa1 (he : PE X e te) (hs : starEach (e :: []) X.env = (false, eval e X.env) :: starEach [] X.env := by rfl) : PA X [e] (tCons te tNil) := pa_cons he pa_nil hs
/-- a built-in function by its name -/
theorem pe_bi {id : String} {r : List V → Hp → VK → Prop} (hc : CallR X (.builtin id) r) (hm : X.mg x = none) (ha : PA X (e :: es) t) (hg : Gl X x := by rfl) (hv : bootBuiltins x = some (.builtin id) := by decide +kernel) (hn : x ≠ "__name__" := by decide)
    (hdb : (x == ("__debug__" : Str)) = false := by decide) (he : starEach (e :: es) X.env = (false, eval e X.env) :: starEach es X.env := by rfl) (hpl : (backTo pos (starEach es X.env)).any (·.1) = false := by rfl) : PE X (.Call (.Name x p) (e :: es) [] pos) (tCB r t) :=
  pe_callB hc hg hm hv ha hn hdb he hpl
/-- a built-in type, called -/
theorem pe_ty {T : String} {r : List V → Hp → VK → Prop} (hc : CallR X (.type T) r) (hm : X.mg x = none) (ha : PA X (e :: es) t) (hg : Gl X x := by rfl) (hv : bootBuiltins x = some (.type T) := by decide +kernel) (hn : x ≠ "__name__" := by decide)
    (hdb : (x == ("__debug__" : Str)) = false := by decide) (he : starEach (e :: es) X.env = (false, eval e X.env) :: starEach es X.env := by rfl) (hpl : (backTo pos (starEach es X.env)).any (·.1) = false := by rfl) : PE X (.Call (.Name x p) (e :: es) [] pos) (tCB r t) :=
  pe_callTy hc hg hm hv ha hn hdb he hpl
/-- a built-in type as a value -/
theorem pe_tyv (T : String) (hm : X.mg x = none) (hg : Gl X x := by rfl) (hv : bootBuiltins x = some (.type T) := by decide +kernel) (hn : x ≠ "__name__" := by decide) (hdb : (x == ("__debug__" : Str)) = false := by decide) : PE X (.Name x p) (tC (.ty T)) :=
  pe_bltn hg hm hv rfl hn hdb
end
section
variable {K : PySem.W.Frag} {x qual : Str} {params : Arguments} {body : List Stmt} {scope : Scope} {f : Addr} {fd : FuncData} {P : Program} {w : World} {mg : Str → Option Value} {base : Heap} {C : CXT} {lev : Nat} {ps : List Str} {pr : Sp}
theorem FnOk.can (F : FnOk P w K mg base C lev f fd ps pr) (D : FunD K x qual params body scope [] [] f fd) (g : mg x = some (.ref f))
    (b : ∀ (kV doc pm : Value) (an : Option Addr) (cdv ct : Value) (us : List Value), us.length = ps.length → bindArgs (PySem.W.fnOf x qual params body scope .none kV doc pm an cdv ct) ⟨us, []⟩ = pure (ps.zip us)) : Can P w K mg base C lev x ps pr := ⟨f, fd, F, g, D.kp, D.bindsN b⟩
theorem FnG.can (F : FnG P w K mg base lev f fd ps pr) (D : FunD K x qual params body scope [] [] f fd) (g : mg x = some (.ref f))
    (b : ∀ (kV doc pm : Value) (an : Option Addr) (cdv ct : Value) (us : List Value), us.length = ps.length → bindArgs (PySem.W.fnOf x qual params body scope .none kV doc pm an cdv ct) ⟨us, []⟩ = pure (ps.zip us)) : CanG P w K mg base lev x ps pr := ⟨f, fd, F, g, D.kp, D.bindsN b⟩
end

/-! ### what kind a value is -/
/-- v's built-in type -/
def Kd (K : PySem.W.Frag) (H : Hp) (v : V) (T : String) : Prop := TyX K H v (.type T)
/-- whether v is a whole number -/
def Whl (K : PySem.W.Frag) (H : Hp) (v : V) (b : Bool) : Prop := ∃ (T : String) (b1 b2 : Bool), Kd K H v T ∧ kitB T "int" = some b1 ∧ kitB T "bool" = some b2 ∧ b = (b1 && !b2)
section
variable {K : PySem.W.Frag} {H : Hp}
theorem whl_int (i : Int) : Whl K H (.int i) true := ⟨"int", true, false, .base (.int i), by decide +kernel, by decide +kernel, rfl⟩
theorem whl_non : Whl K H .non false := ⟨"NoneType", false, false, .base .non, by decide +kernel, by decide +kernel, rfl⟩
theorem whl_bl (b : Bool) : Whl K H (.bl b) false := ⟨"bool", true, true, .base (.bl b), by decide +kernel, by decide +kernel, rfl⟩
theorem whl_str (z : Str) : Whl K H (.str z) false := ⟨"str", false, false, .base (.str z), by decide +kernel, by decide +kernel, rfl⟩
theorem whl_lst {a : Addr} {xs : List V} (e : H a = some (.lst xs)) : Whl K H (.ref a) false := ⟨"list", false, false, .base (.lst e), by decide +kernel, by decide +kernel, rfl⟩
theorem whl_tup {a : Addr} {xs : List V} (e : H a = some (.tup xs)) : Whl K H (.ref a) false := ⟨"tuple", false, false, .base (.tup e), by decide +kernel, by decide +kernel, rfl⟩
theorem whl_dic {a : Addr} {kvs : List (Key × V)} (e : H a = some (.dK kvs)) : Whl K H (.ref a) false := ⟨"dict", false, false, .base (.dK e), by decide +kernel, by decide +kernel, rfl⟩
end
/-- v as a number, if it is one -/
inductive Num (K : PySem.W.Frag) (H : Hp) : V → Option Int → Prop
  | is (i : Int) : Num K H (.int i) (some i)
  | no {v : V} (h : Whl K H v false) : Num K H v none
theorem Num.whl {K : PySem.W.Frag} {H : Hp} {v : V} {o : Option Int} : Num K H v o → Whl K H v o.isSome
  | .is i => whl_int i
  | .no h => h
def inR (o : Option Int) (lo hi : Int) : Bool := match o with
  | some i => decide (lo ≤ i) && decide (i ≤ hi)
  | none => false
/-- v is of a kind, T2 is asked -/
def IsK (K : PySem.W.Frag) (H : Hp) (v : V) (T2 : String) (b : Bool) : Prop := ∃ T, Kd K H v T ∧ kitB T T2 = some b
section
variable {K : PySem.W.Frag} {H : Hp}
theorem isk_non (T : String) {b : Bool} (h : kitB "NoneType" T = some b) : IsK K H .non T b := ⟨_, .base .non, h⟩
theorem isk_bl (x : Bool) (T : String) {b : Bool} (h : kitB "bool" T = some b) : IsK K H (.bl x) T b := ⟨_, .base (.bl x), h⟩
theorem isk_int (i : Int) (T : String) {b : Bool} (h : kitB "int" T = some b) : IsK K H (.int i) T b := ⟨_, .base (.int i), h⟩
theorem isk_str (z : Str) (T : String) {b : Bool} (h : kitB "str" T = some b) : IsK K H (.str z) T b := ⟨_, .base (.str z), h⟩
theorem isk_lst {a : Addr} {xs : List V} (e : H a = some (.lst xs)) (T : String) {b : Bool} (h : kitB "list" T = some b) : IsK K H (.ref a) T b := ⟨_, .base (.lst e), h⟩
theorem isk_tup {a : Addr} {xs : List V} (e : H a = some (.tup xs)) (T : String) {b : Bool} (h : kitB "tuple" T = some b) : IsK K H (.ref a) T b := ⟨_, .base (.tup e), h⟩
theorem isk_dic {a : Addr} {kvs : List (Key × V)} (e : H a = some (.dK kvs)) (T : String) {b : Bool} (h : kitB "dict" T = some b) : IsK K H (.ref a) T b := ⟨_, .base (.dK e), h⟩
end
/-- isinstance(v, T), v of a built-in kind -/
def rKd (K : PySem.W.Frag) : List V → Hp → VK → Prop := fun xs H Q => ∃ (v : V) (T : String) (b : Bool), xs = [v, .ty T] ∧ IsK K H v T b ∧ Q (.bl b) H
theorem call_kd {X : Cx} : CallR X (.builtin "isinstance") (rKd X.K) := by
  intro pins s σ H xs us Q I r h
  obtain ⟨v, T, b, rfl, ⟨T1, k, e⟩, q⟩ := h
  exact call_isi pins s σ H [v, .ty T] us Q I r ⟨v, .ty T, .type T1, .type T, b, rfl, .ty T, k, kit_ty e, q⟩
end Xp

namespace Xp
open PySem PySem.Spec PyProof.Rows L2 Xa Xb Xc
/-! ### FARTHEST[places]: a written dict of two ints -/
def farB (K : PySem.W.Frag) (F : Addr) : Bool := match K.lookup F with
  | some ⟨.type "dict", none, .dict ⟨[⟨h1, .int a _, .int b _⟩, ⟨h2, .int c _, .int d _⟩]⟩ _, ⟨[]⟩⟩ => decide (h1 = hashInt 1) && (decide (h2 = hashInt 2) && (decide (a = 1) && (decide (b = 2) && (decide (c = 2) && decide (d = 1)))))
  | _ => false
def rFar (K : PySem.W.Frag) : R2 := fun x y H Q => ∃ F, x = .ref F ∧ farB K F = true ∧ ((y = .int 1 ∧ Q (.int 2) H) ∨ (y = .int 2 ∧ Q (.int 1) H))
theorem far_ok {K : PySem.W.Frag} {F : Addr} (h : farB K F = true) : ∃ n t1 t2 t3 t4, K.lookup F = some ⟨.type "dict", none, .dict #[⟨hashInt 1, .int 1 t1, .int 2 t2⟩, ⟨hashInt 2, .int 2 t3, .int 1 t4⟩] n, #[]⟩ := by
  unfold farB at h
  split at h
  · rename_i e
    obtain ⟨e1, h⟩ := He.ba h
    obtain ⟨e2, h⟩ := He.ba h
    obtain ⟨e3, h⟩ := He.ba h
    obtain ⟨e4, h⟩ := He.ba h
    obtain ⟨e5, e6⟩ := He.ba h
    have e1 := of_decide_eq_true e1
    have e2 := of_decide_eq_true e2
    have e3 := of_decide_eq_true e3
    have e4 := of_decide_eq_true e4
    have e5 := of_decide_eq_true e5
    have e6 := of_decide_eq_true e6
    subst e1 e2 e3 e4 e5 e6
    exact ⟨_, _, _, _, _, e⟩
  · cases h
theorem ix_far {X : Cx} : IxR X (rFar X.K) := by
  intro value slice pins s σ H x y v u Q I rx ry h hs
  obtain ⟨F, rfl, hf, q⟩ := h
  obtain rfl : v = Value.ref F := rx
  obtain ⟨n, t1, t2, t3, t4, lk⟩ := far_ok hf
  have ho := I.kIn _ _ lk
  have hm : s.heap.MapOf (PySem.intKind X.prog X.w) F (findBy (PySem.intKind X.prog X.w).is #[⟨hashInt 1, .int 1 t1, .int 2 t2⟩, ⟨hashInt 2, .int 2 t3, .int 1 t4⟩]) := by
    refine ⟨_, _, _, ho, ⟨rfl, rfl, rfl⟩, rfl, fun e he => ?_, fun k => rfl⟩
    have he : e = ⟨hashInt 1, .int 1 t1, .int 2 t2⟩ ∨ e = ⟨hashInt 2, .int 2 t3, .int 1 t4⟩ := by simpa using he
    rcases he with rfl | rfl
    · exact ⟨1, PySem.intKind_is _ _ _ _, rfl⟩
    · exact ⟨2, PySem.intKind_is _ _ _ _, rfl⟩
  have is_ : ∀ (a b : Int) (t : Tok), (PySem.intKind X.prog X.w).is a (.int b t) = decide (a = b) := fun a b t => by
    show Value.isInt a (.int b t) = _
    unfold Value.isInt
    by_cases e : a = b
    · subst e
      simp
    · rw [decide_eq_false e]
      first | exact beq_false_of_ne (Ne.symm e) | exact beq_false_of_ne e
  rcases q with ⟨rfl, q⟩ | ⟨rfl, q⟩
  · obtain ⟨t, rfl⟩ := ry
    exact tail_any hm.typeIs slot_dict_getitem.lookup (wpAny_getItem_of (PySem.intKind_is X.prog X.w 1 t) hm (v := .int 2 t2) (by simp [findBy, is_]) ⟨.int 2, H, I.tok _, ⟨_, rfl⟩, q⟩) hs
  · obtain ⟨t, rfl⟩ := ry
    exact tail_any hm.typeIs slot_dict_getitem.lookup (wpAny_getItem_of (PySem.intKind_is X.prog X.w 2 t) hm (v := .int 1 t4) (by simp [findBy, is_]) ⟨.int 1, H, I.tok _, ⟨_, rfl⟩, q⟩) hs
end Xp
/-! Own ground, part M: methods called with keywords; what leaves them may be taken by a try. -/
namespace Xm
open PySem PySem.Spec PyProof.Rows L2 Xa Xb Xc Xp
/-- keywords for keyword-only parameters, no defaults ahead of these -/
theorem kb0 {K : PySem.W.Frag} {x qual : Str} {params : Arguments} {body : List Stmt} {scope : Scope} {kws : List (Str × V)} {f : Addr} {fd : FuncData} {ps : List Str} (F : FunD K x qual params body scope [] kws f fd) (n : Nat) (ks : List Str)
    (h : ∀ (kV doc pm : Value) (an : Option Addr) (cdv ct : Value) (us ws : List Value), us.length = n → ws.length = ks.length → bindArgs (PySem.W.fnOf x qual params body scope .none kV doc pm an cdv ct) ⟨us, ks.zip ws⟩ = pure (ps.zip (us ++ ws))) :
    KBn K fd ps n ks (fun us ws => us ++ ws) (fun vs zs => vs ++ zs) := by
  obtain ⟨oc, od, dV, kV, doc, pm, an, cdv, ct, osl, rfl, lk, hcd, hD, hK⟩ := F.ex
  rcases hD with ⟨_, rfl⟩ | ⟨e, _⟩
  · exact ⟨fun s us ws _ l1 l2 => .of_eq (h kV doc pm an cdv ct us ws l1 l2), fun r1 r2 => r1.append r2⟩
  · exact absurd rfl e
/-- nothing leaves -/
theorem passAt0 {X : Cx} (σ : L2.St) : PassesAt (L2.CX X.prog X.w) X σ E0 := fun _ _ _ _ _ _ ⟨_, _, _, _, _, _, _, _, _, _, _, _, q⟩ => False.elim q
/-- o.m(e, .., k = v, ..) -/
def tMethN (C : Addr) (m : Str) (n j : Nat) (sp : Sp) (gV : List V → List V → List V) (E : L2.St → XK) (ta : TE) (t tk : TA) : TE := fun σ H Q => ta σ H fun x H1 => ∃ a dx fs, x = .ref a ∧ H1 a = some (.ins C dx fs) ∧ fs.lookup m = none ∧
  t σ H1 fun vs H2 => tk σ H2 fun zs H3 => (x :: vs).length = n ∧ zs.length = j ∧ sp (gV (x :: vs) zs) H3 Q (E σ)
/-- o.m(e, ..) -/
def tMethD (C : Addr) (m : Str) (sp : Sp) (dvs : List V) (E : L2.St → XK) (ta : TE) (t : TA) : TE := fun σ H Q => ta σ H fun x H1 => ∃ a dx fs, x = .ref a ∧ H1 a = some (.ins C dx fs) ∧ fs.lookup m = none ∧ t σ H1 fun vs H2 => sp (x :: (vs ++ dvs)) H2 Q (E σ)
section
variable {X : Cx} {CX : CXT} {k n : Nat} {f C : Addr} {fd : FuncData} {ps ks : List Str} {sp : Sp} {E : L2.St → XK} {m : Str} {p pos apos : Pos} {o e : Expr} {es : List Expr} {kws : List Keyword} {ta : TE} {t tk : TA} {g : List Value → List Value → List Value} {gV : List V → List V → List V} {ds : List Value} {dvs : List V}
theorem fin_call {pins : List (Addr × Obj)} {σ : L2.St} {H : Hp} {s : Shared} {Q : VK} {ar : Args} {us : List Value} {vs : List V} (F : FnOk X.prog X.w X.K X.mg X.base CX k f fd ps sp) (hr : Room k X.A) (hx : PassesAt CX X σ (E σ)) (I : Inv X pins σ H s)
    (hb : BindsTo s fd ar (ps.zip us)) (r : Vals vs us) (h : sp vs H Q (E σ)) : wpAny (model X.prog X.w) X.A (call (.ref f) ar.pos ar.kw) (EP X pins σ Q) X.xe s := by
  refine wpAny_call (codeAny_mono (F.run X.A X.stack s H ar us vs Q (E σ) hr I.env0 hb r h) fun r s' hq => ?_)
  cases r with
  | error e => exact hx pins H s e s' I hq
  | ok fl =>
    cases fl with
    | ret u => exact I.after hq
    | next => exact False.elim hq
    | brk => exact False.elim hq
    | cont => exact False.elim hq
theorem pe_methN {pl : Sem Bool} (he : PE X o ta) (c : Cls X.K C) (hm : Meth X.K C m f) (F : FnOk X.prog X.w X.K X.mg X.base CX k f fd ps sp) (hr : Room k X.A) (hb : KBn X.K fd ps n ks g gV) (hx : ∀ σ, PassesAt CX X σ (E σ)) (ha : PA X (e :: es) t) (hkw : PK X kws tk)
    (hall : (backToKw pos (keywordEach kws X.env)).all (·.1.isSome) = true := by rfl) (hks : (backToKw pos (keywordEach kws X.env)).filterMap (·.1) = ks := by rfl)
    (hst : starEach (e :: es) X.env = (false, eval e X.env) :: starEach es X.env := by rfl) (hpl : ((backTo pos (starEach (e :: es) X.env)).any (·.1) || (backToKw pos (keywordEach kws X.env)).any (·.1.isNone)) = false := by rfl)
    (ht : eval (.Call (.Attribute o m apos) (e :: es) kws pos) X.env = (do
      let ov ← eval o X.env
      standAt apos.atName
      let (f, first) ← holding [ov] (getMethod ov m pl)
      callWith pos f first (backTo pos (starEach (e :: es) X.env)) (backToKw pos (keywordEach kws X.env))) := by rfl) :
    PE X (.Call (.Attribute o m apos) (e :: es) kws pos) (tMethN C m n ks.length sp gV E ta t tk) := by
  refine ⟨fun pins s σ H Q I h => ?_⟩
  refine PySem.W.methodCall_KW (pl := pl) (thn (he.run pins s σ H _ I h) fun u s1 ⟨x, H1, I1, rx, a, dx, fs, ex, ea, l, q⟩ => ?_) ht
  subst ex
  obtain rfl : u = Value.ref a := rx
  refine getmeth_ok I1 ea c hm l ?_
  refine PySem.W.callWith_KW (first := [.ref a]) (h₀ := X.base) I.ok.mod.kin hm.kp hall (thn (ha.run pos pins s1 σ H1 _ I1 q) fun us s2 ⟨vs, H2, I2, r, q2⟩ => ?_) hpl hst
  refine thn (hkw.run pos pins s2 σ H2 _ I2 q2) fun ws s3 ⟨zs, H3, I3, rz, l1, l2, q3⟩ => ⟨I3.kIn, ?_⟩
  rw [hks]
  have r1 : Vals (V.ref a :: vs) (Value.ref a :: us) := .cons rfl r
  exact fin_call (ar := ⟨.ref a :: us, ks.zip ws⟩) F hr (hx σ) I3 (hb.to s3 (.ref a :: us) ws I3.kIn (r1.length.symm.trans l1) (rz.length.symm.trans l2)) (hb.rel r1 rz) q3
theorem pe_methD {pl : Sem Bool} (he : PE X o ta) (c : Cls X.K C) (hm : Meth X.K C m f) (F : FnOk X.prog X.w X.K X.mg X.base CX k f fd ps sp) (hr : Room k X.A) (hb : Binds X.K fd ps ds) (hd : Vals dvs ds) (hx : ∀ σ, PassesAt CX X σ (E σ)) (ha : PA X (e :: es) t)
    (hst : starEach (e :: es) X.env = (false, eval e X.env) :: starEach es X.env := by rfl) (hpl : (backTo pos (starEach es X.env)).any (·.1) = false := by rfl)
    (ht : eval (.Call (.Attribute o m apos) (e :: es) [] pos) X.env = (do
      let ov ← eval o X.env
      standAt apos.atName
      let (f, first) ← holding [ov] (getMethod ov m pl)
      callWith pos f first (backTo pos (starEach (e :: es) X.env)) (backToKw pos (keywordEach [] X.env))) := by rfl) :
    PE X (.Call (.Attribute o m apos) (e :: es) [] pos) (tMethD C m sp dvs E ta t) := by
  refine ⟨fun pins s σ H Q I h => ?_⟩
  refine PySem.W.methodCall_KW (pl := pl) (thn (he.run pins s σ H _ I h) fun u s1 ⟨x, H1, I1, rx, a, dx, fs, ex, ea, l, q⟩ => ?_) ht
  subst ex
  obtain rfl : u = Value.ref a := rx
  refine getmeth_ok I1 ea c hm l ?_
  refine PySem.W.callWith_K (first := [.ref a]) (h₀ := X.base) I.ok.mod.kin hm.kp (thn (ha.run pos pins s1 σ H1 _ I1 q) fun us s2 ⟨vs, H2, I2, r, q2⟩ => ⟨I2.kIn, ?_⟩) hst hpl
  have r2 : Vals (V.ref a :: (vs ++ dvs)) (Value.ref a :: (us ++ ds)) := .cons rfl (r.append hd)
  have hl : (Value.ref a :: (us ++ ds)).length = ps.length := by rw [← r2.length]; exact F.len _ _ _ _ q2
  exact fin_call (ar := ⟨.ref a :: us, []⟩) F hr (hx σ) I2 (hb s2 (.ref a :: us) I2.kIn hl) r2 q2
end
end Xm
/-! Own ground, part R: what can be told by repr; kinds, under growth. -/
namespace Xr
open PySem PySem.Spec PyProof.Rows L2 Xa Xb Xc Xp
section
variable {K : PySem.W.Frag} {H H' : Hp}
theorem sqt_same (e : Same H H') {a : Addr} {xs : List V} (h : SqT K H a xs) : SqT K H' a xs := by
  rcases h with (h | ⟨o, h⟩) | h
  · exact .inl (.inl (e _ _ h))
  · exact .inl (.inr ⟨o, e _ _ h⟩)
  · exact .inr h
mutual
theorem dq_same (e : Same H H') : ∀ {v : V} {d : PyData} {ls : List Addr}, Dq K H v d ls → Dq K H' v d ls
  | _, _, _, .non => .non
  | _, _, _, .bl b => .bl b
  | _, _, _, .int i => .int i
  | _, _, _, .str z => .str z
  | _, _, _, .lst h t => .lst (e.seq h) (dqs_same e t)
  | _, _, _, .tup h t => .tup (sqt_same e h) (dqs_same e t)
  | _, _, _, .dic h t1 t2 => .dic (e _ _ h) (dqs_same e t1) (dqs_same e t2)
theorem dqs_same (e : Same H H') : ∀ {v : List V} {d : List PyData} {ls : List Addr}, Dqs K H v d ls → Dqs K H' v d ls
  | _, _, _, .nil => .nil
  | _, _, _, .cons h t => .cons (dq_same e h) (dqs_same e t)
end
theorem ty_same (e : Same H H') {v : V} {t : Value} (h : TyX K H v t) : TyX K H' v t := by
  cases h with
  | base h =>
    cases h with
    | non => exact .base .non
    | bl x => exact .base (.bl x)
    | int x => exact .base (.int x)
    | str x => exact .base (.str x)
    | flt x => exact .base (.flt x)
    | lst h => exact .base (.lst (e _ _ h))
    | frz h => exact .base (.frz (e _ _ h))
    | tup h => exact .base (.tup (e _ _ h))
    | dK h => exact .base (.dK (e _ _ h))
    | dT h => exact .base (.dT (e _ _ h))
    | ins h a b c d k => exact .base (.ins (e _ _ h) a b c d k)
  | byt b => exact .byt b
  | set h => exact .set (e _ _ h)
  | kList h c => exact .kList h c
  | kTuple h c => exact .kTuple h c
  | kDict h c => exact .kDict h c
  | fTuple h => exact .fTuple (e _ _ h)
  | fDict h => exact .fDict (e _ _ h)
theorem isk_same (e : Same H H') {v : V} {T : String} {b : Bool} (h : IsK K H v T b) : IsK K H' v T b :=
  let ⟨t, k, q⟩ := h
  ⟨t, ty_same e k, q⟩
end
/-- v is told as txt -/
def Rep (K : PySem.W.Frag) (H : Hp) (v : V) (txt : Str) : Prop := ∃ (d : PyData) (ls : List Addr), Dq K H v d ls ∧ (d.hasDict = true → sysModules ∉ ls) ∧ d.showable = true ∧ d.depth ≤ 60 ∧ d.shown.length ≤ sizeLine ∧ PyData.strOk d.shown = true ∧ txt = d.shown
theorem rep_same {K : PySem.W.Frag} {H H' : Hp} (e : Same H H') {v : V} {t : Str} : Rep K H v t → Rep K H' v t := fun ⟨d, ls, h, r⟩ => ⟨d, ls, dq_same e h, r⟩
theorem Rep.ok {K : PySem.W.Frag} {H : Hp} {v : V} {t : Str} : Rep K H v t → PyData.strOk t = true := fun ⟨_, _, _, _, _, _, _, h, e⟩ => by rw [e] <;> exact h
/-- the reading of repr, by Rep -/
theorem rep_r {K : PySem.W.Frag} {H : Hp} {v : V} {t : Str} {Q : VK} (r : Rep K H v t) (q : Q (.str t) H) : rRepr K [v] H Q := by
  obtain ⟨d, ls, h, h1, h2, h3, h4, h5, rfl⟩ := r
  exact ⟨v, d, ls, rfl, h, h1, h2, h3, h4, q⟩
/-- v is told as txt by one who lengthens lists; behind that the heap is the last -/
inductive Res (K : PySem.W.Frag) (H : Hp) : V → Str → Hp → Prop
  | other {v : V} {t : Str} (k : IsK K H v "list" false) (r : Rep K H v t) : Res K H v t H
  | list {a : Addr} {xs : List V} {t : Str} (e : H a = some (.lst xs)) (z : xs.length < 900) (r : Rep K (upd H a (.lst (xs ++ [.str "more"]))) (.ref a) t) : Res K H (.ref a) t (upd H a (.lst (xs ++ [.str "more"])))
theorem Res.rep {K : PySem.W.Frag} {H H2 : Hp} {v : V} {t : Str} : Res K H v t H2 → Rep K H2 v t
  | .other _ r => r
  | .list _ _ r => r
end Xr
/-! Own ground, part L: written data, laid anew. -/
namespace Xl
open PySem PySem.Spec PyProof.Rows L2 Xa Xb Xc Xp Xr
mutual
inductive Lt (H : Hp) : V → PyData → List Addr → Prop
  | non : Lt H .non .none []
  | bl (b : Bool) : Lt H (.bl b) (.bool b) []
  | int (i : Int) : Lt H (.int i) (.int i) []
  | str (z : Str) : Lt H (.str z) (.str z) []
  | lst {a : Addr} {xs : List V} {ds : List PyData} {ls : List Addr} : H a = some (.lst xs) → Lts H xs ds ls → Lt H (.ref a) (.list ds) (a :: ls)
  | tup {a : Addr} {xs : List V} {ds : List PyData} {ls : List Addr} : H a = some (.tup xs) → Lts H xs ds ls → Lt H (.ref a) (.tuple ds) ls
  | dic {a : Addr} : H a = some (.dK []) → Lt H (.ref a) (.dict []) []
inductive Lts (H : Hp) : List V → List PyData → List Addr → Prop
  | nil : Lts H [] [] []
  | cons {v : V} {vs : List V} {d : PyData} {ds : List PyData} {l1 l2 : List Addr} : Lt H v d l1 → Lts H vs ds l2 → Lts H (v :: vs) (d :: ds) (l1 ++ l2)
end
section
variable {H H' : Hp} {K : PySem.W.Frag}
mutual
theorem lt_dq : ∀ {v : V} {d : PyData} {ls : List Addr}, Lt H v d ls → Dq K H v d ls
  | _, _, _, .non => .non
  | _, _, _, .bl b => .bl b
  | _, _, _, .int i => .int i
  | _, _, _, .str z => .str z
  | _, _, _, .lst h t => .lst (SqL.of h) (lts_dq t)
  | _, _, _, .tup h t => .tup (SqT.of h) (lts_dq t)
  | _, _, _, .dic h => .dic (kvs := []) (ds := []) h .nil .nil
theorem lts_dq : ∀ {v : List V} {d : List PyData} {ls : List Addr}, Lts H v d ls → Dqs K H v d ls
  | _, _, _, .nil => .nil
  | _, _, _, .cons h t => .cons (lt_dq h) (lts_dq t)
end
mutual
theorem lt_but {a : Addr} (e : ∀ c o, H c = some o → c ≠ a → H' c = some o) (ha : ∃ xs, H a = some (.lst xs)) : ∀ {v : V} {d : PyData} {ls : List Addr}, Lt H v d ls → a ∉ ls → Lt H' v d ls
  | _, _, _, .non, _ => .non
  | _, _, _, .bl b, _ => .bl b
  | _, _, _, .int i, _ => .int i
  | _, _, _, .str z, _ => .str z
  | _, _, _, .lst h t, n => .lst (e _ _ h fun z => n (by rw [z] <;> exact List.mem_cons_self)) (lts_but e ha t fun z => n (List.mem_cons_of_mem _ z))
  | _, _, _, .tup h t, n => .tup (e _ _ h fun z => by obtain ⟨xs, q⟩ := ha; rw [z, q] at h; cases h) (lts_but e ha t n)
  | _, _, _, .dic h, _ => .dic (e _ _ h fun z => by obtain ⟨xs, q⟩ := ha; rw [z, q] at h; cases h)
theorem lts_but {a : Addr} (e : ∀ c o, H c = some o → c ≠ a → H' c = some o) (ha : ∃ xs, H a = some (.lst xs)) : ∀ {v : List V} {d : List PyData} {ls : List Addr}, Lts H v d ls → a ∉ ls → Lts H' v d ls
  | _, _, _, .nil, _ => .nil
  | _, _, _, .cons h t, n => .cons (lt_but e ha h fun z => n (List.mem_append_left _ z)) (lts_but e ha t fun z => n (List.mem_append_right _ z))
end
mutual
theorem lt_same (e : Same H H') : ∀ {v : V} {d : PyData} {ls : List Addr}, Lt H v d ls → Lt H' v d ls
  | _, _, _, .non => .non
  | _, _, _, .bl b => .bl b
  | _, _, _, .int i => .int i
  | _, _, _, .str z => .str z
  | _, _, _, .lst h t => .lst (e _ _ h) (lts_same e t)
  | _, _, _, .tup h t => .tup (e _ _ h) (lts_same e t)
  | _, _, _, .dic h => .dic (e _ _ h)
theorem lts_same (e : Same H H') : ∀ {v : List V} {d : List PyData} {ls : List Addr}, Lts H v d ls → Lts H' v d ls
  | _, _, _, .nil => .nil
  | _, _, _, .cons h t => .cons (lt_same e h) (lts_same e t)
end
mutual
theorem lt_at : ∀ {v : V} {d : PyData} {ls : List Addr}, Lt H v d ls → ∀ a ∈ ls, ∃ xs, H a = some (.lst xs)
  | _, _, _, .non, _, z => nomatch z
  | _, _, _, .bl b, _, z => nomatch z
  | _, _, _, .int i, _, z => nomatch z
  | _, _, _, .str s, _, z => nomatch z
  | _, _, _, .lst h t, b, z => (List.mem_cons.mp z).elim (fun q => ⟨_, (congrArg H q).trans h⟩) fun q => lts_at t b q
  | _, _, _, .tup h t, b, z => lts_at t b z
  | _, _, _, .dic h, _, z => nomatch z
theorem lts_at : ∀ {v : List V} {d : List PyData} {ls : List Addr}, Lts H v d ls → ∀ a ∈ ls, ∃ xs, H a = some (.lst xs)
  | _, _, _, .nil, _, z => nomatch z
  | _, _, _, .cons h t, b, z => (List.mem_append.mp z).elim (lt_at h b) (lts_at t b)
end
theorem lts_app : ∀ {vs vs' : List V} {ds ds' : List PyData} {ls ls' : List Addr}, Lts H vs ds ls → Lts H vs' ds' ls' → Lts H (vs ++ vs') (ds ++ ds') (ls ++ ls')
  | _, _, _, _, _, _, .nil, t => t
  | _, _, _, _, _, _, .cons (l1 := l1) (l2 := l2) h t, t' => by
    rw [List.append_assoc]
    exact .cons h (lts_app t t')
theorem lts_len : ∀ {vs : List V} {ds : List PyData} {ls : List Addr}, Lts H vs ds ls → vs.length = ds.length
  | _, _, _, .nil => rfl
  | _, _, _, .cons _ t => congrArg Nat.succ (lts_len t)
theorem lts_get : ∀ {vs : List V} {ds : List PyData} {ls : List Addr}, Lts H vs ds ls → ∀ (i : Nat) (v : V), vs[i]? = some v → ∃ d l, ds[i]? = some d ∧ Lt H v d l ∧ ∀ a ∈ l, a ∈ ls
  | _, _, _, .nil, i, v, h => by simp at h
  | _, _, _, .cons (d := d) (l1 := l1) h t, 0, v, e => by
    obtain rfl := Option.some.inj e
    exact ⟨d, l1, rfl, h, fun a z => List.mem_append_left _ z⟩
  | _, _, _, .cons h t, i + 1, v, e => by
    obtain ⟨d, l, e1, e2, e3⟩ := lts_get t i v e
    exact ⟨d, l, e1, e2, fun a z => List.mem_append_right _ (e3 a z)⟩
/-- a list of the data at the top: it is met in no other one -/
theorem lts_sep : ∀ {vs : List V} {ds : List PyData} {ls : List Addr}, Lts H vs ds ls → ls.Nodup → ∀ (j : Nat) (v : V), vs[j]? = some v → ∃ d l, ds[j]? = some d ∧ Lt H v d l ∧ (∀ a ∈ l, a ∈ ls) ∧
    ∀ (i : Nat) (x : V), i ≠ j → vs[i]? = some x → ∃ d' l', ds[i]? = some d' ∧ Lt H x d' l' ∧ ∀ a ∈ l, a ∉ l'
  | _, _, _, .nil, _, i, v, h => by simp at h
  | _, _, _, .cons (d := d) (l1 := l1) (l2 := l2) h t, nd, 0, v, e => by
    obtain rfl := Option.some.inj e
    refine ⟨d, l1, rfl, h, fun a z => List.mem_append_left _ z, fun i x ne ex => ?_⟩
    cases i with
    | zero => exact absurd rfl ne
    | succ i =>
      obtain ⟨d', l', e1, e2, e3⟩ := lts_get t i x ex
      exact ⟨d', l', e1, e2, fun a z z' => (List.nodup_append.mp nd).2.2 a z a (e3 a z') rfl⟩
  | _, _, _, .cons (d := d) (l1 := l1) (l2 := l2) h t, nd, j + 1, v, e => by
    obtain ⟨d1, l, e1, e2, e3, e4⟩ := lts_sep t (List.nodup_append.mp nd).2.1 j v e
    refine ⟨d1, l, e1, e2, fun a z => List.mem_append_right _ (e3 a z), fun i x ne ex => ?_⟩
    cases i with
    | zero =>
      obtain rfl := Option.some.inj ex
      exact ⟨d, l1, rfl, h, fun a z z' => (List.nodup_append.mp nd).2.2 a z' a (e3 a z) rfl⟩
    | succ i => exact e4 i x (fun z => ne (by rw [z])) ex
end
/-! ### kinds of data -/
def numD : PyData → Option Int
  | .int i => some i
  | _ => none
def kindD : PyData → String
  | .none => "NoneType"
  | .bool _ => "bool"
  | .int _ => "int"
  | .str _ => "str"
  | .list _ => "list"
  | .tuple _ => "tuple"
  | .dict _ => "dict"
mutual
def nol : PyData → Bool
  | .list _ => false
  | .tuple ds => nols ds
  | .dict _ => true
  | _ => true
def nols : List PyData → Bool
  | [] => true
  | d :: ds => nol d && nols ds
end
section
variable {H : Hp} {K : PySem.W.Frag}
theorem lt_num {v : V} {d : PyData} {ls : List Addr} (h : Lt H v d ls) : Num K H v (numD d) := by
  cases h with
  | non => exact .no whl_non
  | bl b => exact .no (whl_bl b)
  | int i => exact .is i
  | str z => exact .no (whl_str z)
  | lst h t => exact .no (whl_lst h)
  | tup h t => exact .no (whl_tup h)
  | dic h => exact .no (whl_dic h)
theorem lt_isk {v : V} {d : PyData} {ls : List Addr} {T : String} {b : Bool} (h : Lt H v d ls) (e : kitB (kindD d) T = some b) : IsK K H v T b := by
  cases h with
  | non => exact isk_non _ e
  | bl b => exact isk_bl b _ e
  | int i => exact isk_int i _ e
  | str z => exact isk_str z _ e
  | lst h t => exact isk_lst h _ e
  | tup h t => exact isk_tup h _ e
  | dic h => exact isk_dic h _ e
mutual
theorem lt_nol : ∀ {v : V} {d : PyData} {ls : List Addr}, Lt H v d ls → nol d = true → ls = []
  | _, _, _, .non, _ => rfl
  | _, _, _, .bl b, _ => rfl
  | _, _, _, .int i, _ => rfl
  | _, _, _, .str z, _ => rfl
  | _, _, _, .lst h t, e => by simp [nol] at e
  | _, _, _, .tup h t, e => lts_nol t (by simpa [nol] using e)
  | _, _, _, .dic h, _ => rfl
theorem lts_nol : ∀ {v : List V} {d : List PyData} {ls : List Addr}, Lts H v d ls → nols d = true → ls = []
  | _, _, _, .nil, _ => rfl
  | _, _, _, .cons h t, e => by
    have e2 := Bool.and_eq_true_iff.mp (by simpa [nols] using e)
    rw [lt_nol h e2.1, lts_nol t e2.2] <;> rfl
end
end
/-- such a datum is told by repr -/
def okD (d : PyData) : Bool := (nol d || !d.hasDict) && (d.showable && (decide (d.depth ≤ 60) && (decide (d.shown.length ≤ sizeLine) && PyData.strOk d.shown)))
theorem lt_rep {H : Hp} {K : PySem.W.Frag} {v : V} {d : PyData} {ls : List Addr} (h : Lt H v d ls) (e : okD d = true) : Rep K H v d.shown := by
  obtain ⟨e1, e⟩ := He.ba e
  obtain ⟨e2, e⟩ := He.ba e
  obtain ⟨e3, e⟩ := He.ba e
  obtain ⟨e4, e5⟩ := He.ba e
  refine ⟨d, ls, lt_dq h, fun z => ?_, e2, of_decide_eq_true e3, of_decide_eq_true e4, e5, rfl⟩
  rw [z] at e1
  rw [lt_nol h (by simpa using e1)]
  exact List.not_mem_nil
/-! ### displays -/
def tLit (S : L2.St → Prop) (d : PyData) : TE := fun σ H Q => S σ ∧ ∀ v H' ls, Same H H' → Lt H' v d ls → ls.Nodup → (∀ a ∈ ls, H a = none) → Q v H'
def tLits (S : L2.St → Prop) (ds : List PyData) : TA := fun σ H Q => S σ ∧ ∀ vs H' ls, Same H H' → Lts H' vs ds ls → ls.Nodup → (∀ a ∈ ls, H a = none) → Q vs H'
theorem upd_same_as {H : Hp} {p : Addr} {o : HO} (n : H p = none) : Same H (upd H p o) := fun c q e => by rw [upd_ne (ne_of_none e n)] <;> exact e
section
variable {X : Cx} {S : L2.St → Prop} {d : PyData} {ds : List PyData} {e : Expr} {es : List Expr} {pos : Pos}
theorem pe_of {te te' : TE} (h : ∀ σ H Q, te' σ H Q → te σ H Q) (p : PE X e te) : PE X e te' := ⟨fun pins s σ H Q I q => p.run pins s σ H Q I (h _ _ _ q)⟩
theorem pa_of {te te' : TA} (h : ∀ σ H Q, te' σ H Q → te σ H Q) (p : PA X es te) : PA X es te' := ⟨fun ps pins s σ H Q I q => p.run ps pins s σ H Q I (h _ _ _ q)⟩
theorem li_non {j : Nat} : PE X (.Constant .none j pos) (tLit S .none) := pe_of (fun σ H Q h => h.2 .non H [] (Same.refl H) .non List.nodup_nil fun _ z => nomatch z) pe_non
theorem li_bl {b : Bool} {j : Nat} : PE X (.Constant (.bool b) j pos) (tLit S (.bool b)) := pe_of (fun σ H Q h => h.2 (.bl b) H [] (Same.refl H) (.bl b) List.nodup_nil fun _ z => nomatch z) pe_bl
theorem li_str {x : Str} {j : Nat} : PE X (.Constant (.str x) j pos) (tLit S (.str x)) := pe_of (fun σ H Q h => h.2 (.str x) H [] (Same.refl H) (.str x) List.nodup_nil fun _ z => nomatch z) pe_str
theorem li_of {te : TE} (i : Int) (h : ∀ σ H Q, S σ → Q (.int i) H → te σ H Q) (p : PE X e te) : PE X e (tLit S (.int i)) := pe_of (fun σ H Q q => h σ H Q q.1 (q.2 (.int i) H [] (Same.refl H) (.int i) List.nodup_nil fun _ z => nomatch z)) p
theorem li_int {i : Int} {j : Nat} : PE X (.Constant (.int i) j pos) (tLit S (.int i)) := li_of i (fun _ _ _ _ q => q) pe_int
theorem li_neg {i : Int} {j : Nat} {pos2 : Pos} : PE X (.UnaryOp .USub (.Constant (.int i) j pos) pos2) (tLit S (.int (-i))) := li_of (-i) (fun _ _ _ _ q => ⟨_, rfl, q⟩) (pe_un un_neg pe_int)
theorem li_dic : PE X (.Dict [] [] pos) (tLit S (.dict [])) := pe_of (fun σ H Q h p np => h.2 (.ref p) _ [] (upd_same_as np) (.dic upd_same) List.nodup_nil fun _ z => nomatch z) pe_dnewK
theorem lis_nil : PA X [] (tLits S []) := pa_of (fun σ H Q h => h.2 [] H [] (Same.refl H) .nil List.nodup_nil fun _ z => nomatch z) pa_nil
theorem lis_cons (h : PE X e (tLit S d)) (t : PA X es (tLits S ds)) (hs : starEach (e :: es) X.env = (false, eval e X.env) :: starEach es X.env := by rfl) : PA X (e :: es) (tLits S (d :: ds)) := by
  refine pa_of (fun σ H Q q => ?_) (pa_cons h t hs)
  refine ⟨q.1, fun v H1 l1 s1 t1 n1 f1 => ⟨q.1, fun vs H2 l2 s2 t2 n2 f2 => q.2 (v :: vs) H2 (l1 ++ l2) (s1.trans s2) (.cons (lt_same s2 t1) t2) ?_ fun a z => ?_⟩⟩
  · refine List.nodup_append.mpr ⟨n1, n2, fun a z b z2 e => ?_⟩
    obtain ⟨xs, y⟩ := lt_at t1 a z
    rw [e, f2 b z2] at y
    cases y
  · rcases List.mem_append.mp z with z | z
    · exact f1 a z
    · exact s1.free (f2 a z)
theorem li_tup {x : Nat} (h : PA X es (tLits S ds)) (z : ds.length ≤ 1000) : PE X (.Tuple es x pos) (tLit S (.tuple ds)) := by
  refine pe_of (fun σ H Q q => ?_) (pe_tup h)
  refine ⟨q.1, fun vs H1 ls s1 t1 n1 f1 => ⟨?_, fun p np => q.2 (.ref p) _ ls (s1.trans (upd_same_as np)) (.tup upd_same (lts_same (upd_same_as np) t1)) n1 f1⟩⟩
  rw [lts_len t1, sizeLine_eq]
  omega
theorem li_lst (h : PA X es (tLits S ds)) (z : ds.length ≤ 1000) : PE X (.List es pos) (tLit S (.list ds)) := by
  refine pe_of (fun σ H Q q => ?_) (pe_lst h)
  refine ⟨q.1, fun vs H1 ls s1 t1 n1 f1 => ⟨?_, fun p np => q.2 (.ref p) _ (p :: ls) (s1.trans (upd_same_as np)) (.lst upd_same (lts_same (upd_same_as np) t1)) (List.nodup_cons.mpr ⟨fun z => ?_, n1⟩) fun a z => ?_⟩⟩
  · rw [lts_len t1, sizeLine_eq]
    omega
  · obtain ⟨xs, y⟩ := lts_at t1 p z
    rw [np] at y
    cases y
  · rcases List.mem_cons.mp z with z | z
    · rw [z]
      exact s1.free np
    · exact f1 a z
end
end Xl
/-! Own ground, part K: written lists gone through, one of whose elements is a list that is lengthened. -/
namespace Xk
open PySem PySem.Spec PyProof.Rows L2 Xa Xb Xc Xp Xr Xl
/-- all but a is as it was -/
def Evo (a : Addr) (H H' : Hp) : Prop := ∀ c o, H c = some o → c ≠ a → H' c = some o
theorem Evo.same {a : Addr} {H H' H2 : Hp} (e : Evo a H H') (s : Same H' H2) : Evo a H H2 := fun c o h n => s c o (e c o h n)
theorem Evo.trans {a : Addr} {H H' H2 : Hp} (e : Evo a H H') (s : Evo a H' H2) : Evo a H H2 := fun c o h n => s c o (e c o h n) n
theorem Evo.of {a : Addr} {H H' : Hp} (s : Same H H') : Evo a H H' := fun c o h _ => s c o h
theorem Evo.all {a : Addr} {H0 H H' : Hp} (s : Same H0 H) (n : H0 a = none) (e : Evo a H H') : Same H0 H' := fun c o h => e c o (s c o h) (ne_of_none h n)
def mores (k : Nat) : List V := List.replicate k (.str "more")
def mored (base : List PyData) (k : Nat) : PyData := .list (base ++ List.replicate k (.str "more"))
structure Pk (H : Hp) (vs : List V) (ds : List PyData) (j : Nat) (base : List PyData) (a : Addr) (xs : List V) : Prop where
  pos : vs[j]? = some (.ref a)
  lst : H a = some (.lst xs)
  els : Lts H xs base []
  oth : ∀ (i : Nat) (x : V), i ≠ j → vs[i]? = some x → ∃ d l, ds[i]? = some d ∧ Lt H x d l ∧ a ∉ l
theorem pick {H : Hp} {vs : List V} {ds : List PyData} {ls : List Addr} {j : Nat} {base : List PyData} (t : Lts H vs ds ls) (nd : ls.Nodup) (hj : ds[j]? = some (.list base)) (nb : nols base = true) : ∃ a xs, Pk H vs ds j base a xs ∧ a ∈ ls := by
  have hl : j < vs.length := by
    rw [lts_len t]
    exact (List.getElem?_eq_some_iff.mp hj).1
  obtain ⟨d, l, e1, e2, e3, e4⟩ := lts_sep t nd j vs[j] (List.getElem?_eq_getElem hl)
  rw [hj] at e1
  obtain rfl := Option.some.inj e1
  generalize hv : vs[j] = v at e2
  cases e2 with
  | lst h t2 =>
    have z := lts_nol t2 nb
    subst z
    exact ⟨_, _, ⟨by rw [List.getElem?_eq_getElem hl, hv], h, t2, fun i x ne ex => let ⟨d', l', q1, q2, q3⟩ := e4 i x ne ex; ⟨d', l', q1, q2, q3 _ List.mem_cons_self⟩⟩, e3 _ List.mem_cons_self⟩
section
variable {H H' : Hp} {vs : List V} {ds : List PyData} {j : Nat} {base : List PyData} {a : Addr} {xs : List V} {i : Nat} {x : V} {K : PySem.W.Frag}
theorem lts_more (k : Nat) : Lts H (mores k) (List.replicate k (.str "more")) [] := by
  induction k with
  | zero => exact .nil
  | succ k ih => exact .cons (.str _) ih
theorem Pk.elem (p : Pk H vs ds j base a xs) (k : Nat) (e : Evo a H H') (hk : i = j → H' a = some (.lst (xs ++ mores k))) (hx : vs[i]? = some x) : ∃ d l, Lt H' x d l ∧ (i ≠ j → ds[i]? = some d) ∧ (i = j → d = mored base k ∧ x = .ref a) := by
  by_cases ij : i = j
  · subst ij
    rw [p.pos] at hx
    obtain rfl := Option.some.inj hx
    have q : Lts H' (xs ++ mores k) (base ++ List.replicate k (.str "more")) ([] ++ []) := lts_app (lts_but e ⟨_, p.lst⟩ p.els (by simp)) (lts_more k)
    exact ⟨_, _, .lst (hk rfl) q, fun z => absurd rfl z, fun _ => ⟨rfl, rfl⟩⟩
  · obtain ⟨d, l, q1, q2, q3⟩ := p.oth i x ij hx
    exact ⟨d, l, lt_but e ⟨_, p.lst⟩ q2 q3, fun _ => q1, fun z => absurd z ij⟩
theorem Pk.res (p : Pk H vs ds j base a xs) (k : Nat) (kz : k < 100) (e : Evo a H H') (hk : i = j → H' a = some (.lst (xs ++ mores k))) (hx : vs[i]? = some x) (bz : base.length < 100)
    (ok : ∀ d, i ≠ j → ds[i]? = some d → okD d = true ∧ kitB (kindD d) "list" = some false) (okm : i = j → okD (mored base (k + 1)) = true) :
    ∃ t H2, Res K H' x t H2 ∧ Evo a H' H2 ∧ (i ≠ j → H2 = H') ∧ (i = j → H2 a = some (.lst (xs ++ mores (k + 1)))) := by
  by_cases ij : i = j
  · have hk2 := hk ij
    have okm2 := okm ij
    subst ij
    rw [p.pos] at hx
    obtain rfl := Option.some.inj hx
    have em : (xs ++ mores k) ++ [V.str "more"] = xs ++ mores (k + 1) := by
      unfold mores
      rw [List.append_assoc, List.replicate_succ']
    have hs : (upd H' a (.lst (xs ++ mores (k + 1)))) a = some (.lst (xs ++ mores (k + 1))) := upd_same
    have ev : Evo a H' (upd H' a (.lst (xs ++ mores (k + 1)))) := fun c o h n => by rw [upd_ne n] <;> exact h
    have q : Lts (upd H' a (.lst (xs ++ mores (k + 1)))) (xs ++ mores (k + 1)) (base ++ List.replicate (k + 1) (.str "more")) ([] ++ []) := lts_app (lts_but (e.trans ev) ⟨_, p.lst⟩ p.els (by simp)) (lts_more (k + 1))
    have r : Rep K (upd H' a (.lst ((xs ++ mores k) ++ [V.str "more"]))) (.ref a) (mored base (k + 1)).shown := by
      rw [em]
      exact lt_rep (.lst hs q) okm2
    have len := lts_len p.els
    have R : Res K H' (.ref a) (mored base (k + 1)).shown (upd H' a (.lst ((xs ++ mores k) ++ [V.str "more"]))) := Res.list hk2 (by rw [List.length_append]; unfold mores; rw [List.length_replicate]; omega) r
    refine ⟨_, _, R, by rw [em] <;> exact ev, fun z => absurd rfl z, fun _ => ?_⟩
    rw [em] <;> exact hs
  · obtain ⟨d, l, q1, q2, q3⟩ := p.oth i x ij hx
    obtain ⟨o1, o2⟩ := ok d ij q1
    have q4 := lt_but e ⟨_, p.lst⟩ q2 q3
    exact ⟨_, H', .other (lt_isk q4 o2) (lt_rep q4 o1), Evo.of (Same.refl _), fun _ => rfl, fun z => absurd z ij⟩
end
/-! ### the told triple -/
def triple (b1 b2 : Bool) (t : Str) : PyData := .list [.bool b1, .bool b2, .str t]
theorem triple_shaped (b1 b2 : Bool) {t : Str} (h : PyData.strOk t = true) : SeqAt.shaped (triple b1 b2 t) = true := by
  simp [h, SeqAt.shaped, triple, PyData.canLay0, PyData.canLayAll0, PyData.depth, PyData.depthAll]
theorem triple_eqv (b1 b2 : Bool) (t : Str) : PyData.eqv (triple b1 b2 t) (triple b1 b2 t) = true := by
  simp [triple, PyData.eqv, PyData.eqvAll]
theorem triple_at {K : PySem.W.Frag} {H : Hp} {r : Addr} {b1 b2 : Bool} {t : Str} (h : H r = some (.lst [.bl b1, .bl b2, .str t])) : Dp K H (.ref r) (triple b1 b2 t) :=
  .lst (SqL.of h) (.cons (.bl _) (.cons (.bl _) (.cons (.str _) .nil)))
end Xk
/-! Own ground, part T: lists of tuples of ints as data. -/
namespace Xt
open PySem PySem.Spec PyProof.Rows L2 Xa Xb Xc Xp Xr Xl Xk
def tupD (l : List Int) : PyData := .tuple (l.map .int)
def lisD (ls : List (List Int)) : PyData := .list (ls.map tupD)
section
theorem ints_lay : ∀ l : List Int, PyData.canLayAll0 (l.map .int) = true
  | [] => by simp [PyData.canLayAll0]
  | x :: l => by simp [PyData.canLayAll0, PyData.canLay0, ints_lay l]
theorem tups_lay : ∀ ls : List (List Int), PyData.canLayAll0 (ls.map tupD) = true
  | [] => by simp [PyData.canLayAll0]
  | x :: l => by simp [PyData.canLayAll0, PyData.canLay0, tupD, ints_lay x, tups_lay l]
theorem ints_depth : ∀ l : List Int, PyData.depthAll (l.map .int) = 0
  | [] => by simp [PyData.depthAll]
  | x :: l => by simp [PyData.depthAll, PyData.depth, ints_depth l]
theorem tups_depth : ∀ ls : List (List Int), PyData.depthAll (ls.map tupD) ≤ 1
  | [] => by simp [PyData.depthAll]
  | x :: l => by
    have := tups_depth l
    simp only [List.map_cons, PyData.depthAll, PyData.depth, tupD, ints_depth]
    omega
theorem lis_depth (ls : List (List Int)) : (lisD ls).depth ≤ 2 := by
  have := tups_depth ls
  simp only [lisD, PyData.depth]
  omega
theorem ints_nodict : ∀ l : List Int, PyData.hasDictAll (l.map .int) = false
  | [] => by simp [PyData.hasDictAll]
  | x :: l => by simp [PyData.hasDictAll, PyData.hasDict, ints_nodict l]
theorem tups_nodict : ∀ ls : List (List Int), PyData.hasDictAll (ls.map tupD) = false
  | [] => by simp [PyData.hasDictAll]
  | x :: l => by simp [PyData.hasDictAll, PyData.hasDict, tupD, ints_nodict x, tups_nodict l]
theorem lis_shaped (ls : List (List Int)) : SeqAt.shaped (lisD ls) = true := by
  have h1 : (lisD ls).canLay0 = true := by simp [lisD, PyData.canLay0, tups_lay]
  have h2 := lis_depth ls
  have h3 : (lisD ls).depth ≤ 64 := by omega
  simp [SeqAt.shaped, h1, h3]
theorem lis_eqv (ls : List (List Int)) : PyData.eqv (lisD ls) (lisD ls) = true := SeqAt.eqv_refl _ (by simp [lisD, PyData.canLay0, tups_lay])
/-- short ones of bounded ints -/
def Short (ls : List (List Int)) : Prop := ls.length < 64 ∧ ∀ l ∈ ls, l.length ≤ 3 ∧ ∀ z ∈ l, z.natAbs < 10 ^ 30
theorem log_lt {z : Int} (h : z.natAbs < 10 ^ 30) : z.natAbs.log2 < 100 := by
  have h1 : z.natAbs < 2 ^ 100 := Nat.lt_of_lt_of_le h (by decide)
  exact PySem.Flt.log2_lt_of (k := 100) (by decide) h1
theorem ints_showable : ∀ l : List Int, (∀ z ∈ l, z.natAbs < 10 ^ 30) → PyData.showableAll (l.map .int) = true
  | [], _ => by simp [PyData.showableAll]
  | x :: l, h => by
    have h1 := log_lt (h x List.mem_cons_self)
    have h2 : x.natAbs.log2 < 1920 := by omega
    simp [PyData.showableAll, PyData.showable, h2, ints_showable l fun z hz => h z (List.mem_cons_of_mem _ hz)]
theorem tups_showable : ∀ ls : List (List Int), (∀ l ∈ ls, ∀ z ∈ l, z.natAbs < 10 ^ 30) → PyData.showableAll (ls.map tupD) = true
  | [], _ => by simp [PyData.showableAll]
  | x :: l, h => by simp [PyData.showableAll, PyData.showable, tupD, ints_showable x (h x List.mem_cons_self), tups_showable l fun z hz => h z (List.mem_cons_of_mem _ hz)]
theorem int_short {z : Int} (h : z.natAbs < 10 ^ 30) : (PyData.int z).shown.length ≤ 32 := by
  have e := int_text_length_le10 (k := 30) (by decide) h
  show (Str.ofString (toString z)).length ≤ 32
  rw [PySem.ofString_length]
  omega
theorem ints_short : ∀ l : List Int, (∀ z ∈ l, z.natAbs < 10 ^ 30) → PyData.leavesShortAll 32 (l.map .int) = true
  | [], _ => by simp [PyData.leavesShortAll]
  | x :: l, h => by simp [PyData.leavesShortAll, PyData.leavesShort, int_short (h x List.mem_cons_self), ints_short l fun z hz => h z (List.mem_cons_of_mem _ hz)]
theorem tups_short : ∀ ls : List (List Int), (∀ l ∈ ls, ∀ z ∈ l, z.natAbs < 10 ^ 30) → PyData.leavesShortAll 32 (ls.map tupD) = true
  | [], _ => by simp [PyData.leavesShortAll]
  | x :: l, h => by simp [PyData.leavesShortAll, PyData.leavesShort, tupD, ints_short x (h x List.mem_cons_self), tups_short l fun z hz => h z (List.mem_cons_of_mem _ hz)]
theorem ints_weight : ∀ l : List Int, (∀ z ∈ l, z.natAbs < 10 ^ 30) → PyData.weightAll (l.map .int) ≤ 101 * l.length
  | [], _ => by simp [PyData.weightAll]
  | x :: l, h => by
    have h1 := log_lt (h x List.mem_cons_self)
    have h2 := ints_weight l fun z hz => h z (List.mem_cons_of_mem _ hz)
    have h3 : PyData.weight (.int x) ≤ 100 := by
      simp only [PyData.weight]
      split <;> omega
    simp only [List.map_cons, PyData.weightAll, List.length_cons]
    omega
theorem tups_weight : ∀ ls : List (List Int), (∀ l ∈ ls, l.length ≤ 3 ∧ ∀ z ∈ l, z.natAbs < 10 ^ 30) → PyData.weightAll (ls.map tupD) ≤ 304 * ls.length
  | [], _ => by simp [PyData.weightAll]
  | x :: l, h => by
    obtain ⟨h1, h4⟩ := h x List.mem_cons_self
    have h2 := tups_weight l fun z hz => h z (List.mem_cons_of_mem _ hz)
    have h3 := ints_weight x h4
    simp only [List.map_cons, PyData.weightAll, List.length_cons, tupD, PyData.weight]
    omega
theorem lis_len {ls : List (List Int)} (h : Short ls) : (lisD ls).shown.length ≤ sizeLine := by
  obtain ⟨h1, h2⟩ := h
  have h3 := tups_short ls fun l hl => (h2 l hl).2
  have h4 := tups_weight ls h2
  have h5 := PyData.shown_le 32 (by decide) (lisD ls) (by simpa [lisD, PyData.leavesShort] using h3)
  have h6 : (lisD ls).weight ≤ 304 * 64 := by
    simp only [lisD, PyData.weight]
    omega
  have h7 : (32 + 2) * (lisD ls).weight ≤ 34 * (304 * 64) := Nat.mul_le_mul (Nat.le_refl _) h6
  rw [sizeLine_eq]
  omega
end
section
variable {K : PySem.W.Frag} {H : Hp}
theorem dqs_ints : ∀ l : List Int, Dqs K H (l.map V.int) (l.map .int) []
  | [] => .nil
  | x :: l => .cons (l1 := []) (.int x) (dqs_ints l)
theorem dqs_tups : ∀ ks : List (Addr × List Int), (∀ q ∈ ks, H q.1 = some (.tup (q.2.map V.int))) → Dqs K H (ks.map fun q => V.ref q.1) ((ks.map (·.2)).map tupD) []
  | [], _ => .nil
  | q :: ks, h => .cons (l1 := []) (.tup (SqT.of (h q List.mem_cons_self)) (dqs_ints q.2)) (dqs_tups ks fun z hz => h z (List.mem_cons_of_mem _ hz))
/-- the reading of repr of such a list -/
theorem rr_lis {u : Addr} {ks : List (Addr × List Int)} {Q : VK} (h : H u = some (.lst (ks.map fun q => V.ref q.1))) (t : ∀ q ∈ ks, H q.1 = some (.tup (q.2.map V.int))) (s : Short (ks.map (·.2))) (q : Q (.str (lisD (ks.map (·.2))).shown) H) : rRepr K [V.ref u] H Q := by
  refine ⟨.ref u, lisD (ks.map (·.2)), [u], rfl, .lst (SqL.of h) (dqs_tups ks t), fun z => ?_, ?_, ?_, lis_len s, q⟩
  · have := tups_nodict (ks.map (·.2))
    simp only [lisD, PyData.hasDict] at z
    rw [this] at z
    cases z
  · simp only [lisD, PyData.showable]
    exact tups_showable _ fun l hl => (s.2 l hl).2
  · have := lis_depth (ks.map (·.2))
    omega
/-- what the reading of repr of such a list asks -/
theorem lis_in {u : Addr} {ks : List (Addr × List Int)} (h : H u = some (.lst (ks.map fun q => V.ref q.1))) (t : ∀ q ∈ ks, H q.1 = some (.tup (q.2.map V.int))) (s : Short (ks.map (·.2))) :
    Dq K H (.ref u) (lisD (ks.map (·.2))) [u] ∧ ((lisD (ks.map (·.2))).hasDict = true → sysModules ∉ [u]) ∧ (lisD (ks.map (·.2))).showable = true ∧ (lisD (ks.map (·.2))).depth ≤ 60 ∧ (lisD (ks.map (·.2))).shown.length ≤ sizeLine := by
  refine ⟨.lst (SqL.of h) (dqs_tups ks t), fun z => ?_, ?_, ?_, lis_len s⟩
  · have := tups_nodict (ks.map (·.2))
    simp only [lisD, PyData.hasDict] at z
    rw [this] at z
    cases z
  · simp only [lisD, PyData.showable]
    exact tups_showable _ fun l hl => (s.2 l hl).2
  · have := lis_depth (ks.map (·.2))
    omega
theorem dp_ints : ∀ l : List Int, DpAll K H (l.map V.int) (l.map .int)
  | [] => .nil
  | x :: l => .cons (.int x) (dp_ints l)
theorem dp_tups : ∀ ks : List (Addr × List Int), (∀ q ∈ ks, H q.1 = some (.tup (q.2.map V.int))) → DpAll K H (ks.map fun q => V.ref q.1) ((ks.map (·.2)).map tupD)
  | [], _ => .nil
  | q :: ks, h => .cons (.tup (SqT.of (h q List.mem_cons_self)) (dp_ints q.2)) (dp_tups ks fun z hz => h z (List.mem_cons_of_mem _ hz))
theorem dp_lis {u : Addr} {ks : List (Addr × List Int)} (h : H u = some (.lst (ks.map fun q => V.ref q.1))) (t : ∀ q ∈ ks, H q.1 = some (.tup (q.2.map V.int))) : Dp K H (.ref u) (lisD (ks.map (·.2))) := .lst (SqL.of h) (dp_tups ks t)
end
end Xt
/-! Own ground, part Q: lists of lists of small ints as data. -/
namespace Xq
open PySem PySem.Spec PyProof.Rows L2 Xa Xb Xc Xp Xr Xl Xk Xt
def lstD (l : List Int) : PyData := .list (l.map .int)
def llD (ls : List (List Int)) : PyData := .list (ls.map lstD)
section
theorem lsts_lay : ∀ ls : List (List Int), PyData.canLayAll0 (ls.map lstD) = true
  | [] => by simp [PyData.canLayAll0]
  | x :: l => by simp [PyData.canLayAll0, PyData.canLay0, lstD, ints_lay x, lsts_lay l]
theorem lsts_depth : ∀ ls : List (List Int), PyData.depthAll (ls.map lstD) ≤ 1
  | [] => by simp [PyData.depthAll]
  | x :: l => by
    have := lsts_depth l
    simp only [List.map_cons, PyData.depthAll, PyData.depth, lstD, ints_depth]
    omega
theorem ll_depth (ls : List (List Int)) : (llD ls).depth ≤ 2 := by
  have := lsts_depth ls
  simp only [llD, PyData.depth]
  omega
theorem lsts_nodict : ∀ ls : List (List Int), PyData.hasDictAll (ls.map lstD) = false
  | [] => by simp [PyData.hasDictAll]
  | x :: l => by simp [PyData.hasDictAll, PyData.hasDict, lstD, ints_nodict x, lsts_nodict l]
theorem ll_nodict (ls : List (List Int)) : (llD ls).hasDict = false := by simp [llD, PyData.hasDict, lsts_nodict]
theorem ll_shaped (ls : List (List Int)) : SeqAt.shaped (llD ls) = true := by
  have h1 : (llD ls).canLay0 = true := by simp [llD, PyData.canLay0, lsts_lay]
  have h2 := ll_depth ls
  have h3 : (llD ls).depth ≤ 64 := by omega
  simp [SeqAt.shaped, h1, h3]
theorem ll_eqv (ls : List (List Int)) : PyData.eqv (llD ls) (llD ls) = true := SeqAt.eqv_refl _ (by simp [llD, PyData.canLay0, lsts_lay])
/-- many short ones of bounded ints -/
def Brief (ls : List (List Int)) : Prop := ls.length ≤ 1000 ∧ ∀ l ∈ ls, l.length ≤ 3 ∧ ∀ z ∈ l, z.natAbs < 10 ^ 30
theorem lsts_showable : ∀ ls : List (List Int), (∀ l ∈ ls, ∀ z ∈ l, z.natAbs < 10 ^ 30) → PyData.showableAll (ls.map lstD) = true
  | [], _ => by simp [PyData.showableAll]
  | x :: l, h => by simp [PyData.showableAll, PyData.showable, lstD, ints_showable x (h x List.mem_cons_self), lsts_showable l fun z hz => h z (List.mem_cons_of_mem _ hz)]
theorem lsts_short : ∀ ls : List (List Int), (∀ l ∈ ls, ∀ z ∈ l, z.natAbs < 10 ^ 30) → PyData.leavesShortAll 32 (ls.map lstD) = true
  | [], _ => by simp [PyData.leavesShortAll]
  | x :: l, h => by simp [PyData.leavesShortAll, PyData.leavesShort, lstD, ints_short x (h x List.mem_cons_self), lsts_short l fun z hz => h z (List.mem_cons_of_mem _ hz)]
theorem lsts_weight : ∀ ls : List (List Int), (∀ l ∈ ls, l.length ≤ 3 ∧ ∀ z ∈ l, z.natAbs < 10 ^ 30) → PyData.weightAll (ls.map lstD) ≤ 304 * ls.length
  | [], _ => by simp [PyData.weightAll]
  | x :: l, h => by
    obtain ⟨h1, h4⟩ := h x List.mem_cons_self
    have h2 := lsts_weight l fun z hz => h z (List.mem_cons_of_mem _ hz)
    have h3 := ints_weight x h4
    simp only [List.map_cons, PyData.weightAll, List.length_cons, lstD, PyData.weight]
    omega
theorem ll_len {ls : List (List Int)} (h : Brief ls) : (llD ls).shown.length ≤ sizeLine := by
  obtain ⟨h1, h2⟩ := h
  have h3 := lsts_short ls fun l hl => (h2 l hl).2
  have h4 := lsts_weight ls h2
  have h5 := PyData.shown_le 32 (by decide) (llD ls) (by simpa [llD, PyData.leavesShort] using h3)
  have h6 : (llD ls).weight ≤ 304 * 1001 := by
    simp only [llD, PyData.weight]
    omega
  have h7 : (32 + 2) * (llD ls).weight ≤ 34 * (304 * 1001) := Nat.mul_le_mul (Nat.le_refl _) h6
  rw [sizeLine_eq]
  omega
end
section
variable {K : PySem.W.Frag} {H : Hp}
/-- at u stands a list of lists of ints -/
def LL (H : Hp) (u : Addr) (ks : List (Addr × List Int)) : Prop := H u = some (.lst (ks.map fun q => V.ref q.1)) ∧ ∀ q ∈ ks, H q.1 = some (.lst (q.2.map V.int))
theorem LL.same {H H' : Hp} (e : Same H H') {u : Addr} {ks : List (Addr × List Int)} (h : LL H u ks) : LL H' u ks := ⟨e _ _ h.1, fun q hq => e _ _ (h.2 q hq)⟩
theorem dqs_lsts : ∀ ks : List (Addr × List Int), (∀ q ∈ ks, H q.1 = some (.lst (q.2.map V.int))) → Dqs K H (ks.map fun q => V.ref q.1) ((ks.map (·.2)).map lstD) (ks.map (·.1))
  | [], _ => .nil
  | q :: ks, h => .cons (l1 := [q.1]) (.lst (ls := []) (SqL.of (h q List.mem_cons_self)) (dqs_ints q.2)) (dqs_lsts ks fun z hz => h z (List.mem_cons_of_mem _ hz))
theorem ll_in {u : Addr} {ks : List (Addr × List Int)} (h : LL H u ks) (s : Brief (ks.map (·.2))) :
    Dq K H (.ref u) (llD (ks.map (·.2))) (u :: ks.map (·.1)) ∧ ((llD (ks.map (·.2))).hasDict = true → sysModules ∉ (u :: ks.map (·.1))) ∧ (llD (ks.map (·.2))).showable = true ∧ (llD (ks.map (·.2))).depth ≤ 60 ∧ (llD (ks.map (·.2))).shown.length ≤ sizeLine := by
  refine ⟨.lst (SqL.of h.1) (dqs_lsts ks h.2), fun z => ?_, ?_, ?_, ll_len s⟩
  · rw [ll_nodict] at z
    cases z
  · simp only [llD, PyData.showable]
    exact lsts_showable _ fun l hl => (s.2 l hl).2
  · have := ll_depth (ks.map (·.2))
    omega
/-- the reading of repr of such a list -/
theorem rr_ll {u : Addr} {ks : List (Addr × List Int)} {Q : VK} (h : LL H u ks) (s : Brief (ks.map (·.2))) (q : Q (.str (llD (ks.map (·.2))).shown) H) : rRepr K [V.ref u] H Q := by
  obtain ⟨a, b, c, d, e⟩ := ll_in (K := K) h s
  exact ⟨.ref u, _, _, rfl, a, b, c, d, e, q⟩
theorem dp_lsts : ∀ ks : List (Addr × List Int), (∀ q ∈ ks, H q.1 = some (.lst (q.2.map V.int))) → DpAll K H (ks.map fun q => V.ref q.1) ((ks.map (·.2)).map lstD)
  | [], _ => .nil
  | q :: ks, h => .cons (.lst (SqL.of (h q List.mem_cons_self)) (dp_ints q.2)) (dp_lsts ks fun z hz => h z (List.mem_cons_of_mem _ hz))
theorem dp_ll {u : Addr} {ks : List (Addr × List Int)} (h : LL H u ks) : Dp K H (.ref u) (llD (ks.map (·.2))) := .lst (SqL.of h.1) (dp_lsts ks h.2)
end
end Xq
/-! Own ground, part H: the law called from outside, for defs that know that no repr is under way. -/
namespace Xh
open PySem PySem.Spec PyProof.Rows L2 Xa
/-- what can be tracked at the law's call: at most the script, and that as it stands -/
structure Track (P : Program) (w : World) (K : PySem.W.Frag) (h : Heap) (a : Addr) (ns : List Int) (H : Hp) : Prop where
  only : Only H
  seq : SqL K H a (ns.map V.int)
  hok : HOk P w H h
  just : ∀ b, H b ≠ none → b = a
  notK : H a ≠ none → K.lookup a = none
theorem track_ex {P : Program} {w : World} {K : PySem.W.Frag} {h : Heap} {a : Addr} {vs : List Value} {ns : List Int} (KX : K.In h) (ha : h.get? a = some { cls := .type "list", data := .seq vs.toArray }) (hi : IntsAre vs ns) (hl : ns.length ≤ sizeLine) : ∃ H, Track P w K h a ns H := by
  have rv := vals_ints hi
  have hlen : (ns.map V.int).length ≤ sizeLine := by rw [List.length_map] <;> exact hl
  by_cases hk : K.lookup a = none
  · refine ⟨upd (fun _ => none) a (.frz { cls := .type "list", data := .seq vs.toArray } (.lst (ns.map V.int))), fun b => ?_, .inl (.inr ⟨_, upd_same⟩), fun b u e => ?_, fun b nb => ?_, fun _ => hk⟩
    · by_cases e : b = a
      · rw [e, upd_same]
        exact .inr ⟨_, _, rfl⟩
      · rw [upd_ne e]
        exact .inl rfl
    · by_cases q : b = a
      · rw [q, upd_same] at e
        rw [← Option.some.inj e, q]
        exact ⟨ha, hlen, vs, _, rv, ha⟩
      · rw [upd_ne q] at e
        cases e
    · by_cases e : b = a
      · exact e
      · rw [upd_ne e] at nb
        exact absurd rfl nb
  · obtain ⟨o, ho⟩ := Option.ne_none_iff_exists'.mp hk
    have e := KX a o ho
    rw [ha] at e
    have eo := Option.some.inj e
    subst eo
    exact ⟨fun _ => none, fun _ => .inl rfl, .inr ⟨_, vs.toArray, _, ho, rfl, rfl, rfl, by rw [List.size_toArray, hi.length]; exact hl, by simpa using rv⟩, fun b u z => (nomatch z), fun b z => absurd rfl z, fun z => absurd rfl z⟩
/-- the call -/
theorem lawG {P : Program} {w : World} {K : PySem.W.Frag} {mg mb : Str → Option Value} {k : Nat} {fa a : Addr} {fd : FuncData} {x : Str} {sp : Sp} {s : Shared} {vs : List Value} {ns : List Int} (KX : K.In s.heap) (hns : s.heap.Ns mainGlobals mg) (hb : s.heap.Ns builtinsNs mb)
    (hbb : ∀ x : Str, x ≠ "__name__" → mb x = bootBuiltins x) (hlim : s.heap.NoLimit) (hg : s.gens = #[]) (ha : s.heap.get? a = some { cls := .type "list", data := .seq vs.toArray }) (hi : IntsAre vs ns) (hl : ns.length ≤ sizeLine) (hr : Room k callerA) (hn : NoRep callerA)
    (F : ∀ base : Heap, FnG P w K mg base k fa fd [x] sp) (hbind : ∀ (s : Shared) (u : Value), BindsTo s fd ⟨[u], []⟩ [(x, u)]) (hsp : ∀ H : Hp, SqL K H a (ns.map V.int) → sp [.ref a] H (fun v _ => v = .bl true) E0) :
    codeAny (model P w) callerA (.call (.ref fa) ⟨[.ref a], []⟩) (fun r s' => r = .ok (.ret (.bool true)) ∧ OldK s.heap s'.heap ∧ s'.os = s.os ∧ AllBare s'.gens) s := by
  obtain ⟨H, T⟩ := track_ex (P := P) (w := w) KX ha hi hl
  have free : ∀ {b : Addr} {o : Obj}, s.heap.get? b = some o → (∀ vs n, o.data ≠ .seq vs n) → H b = none := fun {b o} e ne => by
    cases q : H b with
    | none => rfl
    | some u =>
      have eb := T.just b (by rw [q]; simp)
      rw [eb, ha] at e
      have eo := Option.some.inj e
      subst eo
      exact absurd rfl (ne _ _)
  have names : ∀ {b : Addr} {m : Str → Option Value}, s.heap.Ns b m → (hidT s.heap H).Ns b m := fun ⟨o, es, ep, e, d, r⟩ => ⟨o, es, ep, hidT_get e (free e fun vs n z => by rw [d] at z; cases z), d, r⟩
  have kin : K.In (hidT s.heap H) := fun b o e => hidT_get (KX b o e) (by
    cases q : H b with
    | none => rfl
    | some u =>
      have eb := T.just b (by rw [q]; simp)
      have nk := T.notK (by rw [← eb, q]; simp)
      rw [eb, nk] at e
      cases e)
  have md : Mod K mg (hidT s.heap H) := ⟨kin, names hns, ⟨mb, names hb, hbb⟩, let ⟨mc, h1, h2⟩ := hlim; ⟨mc, names h1, h2⟩⟩
  have e0 : Env0 P w K mg (hidT s.heap H) callerA [] s H := ⟨rfl, md, fun b o e => of_hidT e, Nat.le_of_eq (hidT_size _ _), trivial, fun b z => absurd (show b ∈ ([] : List Addr) from z) List.not_mem_nil, T.hok, .of_eq hg⟩
  refine codeAny_mono ((F (hidT s.heap H)).go callerA [] s H ⟨[.ref a], []⟩ [.ref a] [.ref a] _ _ hr hn e0 (hbind s (.ref a)) (.cons rfl .nil) (hsp H T.seq)) fun r s' h => ?_
  cases r with
  | error e => exact False.elim h
  | ok fl =>
    cases fl with
    | next => exact False.elim h
    | brk => exact False.elim h
    | cont => exact False.elim h
    | ret u =>
      obtain ⟨v, H', os, bare, un, hok', r', q⟩ := h
      obtain rfl : v = .bl true := q
      obtain rfl : u = Value.bool true := r'
      refine ⟨rfl, OldK.of_keep fun b o e => ?_, os, bare⟩
      rcases T.only b with z | ⟨ob, xs, z⟩
      · exact un.keep b o e z (fun q => absurd (show b ∈ ([] : List Addr) from q) List.not_mem_nil) List.not_mem_nil
      · obtain ⟨e1, _⟩ := T.hok b _ z
        obtain ⟨e2, _⟩ := hok' b _ (un.frzs b ob _ z)
        rw [← Option.some.inj (e1.symm.trans e)]
        exact e2
/-- the walk behind the head -/
theorem walkG {l : PySem.W.OpenLaw} {n k : Nat} {q : Program} {loose : List Str} {XP : (Str → Option Value) → Heap → Prop} {YP : World → Heap → Prop} {d : DefRec} {x : Str} (hm : l.most = some n) (hn2 : n ≤ sizeLine) (hdf : d.params.defaults = []) (hr : Room k callerA) (hn : NoRep callerA)
    (F : ∀ (w : World) (mg : Str → Option Value) (fa : Addr) (h : Heap), YP w h → h.Ns mainGlobals mg → mg d.name = some (.ref fa) →
      ∃ (K : PySem.W.Frag) (fd : FuncData) (sp : Sp), K.In h ∧ (∀ (s : Shared) (u : Value), BindsTo s fd ⟨[u], []⟩ [(x, u)]) ∧ (∀ (H : Hp) (a : Addr) (ns : List Int), SqL K H a (ns.map V.int) → sp [.ref a] H (fun v _ => v = .bl true) E0) ∧ ∀ base : Heap, FnG l.prog w K mg base k fa fd [x] sp) :
    PySem.W.WalkO q loose XP YP l.row.toRowW d [] (fun f vs => PySem.call f vs) := by
  refine Att.attach_call hm hdf fun w s₀ s₁ mg mb fa o pm cd doc a vs ns G Y ho hd hcd hmg hobj hints hlen hg => ?_
  obtain ⟨K, fd, sp, KX, hb, hsp, hF⟩ := F w mg fa _ Y G.T.g hmg
  exact lawG KX G.T.g G.T.b G.T.builtins G.T.nolimit hg hobj hints (Nat.le_trans hlen hn2) hr hn hF hb fun H hS => hsp H a ns hS
end Xh
/-! Own ground: the words of a text, sign by sign. -/
namespace Ya
open PySem
/-- the text with blanks in the places of line ends -/
def flat (z : Str) : Str := Txt.replace z ⟨#[10]⟩ ⟨#[32]⟩
/-- all parts between blanks -/
def partsOf (z : Str) : List Str := Txt.split (flat z) ⟨#[32]⟩
def full (w : Str) : Bool := !decide (w = Str.empty)
def wdsOf (z : Str) : List Str := (partsOf z).filter full
abbrev sg (z : Str) : List Nat := z.cps.toList
theorem sg_append (x y : Str) : sg (x ++ y) = sg x ++ sg y := by
  show (x.cps ++ y.cps).toList = _
  rw [Array.toList_append]
theorem mem_join {g : Str} {c : Nat} : ∀ {ps : List Str}, c ∈ sg (Str.join g ps) → c ∈ sg g ∨ ∃ p ∈ ps, c ∈ sg p
  | [], h => by
    have h : c ∈ ([] : List Nat) := h
    cases h
  | [p], h => .inr ⟨p, List.mem_cons_self, h⟩
  | p :: q :: r, h => by
    have h : c ∈ sg (p ++ g ++ Str.join g (q :: r)) := h
    rw [sg_append, sg_append, List.mem_append, List.mem_append] at h
    rcases h with (h | h) | h
    · exact .inr ⟨p, List.mem_cons_self, h⟩
    · exact .inl h
    · rcases mem_join h with h | ⟨s, hs, h⟩
      · exact .inl h
      · exact .inr ⟨s, List.mem_cons_of_mem _ hs, h⟩
theorem join_mem {g : Str} {c : Nat} : ∀ {ps : List Str} {p : Str}, p ∈ ps → c ∈ sg p → c ∈ sg (Str.join g ps)
  | [], p, h, _ => nomatch h
  | [q], p, h, hc => by
    obtain rfl : p = q := by simpa using h
    exact hc
  | q :: s :: r, p, h, hc => by
    show c ∈ sg (q ++ g ++ Str.join g (s :: r))
    rw [sg_append, sg_append, List.mem_append, List.mem_append]
    rcases List.mem_cons.mp h with rfl | h
    · exact .inl (.inl hc)
    · exact .inr (join_mem h hc)
theorem len_join (g : Str) : ∀ (ps : List Str), (sg (Str.join g ps)).length + (sg g).length = (ps.map fun p => (sg p).length).sum + ps.length * (sg g).length + (if ps = [] then (sg g).length else 0)
  | [] => by
    show ([] : List Nat).length + _ = _
    simp
  | [p] => by
    show (sg p).length + _ = _
    simp
  | p :: q :: r => by
    have ih := len_join g (q :: r)
    have e : sg (Str.join g (p :: q :: r)) = sg p ++ sg g ++ sg (Str.join g (q :: r)) := by
      show sg (p ++ g ++ Str.join g (q :: r)) = _
      rw [sg_append, sg_append]
    rw [e, List.length_append, List.length_append, List.map_cons, List.sum_cons, List.length_cons (as := q :: r), Nat.add_mul, Nat.one_mul]
    simp only [reduceCtorEq, if_false] at ih ⊢
    omega
theorem flat_eq (z : Str) : flat z = Str.join ⟨#[32]⟩ (Txt.split z ⟨#[10]⟩) := StrLaws.replace_one z _ 10
theorem flat_len (z : Str) : (flat z).length = z.length := by
  have a := len_join ⟨#[32]⟩ (Txt.split z ⟨#[10]⟩)
  have b := len_join ⟨#[10]⟩ (Txt.split z ⟨#[10]⟩)
  rw [StrLaws.join_split] at b
  rw [← flat_eq] at a
  have e1 : (sg ⟨#[32]⟩).length = 1 := rfl
  have e2 : (sg ⟨#[10]⟩).length = 1 := rfl
  rw [e1] at a
  rw [e2] at b
  have : (sg (flat z)).length = (sg z).length := by omega
  simpa [Str.length] using this
theorem mem_flat {z : Str} {c : Nat} (h : c ∈ sg z) : c = 10 ∨ c ∈ sg (flat z) := by
  have e := StrLaws.join_split z ⟨#[10]⟩
  rw [← e] at h
  rcases mem_join h with h | ⟨p, hp, h⟩
  · left
    have h : c ∈ [10] := h
    simpa using h
  · right
    rw [flat_eq]
    exact join_mem hp h
theorem flat_mem {z : Str} {c : Nat} (h : c ∈ sg (flat z)) : c = 32 ∨ (c ≠ 10 ∧ c ∈ sg z) := by
  rw [flat_eq] at h
  rcases mem_join h with h | ⟨p, hp, h⟩
  · left
    have h : c ∈ [32] := h
    simpa using h
  · right
    refine ⟨fun q => ?_, ?_⟩
    · subst q
      exact StrLaws.split_free z 10 p hp h
    · rw [← StrLaws.join_split z ⟨#[10]⟩]
      exact join_mem hp h
theorem ne_of_mem {w : Str} {c : Nat} (h : c ∈ sg w) : full w = true := by
  unfold full
  by_cases e : w = Str.empty
  · rw [e] at h
    have h : c ∈ ([] : List Nat) := h
    cases h
  · rw [decide_eq_false e]
    rfl
theorem mem_words {z : Str} {c : Nat} (h : c ∈ sg z) : c = 10 ∨ c = 32 ∨ ∃ w ∈ wdsOf z, c ∈ sg w := by
  rcases mem_flat h with h | h
  · exact .inl h
  · right
    rw [← StrLaws.join_split (flat z) ⟨#[32]⟩] at h
    rcases mem_join h with h | ⟨p, hp, h⟩
    · left
      have h : c ∈ [32] := h
      simpa using h
    · exact .inr ⟨p, List.mem_filter.mpr ⟨hp, ne_of_mem h⟩, h⟩
theorem words_mem {z w : Str} {c : Nat} (hw : w ∈ wdsOf z) (h : c ∈ sg w) : c ≠ 10 ∧ c ≠ 32 ∧ c ∈ sg z := by
  obtain ⟨hp, _⟩ := List.mem_filter.mp hw
  have n32 : c ≠ 32 := fun q => by
    subst q
    exact StrLaws.split_free (flat z) 32 w hp h
  have h2 : c ∈ sg (flat z) := by
    rw [← StrLaws.join_split (flat z) ⟨#[32]⟩]
    exact join_mem hp h
  rcases flat_mem h2 with q | ⟨q, r⟩
  · exact absurd q n32
  · exact ⟨q, n32, r⟩
theorem words_pos {z w : Str} (hw : w ∈ wdsOf z) : 0 < w.length := by
  obtain ⟨_, h⟩ := List.mem_filter.mp hw
  rcases Nat.eq_zero_or_pos w.length with e | e
  · have : w = Str.empty := by
      obtain ⟨a⟩ := w
      have e : a.size = 0 := e
      show Str.mk a = Str.mk #[]
      rw [Array.eq_empty_of_size_eq_zero e]
    rw [this] at h
    simp [full] at h
  · exact e
theorem parts_weight (z : Str) : ((partsOf z).map fun p => p.length).sum + (partsOf z).length ≤ z.length + 1 := by
  have h := PyProof.Rows.split_weight (flat z) ⟨#[32]⟩ (by decide)
  rw [flat_len] at h
  exact h
theorem sum_ge : ∀ {ps : List Str} {p : Str}, p ∈ ps → p.length ≤ (ps.map fun p => p.length).sum
  | [], p, h => nomatch h
  | q :: r, p, h => by
    rw [List.map_cons, List.sum_cons]
    rcases List.mem_cons.mp h with rfl | h
    · omega
    · have := sum_ge h
      omega
theorem parts_le {z p : Str} (h : p ∈ partsOf z) : p.length ≤ z.length := by
  have a := parts_weight z
  have b := sum_ge h
  have c : 1 ≤ (partsOf z).length := PyProof.Rows.split_pos _ _
  omega
theorem parts_few (z : Str) : (partsOf z).length ≤ z.length + 1 := by
  have a := parts_weight z
  omega
end Ya
/-! Own ground: a comprehension over what is made with fresh texts (tokens told from the start). -/
namespace Yb
open PySem PySem.Spec PyProof.Rows L2
section
variable {X : Cx} {pins : List (Addr × Obj)} {s : Shared} {σ : L2.St} {H : Hp} {Q : VK} {elt tg iter : Expr} {ifs : List Expr} {scope : Scope} {own : List (Str × Nat)} {pos pos' : Pos} {wi : TI} {g : TG} {tt : TT} {te : TE} {use : Option (Value → Sem Unit)} {Qf : Value → Shared → Prop}
theorem comp_tok (hc : X.calm = true) (hN : X.N.Nodup) (h0 : 1 ≤ s.toks) (I : Inv X pins σ H s) (hi : PIT X tg iter wi) (ok : BlkOk X.N X.env.scope scope own)
    (hg : ∀ s H C cl fp, PG (X.blk s H scope (compEnvC scope cl C X.env) fp) tg g) (ht : ∀ s H C cl fp, PTs (X.blk s H scope (compEnvC scope cl C X.env) fp) ifs tt) (he : ∀ s H C cl fp, PE (X.blk s H scope (compEnvC scope cl C X.env) fp) elt te)
    (hs : ∀ x : Value, foldedSetIterable iter X.env x = pure x) (h : tLc wi g tt te (own.map (·.2)) σ H Q)
    (fin : ∀ (D C : Addr) (s' : Shared) (m : Str → Option Value) (H' : Hp), Inv X pins σ H' s' → Q (.ref D) H' → s'.heap.Ns C m → FpOk X pins H' C → compPost (model X.prog X.w) X.A X.xe use Qf (.ref D) C (.ok .next) s') :
    wpAny (model X.prog X.w) X.A (comprehension (.ListComp elt [⟨tg, iter, ifs, 0⟩] scope pos) scope X.env pos' (newList []) false (eval iter X.env) use) Qf X.xe s := by
  have hfree : ∀ y ∈ scope.names, y.2 = .free → ∃ c, X.env.cells.lookup y.1 = some c := fun y hy e => (ok.free y hy e).elim (fun k => I.ok.has y.1 (.inl k)) fun k => I.ok.has y.1 (.inr k)
  refine wpAny_comprehension_free rfl hs (closure_ok hfree) ok.kind (fun y hy e => by rw [ok.uniq y hy, e]) ?_
  refine thn (hi pins s σ H _ h0 I h) fun xv s1 hx => thn hx fun itv s2 h2 => ?_
  obtain ⟨it, fp, tn, J, H2, rfl, I2, T, st2, f2, q⟩ := h2
  refine wpAny_newObj_type ?_
  have hDn : H2 s2.heap.objs.size = none := I2.hok.fresh (Nat.le_refl _)
  obtain ⟨W, ⟨m0, w0⟩, turn⟩ := q s2.heap.objs.size hDn
  refine newEnv_comp ?_
  have I3 : Inv X pins σ (upd H2 s2.heap.objs.size (.lst [])) { s2 with heap := s2.heap.push { cls := .type "list", data := .seq #[] } } :=
    I2.laid (t' := s2.toks) (fun b o e => Heap.get?_push_of_some _ e) (Nat.le_refl _) ⟨Nat.zero_le _, [], 0, .nil, Heap.get?_push_size _ rfl⟩
  have sz : ∀ b ∈ fp, b < s2.heap.objs.size := fun b hb => by
    obtain ⟨o, e, _⟩ := T.obj 0 s2.heap st2 b hb
    exact Heap.lt_size e
  have f3 : ∀ b ∈ fp, FpOk X pins (upd H2 s2.heap.objs.size (.lst [])) b ∧ b < (s2.heap.push { cls := .type "list", data := .seq #[] }).objs.size := fun b hb => by
    have lt := sz b hb
    refine ⟨⟨by rw [upd_ne (Nat.ne_of_lt lt)]; exact (f2 b hb).1, (f2 b hb).2⟩, ?_⟩
    rw [Heap.size_push]
    exact Nat.lt_succ_of_lt lt
  have st3 : tn 0 (s2.heap.push { cls := .type "list", data := .seq #[] }) := T.keep 0 s2.heap _ st2 fun b _ o e => Heap.get?_push_of_some _ e
  have I4 := block_start I3 ok hN f3
  have st4 : tn 0 (pushCells ((s2.heap.push { cls := .type "list", data := .seq #[] }).push { cls := .type "dict", data := .dict #[] }) scope.names) := T.keep 0 _ _ st3 fun b _ o e => pushCells_keeps _ _ b o (Heap.get?_push_of_some _ e)
  have pg := hg { s2 with heap := s2.heap.push { cls := .type "list", data := .seq #[] } } (upd H2 s2.heap.objs.size (.lst [])) (s2.heap.push { cls := .type "list", data := .seq #[] }).objs.size (cellsFrom ((s2.heap.push { cls := .type "list", data := .seq #[] }).objs.size + 1) scope.names (cloFrom X.env.cells scope.names [])) fp
  have pt := ht { s2 with heap := s2.heap.push { cls := .type "list", data := .seq #[] } } (upd H2 s2.heap.objs.size (.lst [])) (s2.heap.push { cls := .type "list", data := .seq #[] }).objs.size (cellsFrom ((s2.heap.push { cls := .type "list", data := .seq #[] }).objs.size + 1) scope.names (cloFrom X.env.cells scope.names [])) fp
  have pe := he { s2 with heap := s2.heap.push { cls := .type "list", data := .seq #[] } } (upd H2 s2.heap.objs.size (.lst [])) (s2.heap.push { cls := .type "list", data := .seq #[] }).objs.size (cellsFrom ((s2.heap.push { cls := .type "list", data := .seq #[] }).objs.size + 1) scope.names (cloFrom X.env.cells scope.names [])) fp
  have nfp : ∀ b ∈ fp, (upd H2 s2.heap.objs.size (.lst [])) b = none := fun b hb => (f3 b hb).1.1
  have key : ∀ ce : Env, Inv (X.blk { s2 with heap := s2.heap.push { cls := .type "list", data := .seq #[] } } (upd H2 s2.heap.objs.size (.lst [])) scope ce fp) [] (wipe σ (own.map (·.2))) (upd H2 s2.heap.objs.size (.lst [])) { s2 with heap := pushCells ((s2.heap.push { cls := .type "list", data := .seq #[] }).push { cls := .type "dict", data := .dict #[] }) scope.names } →
      PG (X.blk { s2 with heap := s2.heap.push { cls := .type "list", data := .seq #[] } } (upd H2 s2.heap.objs.size (.lst [])) scope ce fp) tg g → PTs (X.blk { s2 with heap := s2.heap.push { cls := .type "list", data := .seq #[] } } (upd H2 s2.heap.objs.size (.lst [])) scope ce fp) ifs tt →
      PE (X.blk { s2 with heap := s2.heap.push { cls := .type "list", data := .seq #[] } } (upd H2 s2.heap.objs.size (.lst [])) scope ce fp) elt te → ce.locals = (s2.heap.push { cls := .type "list", data := .seq #[] }).objs.size →
      codeAny (model X.prog X.w) X.A (.compStart (.ListComp elt [⟨tg, iter, ifs, 0⟩] scope pos) 0 (.ref it) (.ref s2.heap.objs.size) ce) (compPost (model X.prog X.w) X.A X.xe use Qf (.ref s2.heap.objs.size) (s2.heap.push { cls := .type "list", data := .seq #[] }).objs.size)
        { s2 with heap := pushCells ((s2.heap.push { cls := .type "list", data := .seq #[] }).push { cls := .type "dict", data := .dict #[] }) scope.names } := by
    intro ce I4 pg pt pe cL
    have stat : ∀ {σ' : L2.St} {H' : Hp} {s' : Shared}, Inv (X.blk { s2 with heap := s2.heap.push { cls := .type "list", data := .seq #[] } } (upd H2 s2.heap.objs.size (.lst [])) scope ce fp) [] σ' H' s' → (∀ b ∈ fp, H' b = none) → ∀ b ∈ fp, FpOk (X.blk { s2 with heap := s2.heap.push { cls := .type "list", data := .seq #[] } } (upd H2 s2.heap.objs.size (.lst [])) scope ce fp) [] H' b :=
      fun I' hn b hb => ⟨hn b hb, (I'.ok.exf b hb).1, I'.ok.exfs b hb, .inl hb, fun x c e => (I'.ok.exf b hb).2 x c e, fun p hp => by cases hp⟩
    have loop : codeAny (model X.prog X.w) X.A (.compLoop (.ListComp elt [⟨tg, iter, ifs, 0⟩] scope pos) 0 (.ref it) (.ref s2.heap.objs.size) ce) (compPost (model X.prog X.w) X.A X.xe use Qf (.ref s2.heap.objs.size) (s2.heap.push { cls := .type "list", data := .seq #[] }).objs.size)
        { s2 with heap := pushCells ((s2.heap.push { cls := .type "list", data := .seq #[] }).push { cls := .type "dict", data := .dict #[] }) scope.names } := by
      refine compLoop_any (fun n s' => ∃ i H', Inv (X.blk { s2 with heap := s2.heap.push { cls := .type "list", data := .seq #[] } } (upd H2 s2.heap.objs.size (.lst [])) scope ce fp) [] (wipe σ (own.map (·.2))) H' s' ∧ tn i s'.heap ∧ (∀ b ∈ fp, H' b = none) ∧ W i n H') (fun n s5 a => ?_) m0 ⟨0, _, I4, st4, nfp, w0⟩
      obtain ⟨i, H5, I5, st5, n5, w5⟩ := a
      rcases turn i n H5 w5 with ⟨stop, qq⟩ | ⟨go, Nx, hNx, step⟩
      · refine thnF (T.done (X.blk { s2 with heap := s2.heap.push { cls := .type "list", data := .seq #[] } } (upd H2 s2.heap.objs.size (.lst [])) scope ce fp) rfl rfl rfl hc i [] s5 _ H5 (fun _ _ => False) I5 (stat I5 n5) st5 stop) fun r s6 z => ?_
        obtain ⟨rfl, I6⟩ := z
        have I7 : Inv X pins σ H5 s6 := I3.call' I6.os I6.base I6.hok I6.bare fun b hb => ⟨(f3 b hb).1.2.2.2.1, (f3 b hb).1.2.1, (f3 b hb).1.2.2.2.2.1, (f3 b hb).1.2.2.2.2.2⟩
        obtain ⟨m, hn, _⟩ := I6.loc
        have hn : s6.heap.Ns ce.locals m := hn
        have nC : H5 ce.locals = none := I6.free
        rw [cL] at hn nC
        exact fin _ _ s6 m H5 I7 qq hn (I3.fpOk (Nat.le_refl _) nC)
      · refine thnF (T.item (X.blk { s2 with heap := s2.heap.push { cls := .type "list", data := .seq #[] } } (upd H2 s2.heap.objs.size (.lst [])) scope ce fp) rfl rfl rfl hc i [] s5 _ H5 (fun _ _ => False) I5 (stat I5 n5) st5 go) fun r s6 z => ?_
        obtain ⟨u, rfl, h6⟩ := z
        refine thnF h6 fun _ s7 z => ?_
        obtain ⟨x, H7, I7, r7, y7, st7, n7⟩ := z
        have I7' := I7.pinned (stat I7 n7) (T.obj (i + 1) s7.heap st7)
        refine thnF (pg.run _ s7 _ H7 x u _ I7' r7 (step x H7 y7)) fun _ s8 z => ?_
        obtain ⟨σ8, H8, I8, hw8, q8⟩ := z
        refine thnF (pt.run _ s8 σ8 H8 _ I8 q8) fun b s9 z => ?_
        obtain ⟨H9, I9, q9⟩ := z
        have fin2 : ∀ {s' : Shared} {H' : Hp}, Inv (X.blk { s2 with heap := s2.heap.push { cls := .type "list", data := .seq #[] } } (upd H2 s2.heap.objs.size (.lst [])) scope ce fp) ([] ++ pinsAt fp s7.heap) σ8 H' s' → Nx H' →
            ∃ m, m < n ∧ ∃ i H', Inv (X.blk { s2 with heap := s2.heap.push { cls := .type "list", data := .seq #[] } } (upd H2 s2.heap.objs.size (.lst [])) scope ce fp) [] (wipe σ (own.map (·.2))) H' s' ∧ tn i s'.heap ∧ (∀ b ∈ fp, H' b = none) ∧ W i m H' := fun {s' H'} I' nx => by
          obtain ⟨m', hm, w'⟩ := hNx H' nx
          have pin' : ∀ b ∈ fp, ∀ o, s7.heap.get? b = some o → s'.heap.get? b = some o ∧ H' b = none := fun b hb o e => by
            have z := I'.pin (b, o) (List.mem_append_right _ (List.mem_append_right _ (mem_pinsAt hb e)))
            exact ⟨z.1, z.2.1⟩
          refine ⟨m', hm, i + 1, H', I'.unpinned.weak ?_ (fun j v e => ?_), T.keep (i + 1) s7.heap s'.heap st7 fun b hb o e => (pin' b hb o e).1, fun b hb => ?_, w'⟩
          · rw [← hw8, wipe_length]
          · rw [← hw8] at e
            exact (wipe_some e).1
          · obtain ⟨o, e, _⟩ := T.obj (i + 1) s7.heap st7 b hb
            exact (pin' b hb o e).2
        cases b with
        | false =>
          rw [if_neg Bool.false_ne_true] at q9 ⊢
          exact fin2 I9 q9
        | true =>
          rw [if_pos rfl] at q9 ⊢
          refine thnF (pe.run _ s9 σ8 H9 _ I9 q9) fun yv s10 z => ?_
          obtain ⟨y, H10, I10, r10, acc, hD10, hz10, nx⟩ := z
          exact app_ok (X := (X.blk { s2 with heap := s2.heap.push { cls := .type "list", data := .seq #[] } } (upd H2 s2.heap.objs.size (.lst [])) scope ce fp)) I10 hD10 hz10 r10 fun s11 I11 => fin2 I11 nx
    exact codeAny_compStart_list loop (T.self X.A 0 _ _ _ st4 loop)
  exact key _ I4 pg pt pe rfl
theorem pet_lc (hc : X.calm = true) (hN : X.N.Nodup) (hi : PIT X tg iter wi) (ok : BlkOk X.N X.env.scope scope own)
    (hg : ∀ s H C cl fp, PG (X.blk s H scope (compEnvC scope cl C X.env) fp) tg g) (ht : ∀ s H C cl fp, PTs (X.blk s H scope (compEnvC scope cl C X.env) fp) ifs tt) (he : ∀ s H C cl fp, PE (X.blk s H scope (compEnvC scope cl C X.env) fp) elt te)
    (hs : ∀ x : Value, foldedSetIterable iter X.env x = pure x := by intro _; rfl) : PET X (.ListComp elt [⟨tg, iter, ifs, 0⟩] scope pos) (tLc wi g tt te (own.map (·.2))) := by
  intro pins s σ H Q h0 I h
  rw [eval_ListComp]
  refine comp_tok hc hN h0 I hi ok hg ht he hs h fun D C s' m H' I' q hn f => ⟨m, hn, fun h'' sb => ⟨.ref D, H', ?_, rfl, q⟩⟩
  obtain ⟨f0, f1, f2, f3, f4, f5⟩ := f
  exact I'.turned (fun b o hb e => (sb.2 b hb).trans e) f0 f1 f3 f4 f5
theorem pst_setLc {i : Nat} {y : Str} {py spos : Pos} (hc : X.calm = true) (hN : X.N.Nodup) (hy : X.N[i]? = some y) (hyl : X.env.scope.names.lookup y = some .local)
    (hsw : swapsWith (.ListComp elt [⟨tg, iter, ifs, 0⟩] scope pos) (some (.Name y py)) spos.line X.env = pure true) (hi : PIT X tg iter wi) (ok : BlkOk X.N X.env.scope scope own)
    (hg : ∀ s H C cl fp, PG (X.blk s H scope (compEnvC scope cl C X.env) fp) tg g) (ht : ∀ s H C cl fp, PTs (X.blk s H scope (compEnvC scope cl C X.env) fp) ifs tt) (he : ∀ s H C cl fp, PE (X.blk s H scope (compEnvC scope cl C X.env) fp) elt te)
    (hs : ∀ x : Value, foldedSetIterable iter X.env x = pure x := by intro _; rfl) : PST X (.Assign [.Name y py] (.ListComp elt [⟨tg, iter, ifs, 0⟩] scope pos) spos) (tAsg (tLc wi g tt te (own.map (·.2))) (gName i)) := by
  intro pins s σ H D h0 I h
  rw [exec_Assign_Name_used y py _ spos hsw]
  refine wpAny_bind (wpAny_standAt (wpAny_bind ?_))
  refine wpAny_bind (thn (comp_tok hc hN h0 I hi ok hg ht he hs h fun L C s' m H' I' q hn f => ?_) fun _ s' hq => wpAny_pure (wpAny_pure hq))
  refine wpAny_assign_Name (store_ok2 (v := .ref L) I' hN hy (.inl hyl) rfl (fun s2 I2 z => ?_) (.inr hyl))
  obtain ⟨a, sb, ha⟩ := z
  obtain ⟨f0, f1, f2, f3, f4, f5⟩ := f
  have haC : C ≠ a := ha.elim (fun z => by rw [z]; exact f1) fun z e => f4 y a z e.symm
  exact ⟨m, hn.sameBut sb haC, fun h3 sb3 => ⟨_, H', I2.turned (fun b o hb e => (sb3.2 b hb).trans e) f0 f1 f3 f4 f5, q⟩⟩
end
end Yb
/-! Own ground: split of fresh texts, a text turned round, enumerate over a text. -/
namespace Yc
open PySem PySem.Spec PyProof.Rows L2
section
variable {X : Cx} {o e : Expr} {to te : TE} {apos pos : Pos}
/-- o.split(e), o told with tokens -/
theorem pet_split (ho : PET X o to) (he : PE X e te) (hs : starEach [e] X.env = [(false, eval e X.env)] := by rfl) (hb : attributeBase o "split" X.env (eval o X.env) = eval o X.env := by rfl) (hl : (apos.endLine == pos.line) = true := by rfl) :
    PET X (.Call (.Attribute o "split" apos) [e] [] pos) (tM1 (fun x xs H Q => ∃ a b, x = .str a ∧ xs = [.str b] ∧ (b.length == 0) = false ∧ a.length + 2 ≤ sizeLine ∧ rNewStrs (Txt.split a b) H Q) to te) := by
  intro pins s σ H Q h0 I h
  refine Call_method1 hb hs hl (thn (ho pins s σ H _ h0 I h) fun v s1 z => ?_)
  obtain ⟨x, H1, I1, r1, ⟨a, rfl⟩, q1⟩ := z
  obtain ⟨t, rfl⟩ := r1
  refine ⟨"str", _, PySem.F.plainAttrs_str, PySem.F.slot_str_split, PySem.F.type_str_split, typeIs_str s1 a t, (fun x e => nomatch e), ?_⟩
  refine Calls.callWith_builtin (args := [(false, eval e X.env)]) rfl (Calls.evalArgs_plain (Calls.spliced_cons (thn (he.run pins s1 σ H1 _ I1 q1) fun u s2 z => ?_)))
  obtain ⟨y, H2, I2, r2, q2⟩ := z
  exact Calls.spliced_nil (mt_split pins s2 σ H2 (.str a) [y] (.str a t) [u] Q I2 ⟨t, rfl⟩ (.cons r2 .nil) q2)
/-- a text from its end: told by its length alone -/
def tRevS (te : TE) : TE := fun σ H Q => te σ H fun x H1 => ∃ z : Str, x = .str z ∧ z.length ≤ 16777216 ∧ ∀ y : Str, y.length ≤ z.length → (∀ c ∈ y.cps.toList, c ∈ z.cps.toList) → Q (.str y) H1
theorem rev_len (z : Str) : (Builtin.Str.strSliceIndices none none (-1) z.length).length ≤ z.length := by
  unfold Builtin.Str.strSliceIndices sliceRange
  simp only [List.length_map, List.length_range]
  have h1 : ¬ ((-1 : Int) > 0) := by decide
  simp only [h1, if_false]
  split
  · have e : ((z.length : Int) - 1 - -1 - -1 - 1) / - -1 = z.length := by
      show ((z.length : Int) - 1 - -1 - -1 - 1) / 1 = _
      rw [Int.ediv_one]
      omega
    rw [e]
    omega
  · exact Nat.zero_le _
theorem pe_revS {k : Nat} {p1 p2 p3 : Pos} (he : PE X e te) : PE X (.Subscript e (.Slice none none (some (.UnaryOp .USub (.Constant (.int 1) k p1) p2)) p3) pos) (tRevS te) := by
  refine ⟨fun pins s σ H Q I h => PyProof.Rows.Subscript_ (thn (he.run pins s σ H _ I h) fun v s1 z => ?_)⟩
  obtain ⟨x, H1, I1, r1, z, rfl, zl, q⟩ := z
  obtain ⟨t, rfl⟩ := r1
  refine wpAny_Slice ?_
  rw [evalPart_none]
  refine wpAny_pure (wpAny_pure ?_)
  have hst := po_some (X := X) (pe_un un_neg (pe_int (X := X) (i := 1) (j := k) (pos := p1)) (pos := p2))
  refine thn (hst.run pins s1 σ H1 (fun o H4 => o = some (-1) ∧ H4 = H1) I1 ⟨1, rfl, -1, rfl, rfl, rfl⟩) fun vs s4 w => ?_
  obtain ⟨o, H4, I4, ps, rfl, rfl⟩ := w
  obtain ⟨tv, rfl⟩ : ∃ tv, vs = .int (-1) tv := by
    cases ps
    exact ⟨_, rfl⟩
  have I5 : Inv X pins σ H4 { s4 with heap := s4.heap.push { cls := .type "slice", data := .fields #[.none, .none, .int (-1) tv] } } := I4.kept fun b ob q => Heap.get?_push_of_some _ q
  have sl : (s4.heap.push { cls := .type "slice", data := .fields #[.none, .none, .int (-1) tv] }).IsSlice s4.heap.objs.size none none (some (-1, tv)) := ⟨_, Heap.get?_push_size _ rfl, rfl, rfl⟩
  refine tail_any (typeIs_str _ z t) PySem.F.slot_str_getitem.lookup (wpAny_getItem_str_slice sl (by rfl) ?_) rfl
  have len : ((slicePicked z none none (some (-1, tv))).filterMap fun i => z.cps[i]?).length ≤ z.length := Nat.le_trans (List.length_filterMap_le _ _) (rev_len z)
  unfold sliceMade
  rw [if_neg (by simp)]
  refine ⟨Nat.le_trans ?_ zl, .str _, H4, I5.tok _, ⟨_, rfl⟩, q _ ?_ fun c hc => ?_⟩
  · show (List.toArray _).size ≤ _
    rw [List.size_toArray]
    exact len
  · show (List.toArray _).size ≤ _
    rw [List.size_toArray]
    exact len
  · have hc : c ∈ (slicePicked z none none (some (-1, tv))).filterMap fun i => z.cps[i]? := hc
    obtain ⟨i, _, e⟩ := List.mem_filterMap.mp hc
    exact Array.mem_toList_iff.mpr (Array.mem_of_getElem? e)
/-! ### enumerate(text) -/
def Iten (z : Str) : It := ⟨fun i _ => i < z.cps.size, fun i H v H' => ∃ T c, v = .ref T ∧ H T = none ∧ z.cps[i]? = some c ∧ H' = upd H T (.tup [.int (i : Int), .str ⟨#[c]⟩]), fun i _ => z.cps.size ≤ i⟩
theorem strIter_or (z : Str) : strIterType z = "str_ascii_iterator" ∨ strIterType z = "str_iterator" := by
  unfold strIterType
  split
  · exact .inl rfl
  · exact .inr rfl
theorem draws_str {P : Program} {w : World} {A : Around} (h : A.handled = none) (it : Addr) (z : Str) (t : Tok) : Draws P w A it [it] z.cps.size (fun i v => ∃ c u, z.cps[i]? = some c ∧ v = .str ⟨#[c]⟩ u) fun i h => h.IsStrIter it (strIterType z) z t i := by
  rcases strIter_or z with e | e
  · rw [e]
    exact Draws.strAscii h it z t
  · rw [e]
    exact Draws.strWide h it z t
theorem turn_enumS {P : Program} {w : World} {K : PySem.W.Frag} {elts : List Expr} {kk : Nat} {tpos : Pos} (e it : Addr) (z : Str) (t : Tok) (ne : e ≠ it) :
    Turn P w K (.Tuple elts kk tpos) (Iten z) [e, it] e fun i h => i ≤ z.cps.size ∧ (∃ old, IsEnum h e it (i : Int) old) ∧ h.IsStrIter it (strIterType z) z t i := by
  have WT : ∀ A : Around, A.handled = none → _ := fun A hA => WalksT.enumerateD (draws_str (P := P) (w := w) (A := A.in1) hA it z t) e ne (by simpa using ne) (by simp)
  refine ⟨by simp, fun i h st b hb => ?_, fun i h h' st k => ?_, fun X hP hw hK hc i pins s σ H E I hf st hg => ?_, fun X hP hw hK hc i pins s σ H E I hf st hg => ?_, fun A i s Q E st h => ?_⟩
  · obtain ⟨_, ⟨old, he⟩, o, ho, hcl, hd⟩ := st
    rcases (by simpa using hb : b = e ∨ b = it) with rfl | rfl
    · exact ⟨_, he, fun v q => nomatch q⟩
    · exact ⟨o, ho, fun v q => by rw [hd] at q; cases q⟩
  · obtain ⟨hi, ⟨old, he⟩, o, ho, r⟩ := st
    exact ⟨hi, ⟨old, k e (by simp) _ he⟩, o, k it (by simp) o ho, r⟩
  · subst hP hw
    have W := WT X.A (I.ok.hd hc)
    refine W.item i s _ E hg st.2 fun T vals h' tk hv hT ht hm hk => ⟨_, rfl, W.go elts kk tpos i T _ _ E hm fun h'' st2 hk2 => ?_⟩
    obtain ⟨tv, x, ⟨c, u, hc2, rfl⟩, rfl⟩ := hv
    obtain ⟨_, _, Te, Ti⟩ := hm
    have lt : ∀ b ∈ [e, it], b < s.heap.objs.size := fun b hb => by
      obtain ⟨_, ⟨old, he⟩, o, ho, _⟩ := st
      rcases (by simpa using hb : b = e ∨ b = it) with rfl | rfl
      · exact Heap.lt_size he
      · exact Heap.lt_size ho
    obtain ⟨ot, e1, e2, n, e3⟩ := ht
    have hT2 : h''.get? T = some ot := hk2 T ot (by simp [Te, Ti]) e1
    have new : ObjOk X.prog X.w (upd H T (.tup [.int (i : Int), .str ⟨#[c]⟩])) h'' T (.tup [.int (i : Int), .str ⟨#[c]⟩]) := ⟨(by show 2 ≤ sizeLine; decide), [.int i tv, .str ⟨#[c]⟩ u], .cons ⟨tv, rfl⟩ (.cons ⟨u, rfl⟩ .nil), ot, hT2, e2, n, e3⟩
    have I1 := I.turnedNew (t' := tk) (h' := h'') (ch := [e, it]) (fun b ob hb q => hk2 b ob hb (hk b ob hb q)) hf hT new
    refine ⟨.ref T, _, I1, rfl, ⟨T, c, rfl, I.hok.fresh hT, hc2, rfl⟩, ⟨hg, st2⟩, fun b hb => ?_⟩
    rw [upd_ne (Nat.ne_of_lt (Nat.lt_of_lt_of_le (lt b hb) hT))]
    exact (hf b hb).1
  · subst hP hw
    have W := WT X.A (I.ok.hd hc)
    have ei : i = z.cps.size := Nat.le_antisymm st.1 hg
    subst ei
    have lt : ∀ b ∈ [e, it], FpOk X pins H b := hf
    refine W.done s _ E st.2 fun h' tk hk => ⟨rfl, ?_⟩
    exact I.turnedL hk hf
  · obtain ⟨_, ⟨old, he⟩, _⟩ := st
    exact wpAny_pyIter_enum he h
def iEnumS (ta : TA) : TI := fun σ H R => ta σ H fun vs H1 => ∃ z, vs = [.str z] ∧ R (Iten z) H1
theorem pi_enumS {X : Cx} {e : Expr} {ta : TA} {p pos tpos : Pos} {elts : List Expr} {kk : Nat} (hg : Gl X "enumerate") (hm : X.mg "enumerate" = none) (ha : PA X [e] ta) (hs : starEach [e] X.env = [(false, eval e X.env)] := by rfl) :
    PI X (.Tuple elts kk tpos) (.Call (.Name "enumerate" p) [e] [] pos) (iEnumS ta) := by
  refine ⟨fun pins s σ H R I h => PyProof.Rows.Call_ (ld_blt I hg hm boot_enumerate (callWith_type1 (thn (ha.run pos pins s σ H _ I h) fun us s1 z => ?_) hs rfl) (by decide) (by decide))⟩
  obtain ⟨vs, H1, I1, r1, z, rfl, q⟩ := z
  cases r1 with
  | @cons _ u _ us r rr =>
    cases rr
    obtain ⟨t, rfl⟩ := r
    refine call_enumerate_str fun h' he hit hsz hk => wpAny_pyIter_enum he ⟨s1.heap.objs.size + 1, [s1.heap.objs.size + 1, s1.heap.objs.size], _, Iten z, H1, rfl, I1.kept hk, turn_enumS _ _ z t (Nat.succ_ne_self _), ⟨Nat.zero_le _, ⟨_, he⟩, hit⟩, fun b hb => ?_, q⟩
    rcases (by simpa using hb : b = s1.heap.objs.size + 1 ∨ b = s1.heap.objs.size) with rfl | rfl
    · exact I1.fpOk (Nat.le_succ _) (I1.hok.fresh (Nat.le_succ _))
    · exact I1.fpOk (Nat.le_refl _) (I1.hok.fresh (Nat.le_refl _))
theorem walk_enumS {z : Str} : Walk (Iten z) z.cps.size (fun _ => True) (fun i H v H' => ∃ T c, v = .ref T ∧ H T = none ∧ z.cps[i]? = some c ∧ H' = upd H T (.tup [.int (i : Int), .str ⟨#[c]⟩])) :=
  ⟨fun i H h _ => h, fun H _ => Nat.le_refl _, fun i H x H' _ _ y => y⟩
end
end Yc
/-! Own ground: defs whose bodies want tokens told. -/
namespace Yd
open PySem PySem.Spec PyProof.Rows L2 Xa
/-- as FnG, called where a token has been given out -/
structure FnT (P : Program) (w : World) (K : PySem.W.Frag) (mg : Str → Option Value) (base : Heap) (lev : Nat) (at_ : Addr) (fd : FuncData) (ps : List Str) (pr : Sp) : Prop where
  size : ∀ xs H Q E, pr xs H Q E → xs.length = ps.length
  go : ∀ (A : Around) (out : List Env) (st : Shared) (H : Hp) (ar : Args) (us : List Value) (xs : List V) (Q : VK) (E : XK), 1 ≤ st.toks → Room lev A → NoRep A →
    Env0 P w K mg base A out st H → BindsTo st fd ar (ps.zip us) → Vals xs us → pr xs H Q E → codeAny (model P w) A (.call (.ref at_) ar) (CR CX0 out P w H st Q E) st
def CanT (P : Program) (w : World) (K : PySem.W.Frag) (mg : Str → Option Value) (base : Heap) (lev : Nat) (x : Str) (ps : List Str) (pr : Sp) : Prop :=
  ∃ (f : Addr) (fd : FuncData), FnT P w K mg base lev f fd ps pr ∧ mg x = some (.ref f) ∧ PySem.W.keepIn K (.ref f) = true ∧ Binds K fd ps []
section
variable {P : Program} {w : World} {K : PySem.W.Frag} {mg : Str → Option Value} {base : Heap} {x qual : Str} {params : Arguments} {body : List Stmt} {scope : Scope} {dvs : List V} {kws : List (Str × V)} {at_ : Addr} {fd : FuncData}
theorem okT {N ps : List Str} {lev : Nat} {pr : Sp} (F : FunD K x qual params body scope dvs kws at_ fd) (S : FnScope N ps scope) (size : ∀ xs H Q E, pr xs H Q E → xs.length = ps.length)
    (hb : ∀ (cdv : Value) (A : Around) (out : List Env) (st : Shared) (H : Hp) (xs : List V) (Q : VK) (E : XK), Room lev (A.deeper (envOfC qual scope st.heap.objs.size at_ cdv)) → NoRep (A.deeper (envOfC qual scope st.heap.objs.size at_ cdv)) → pr xs H Q E →
      ∃ t, PSsT (cxOf CX0 P w K mg base N qual scope at_ cdv A out st H E) body t ∧ t { nx := fun _ H' => Q .non H', rt := Q } (start N xs) H) : FnT P w K mg base (lev + 1) at_ fd ps pr := by
  obtain ⟨oc, od, dV, kV, doc, pm, an, cdv, ct, osl, rfl, lk, hcd, _, _⟩ := F.ex
  refine ⟨size, fun A out st H ar us xs Q E h0 hr hn e0 bnd rel hp => ?_⟩
  have sz := size _ _ _ _ hp
  have inK : K.In st.heap := e0.mod.kin.keeps fun b o z => (e0.bs b o z).1
  have noLim : st.heap.NoLimit := e0.mod.nolimit.keeps fun b o z => (e0.bs b o z).1
  refine codeAny_call_function hr.depth (inK _ _ lk) rfl S.co S.gen rfl (PySem.W.codeRec_of inK hcd) (bnd _ _ _ _ ?_)
  refine wpAny_with_toks h0 ?_
  refine wpAny_newFunctionEnv_cells S.kind (fun ⟨n, v⟩ hy => ?_) fun env he s1 ic t1 => ?_
  · exact (S.par n (List.of_mem_zip hy).1).elim .inl fun z => .inr ⟨z, PySem.W.cellsFrom_some _ _ _ (.inl z)⟩
  subst he
  refine ⟨noLim.keeps ic.toInCall.keep, codeAny_func ?_⟩
  obtain ⟨t, ht, hq⟩ := hb cdv A out st H xs Q E (hr.deeper _) (hn.deeper _) hp
  have I : Inv (cxOf CX0 P w K mg base N qual scope at_ cdv A out st H E) [] (start N xs) H s1 := inv_start S hr.hd e0 sz rel ic
  refine wpAny_mono (ht [] s1 (start N xs) H _ t1 I hq) (fun fl s2 hs => ?_) fun e s2 hs => hs
  cases fl with
  | ret u => exact let ⟨v, _, H', J, rv, q⟩ := hs; ⟨v, H', J.os, J.bare, J.base, J.hok, rv, q⟩
  | next => exact let ⟨_, H', J, q⟩ := hs; ⟨V.non, H', J.os, J.bare, J.base, J.hok, rfl, q⟩
  | brk => exact let ⟨_, _, _, q⟩ := hs; False.elim q
  | cont => exact let ⟨_, _, _, q⟩ := hs; False.elim q
theorem okGT {N ps : List Str} {lev : Nat} {pr : Sp} (F : FunD K x qual params body scope dvs kws at_ fd) (S : FnScope N ps scope) (hnc : ∀ y ∈ scope.names, y.2 ≠ NameKind.cell) (one : 1 ≤ ps.length) (size : ∀ xs H Q E, pr xs H Q E → xs.length = ps.length)
    (hb : ∀ (cdv : Value) (A : Around) (out : List Env) (st : Shared) (H : Hp) (xs : List V) (Q : VK) (E : XK), Room lev (A.deeper (envOfC qual scope st.heap.objs.size at_ cdv)) → NoRep (A.deeper (envOfC qual scope st.heap.objs.size at_ cdv)) → pr xs H Q E →
      ∃ t, PSsT (cxOf CX0 P w K mg base N qual scope at_ cdv A out st H E) body t ∧ t { nx := fun _ H' => Q .non H', rt := Q } (start N xs) H) : FnG P w K mg base (lev + 1) at_ fd ps pr := by
  obtain ⟨oc, od, dV, kV, doc, pm, an, cdv, ct, osl, rfl, lk, hcd, _, _⟩ := F.ex
  refine ⟨size, fun A out st H ar us xs Q E hr hn e0 bnd rel hp => ?_⟩
  have sz := size _ _ _ _ hp
  have hul : us.length = ps.length := by rw [← rel.length]; exact sz
  have inK : K.In st.heap := e0.mod.kin.keeps fun b o z => (e0.bs b o z).1
  have noLim : st.heap.NoLimit := e0.mod.nolimit.keeps fun b o z => (e0.bs b o z).1
  have hloc : ∀ y ∈ ps.zip us, scope.names.lookup y.1 = some .local := fun ⟨n, v⟩ hy => (S.par n (List.of_mem_zip hy).1).elim id fun q => absurd rfl (hnc (n, .cell) (mem_of_lookup q))
  refine codeAny_call_function hr.depth (inK _ _ lk) rfl S.co S.gen rfl (PySem.W.codeRec_of inK hcd) (bnd _ _ _ _ ?_)
  refine wpAny_newFunctionEnv hnc hloc (fun h1 hns hsb => ?_) S.kind
  have hz : (ps.zip us).length = ps.length := by rw [List.length_zip, hul, Nat.min_self]
  have keep : ∀ b o, st.heap.get? b = some o → h1.get? b = some o := fun b o e => hsb.extBut b o (Nat.ne_of_lt (Heap.lt_size e)) (Heap.get?_push_of_some _ e)
  have hcl := cells_none scope.names (st.heap.objs.size + 1) [] hnc
  have hm : bindL (envOfC qual scope st.heap.objs.size at_ cdv).kindOf (ps.zip us) (fun _ => none) = fun y => List.lookup y (ps.zip us).reverse := by
    funext y
    rw [bindL_loc (ps.zip us) (fun _ => none) hloc y]
    cases List.lookup y (ps.zip us).reverse <;> rfl
  have ic : InCallC st st.heap.objs.size (bindL (envOfC qual scope st.heap.objs.size at_ cdv).kindOf (ps.zip us) fun _ => none) (cellsFrom (st.heap.objs.size + 1) scope.names []) (bindC (envOfC qual scope st.heap.objs.size at_ cdv).kindOf (ps.zip us) fun _ => none) { st with heap := h1, toks := st.toks + (ps.zip us).length } := by
    rw [hm, hcl]
    refine ⟨⟨⟨h1, _, rfl⟩, hns, keep, Nat.le_refl _⟩, ?_, ?_, ?_⟩
    · intro n c hc
      cases hc
    · exact .nil
    · intro n c hc
      cases hc
  have henv : newEnv scope st.heap.objs.size mainGlobals [] (qual ++ ".<locals>.") (some at_) cdv none builtinsNs = envOfC qual scope st.heap.objs.size at_ cdv := by
    unfold envOfC
    rw [hcl]
    rfl
  show _ ∧ codeAny (model P w) A (.func body (newEnv scope st.heap.objs.size mainGlobals [] (qual ++ ".<locals>.") (some at_) cdv none builtinsNs)) _ _
  rw [henv]
  refine ⟨noLim.keeps keep, codeAny_func ?_⟩
  obtain ⟨t, ht, hq⟩ := hb cdv A out st H xs Q E (hr.deeper _) (hn.deeper _) hp
  have I : Inv (cxOf CX0 P w K mg base N qual scope at_ cdv A out st H E) [] (start N xs) H _ := inv_start S hr.hd e0 sz rel ic
  refine wpAny_mono (ht [] _ (start N xs) H _ (by show 1 ≤ st.toks + (ps.zip us).length; omega) I hq) (fun fl s2 hs => ?_) fun e s2 hs => hs
  cases fl with
  | ret u => exact let ⟨v, _, H', J, rv, q⟩ := hs; ⟨v, H', J.os, J.bare, J.base, J.hok, rv, q⟩
  | next => exact let ⟨_, H', J, q⟩ := hs; ⟨V.non, H', J.os, J.bare, J.base, J.hok, rfl, q⟩
  | brk => exact let ⟨_, _, _, q⟩ := hs; False.elim q
  | cont => exact let ⟨_, _, _, q⟩ := hs; False.elim q
end
section
variable {X : Cx} {lev : Nat} {x : Str} {ps : List Str} {pr : Sp} {p pos : Pos} {e : Expr} {es : List Expr} {ta : TA} {te : TE}
theorem PAT.of (h : PA X es ta) : PAT X es ta := fun pos pins s σ H Q _ I q => h.run pos pins s σ H Q I q
theorem pet_canT (c : CanT X.prog X.w X.K X.mg X.base lev x ps pr) (hr : Room lev X.A) (hn : NoRep X.A) (ha : PA X (e :: es) ta) (hg : Gl X x := by rfl) (hdb : (x == ("__debug__" : Str)) = false := by decide)
    (he : starEach (e :: es) X.env = (false, eval e X.env) :: starEach es X.env := by rfl) (hpl : (backTo pos (starEach es X.env)).any (·.1) = false := by rfl) : PET X (.Call (.Name x p) (e :: es) [] pos) (tCall pr [] E0 ta) := by
  obtain ⟨f, fd, G, hm, kp, hb⟩ := c
  intro pins st σ H Q h0 I h
  refine wpAny_Call_Name_kw (ld_glob I hg hm ?_ hdb)
  refine PySem.W.callWith_K (h₀ := X.base) I.ok.mod.kin kp (wpAny_mono (wpAny_toks_of h0 (ha.run pos pins st σ H _ I h)) (fun us s1 z => ?_) fun _ _ z => z.2) he hpl
  obtain ⟨t1, xs, H1, I1, rel, q⟩ := z
  refine ⟨I1.kIn, ?_⟩
  have q : pr xs H1 Q E0 := by rw [← List.append_nil xs]; exact q
  have sz : us.length = ps.length := by rw [← rel.length]; exact G.size _ _ _ _ q
  have bnd := hb s1 us I1.kIn (by rw [List.append_nil]; exact sz)
  rw [List.append_nil] at bnd
  refine wpAny_call (codeAny_mono (G.go X.A X.stack s1 H1 ⟨us, []⟩ us xs Q E0 t1 hr hn I1.env0 bnd rel q) fun r s2 hq => ?_)
  cases r with
  | error er => exact False.elim hq
  | ok fl =>
    cases fl with
    | ret u => exact I1.after hq
    | next => exact False.elim hq
    | brk => exact False.elim hq
    | cont => exact False.elim hq
theorem pet_tup {x1 : Nat} (h : PAT X es ta) : PET X (.Tuple es x1 pos) (tTup ta) := by
  intro pins s σ H Q h0 I hq
  refine wpAny_Tuple_spliced (thn (h pos pins s σ H _ h0 I hq) fun us s1 z => ?_)
  obtain ⟨xs, H1, I1, r, z, q⟩ := z
  refine ⟨by rw [← r.length]; exact z, .ref s1.heap.objs.size, upd H1 s1.heap.objs.size (.tup xs), I1.laid (t' := s1.toks) (fun b u e => Heap.get?_push_of_some _ e) (Nat.le_refl _) ⟨z, us, r, _, Heap.get?_push_size _ rfl, rfl, 0, rfl⟩, rfl, q _ (I1.hok.fresh (Nat.le_refl _))⟩
theorem pst_asg {tg e : Expr} {g : TG} (he : PET X e te) (hg : PG X tg g) (hs : swapsWithSole [tg] e pos.line X.env = pure false := by rfl) (hw : swappedStores [tg] e X.env = pure none := by rfl) (h1 : (assignEach [tg] X.env).map (·.2) = [assign tg X.env] := by rfl) :
    PST X (.Assign [tg] e pos) (tAsg te g) := by
  intro pins s σ H D h0 I h
  refine wpAny_Assign_stores (thn (he pins s σ H _ h0 I h) fun v s1 z => ?_) hs hw
  obtain ⟨x, H1, I1, r1, q1⟩ := z
  rw [h1]
  exact thn (hg.run pins s1 σ H1 x v D.nx I1 r1 q1) fun _ s2 q => q
end
section
variable {K : PySem.W.Frag} {x qual : Str} {params : Arguments} {body : List Stmt} {scope : Scope} {f : Addr} {fd : FuncData} {P : Program} {w : World} {mg : Str → Option Value} {base : Heap} {lev : Nat} {ps : List Str} {pr : Sp}
theorem FnT.can (F : FnT P w K mg base lev f fd ps pr) (D : FunD K x qual params body scope [] [] f fd) (g : mg x = some (.ref f))
    (b : ∀ (kV doc pm : Value) (an : Option Addr) (cdv ct : Value) (us : List Value), us.length = ps.length → bindArgs (PySem.W.fnOf x qual params body scope .none kV doc pm an cdv ct) ⟨us, []⟩ = pure (ps.zip us)) : CanT P w K mg base lev x ps pr := ⟨f, fd, F, g, D.kp, D.bindsN b⟩
theorem FunD.okF {CX : CXT} {N : List Str} (F : FunD K x qual params body scope [] [] f fd) (S : FnScope N ps scope) (hnc : ∀ y ∈ scope.names, y.2 ≠ NameKind.cell) (one : 1 ≤ ps.length) (len : ∀ vs H Q E, pr vs H Q E → vs.length = ps.length)
    (hb : ∀ (cdv : Value) (A : Around) (outer : List Env) (s : Shared) (H : Hp) (vs : List V) (Q : VK) (E : XK), Room lev (A.deeper (envOfC qual scope s.heap.objs.size f cdv)) → pr vs H Q E →
      ∃ t, PSsT (cxOf CX P w K mg base N qual scope f cdv A outer s H E) body t ∧ t { nx := fun _ H' => Q .non H', rt := Q } (start N vs) H) : FnOk P w K mg base CX (lev + 1) f fd ps pr := by
  obtain ⟨oc, od, dV, kV, doc, pm, an, cdv, ct, osl, rfl, lk, hcd, _, _⟩ := F.ex
  exact fn_ofT lk hcd S hnc one len fun A outer s H vs Q E hr h => hb cdv A outer s H vs Q E hr h
end
end Yd
/-! Own ground: what a text of pieces tells; walks within walks. -/
namespace Ye
open PySem PySem.Spec PyProof.Rows L2 Ya
abbrev lO : Str := "oO"
abbrev lS : Str := "oO."
abbrev lT : Str := "oO. \n"
def isO (c : Nat) : Bool := decide (c ∈ sg lO)
def isS (c : Nat) : Bool := decide (c ∈ sg lS)
def isT (c : Nat) : Bool := decide (c ∈ sg lT)
theorem isT_iff (c : Nat) : isT c = true ↔ isS c = true ∨ c = 32 ∨ c = 10 := by
  have e1 : sg lT = [111, 79, 46, 32, 10] := by decide +kernel
  have e2 : sg lS = [111, 79, 46] := by decide +kernel
  simp only [isT, isS, e1, e2, decide_eq_true_eq, List.mem_cons, List.not_mem_nil, or_false]
  omega
theorem isS_ne {c : Nat} (h : isS c = true) : c ≠ 32 ∧ c ≠ 10 := by
  have e2 : sg lS = [111, 79, 46] := by decide +kernel
  simp only [isS, e2, decide_eq_true_eq, List.mem_cons, List.not_mem_nil, or_false] at h
  omega
/-- the numbers below n at which f holds -/
def pcN (f : Nat → Bool) : Nat → List Int
  | 0 => []
  | n + 1 => pcN f n ++ (if f n then [(n : Int)] else [])
theorem pcN_congr {f g : Nat → Bool} : ∀ {n : Nat}, (∀ k, k < n → f k = g k) → pcN f n = pcN g n
  | 0, _ => rfl
  | n + 1, h => by
    show pcN f n ++ _ = pcN g n ++ _
    rw [pcN_congr fun k hk => h k (by omega), h n (by omega)]
theorem pcN_len (f : Nat → Bool) : ∀ n, (pcN f n).length ≤ n
  | 0 => Nat.le_refl 0
  | n + 1 => by
    have := pcN_len f n
    show (pcN f n ++ _).length ≤ n + 1
    rw [List.length_append]
    split <;> simp <;> omega
theorem pcN_mem (f : Nat → Bool) : ∀ n, ∀ z ∈ pcN f n, 0 ≤ z ∧ z < n
  | 0, z, h => nomatch h
  | n + 1, z, h => by
    rcases List.mem_append.mp h with h | h
    · have := pcN_mem f n z h
      omega
    · split at h
      · have : z = n := by simpa using h
        omega
      · cases h
/-- at place k of w stands a watcher's sign -/
def at_ (w : List Nat) (k : Nat) : Bool := (w[k]?).any isO
def piece (pl : Nat) (w : List Nat) (i : Nat) : List Int := pcN (fun k => at_ w (i + k)) pl
def runU (pl : Nat) (w : List Nat) : Nat → List (List Int)
  | 0 => []
  | i + 1 => runU pl w i ++ [piece pl w (i * pl)]
def runP (pl : Nat) (w : Str) : List (List Int) := runU pl (sg w) (w.length / pl)
def okW (pl : Nat) (w : Str) : Bool := decide (w.length % pl = 0) && (sg w).all isS
def allP (pl : Nat) (ws : List Str) : List (List Int) := ws.flatMap (runP pl)
def dueOf (z : Str) (pl : Nat) : Option (List (List Int)) := if wdsOf z ≠ [] ∧ ∀ w ∈ wdsOf z, okW pl w = true then some (allP pl (wdsOf z)) else none
theorem runU_len (pl : Nat) (w : List Nat) : ∀ n, (runU pl w n).length = n
  | 0 => rfl
  | n + 1 => by
    show (runU pl w n ++ _).length = _
    rw [List.length_append, runU_len pl w n]
    rfl
theorem runU_brief (pl : Nat) (w : List Nat) : ∀ n, ∀ l ∈ runU pl w n, l.length ≤ pl ∧ ∀ z ∈ l, 0 ≤ z ∧ z < pl
  | 0, l, h => nomatch h
  | n + 1, l, h => by
    rcases List.mem_append.mp h with h | h
    · exact runU_brief pl w n l h
    · obtain rfl : l = piece pl w (n * pl) := by simpa using h
      exact ⟨pcN_len _ _, pcN_mem _ _⟩
theorem allP_brief (pl : Nat) (ws : List Str) : ∀ l ∈ allP pl ws, l.length ≤ pl ∧ ∀ z ∈ l, 0 ≤ z ∧ z < pl := fun l h => by
  obtain ⟨w, _, h⟩ := List.mem_flatMap.mp h
  exact runU_brief pl _ _ l h
theorem allP_len (pl : Nat) (hp : 1 ≤ pl) : ∀ ws : List Str, (allP pl ws).length ≤ (ws.map fun w => w.length).sum
  | [] => Nat.zero_le _
  | w :: ws => by
    have := allP_len pl hp ws
    show (runP pl w ++ allP pl ws).length ≤ ((w :: ws).map fun w => w.length).sum
    rw [List.map_cons, List.sum_cons]
    rw [List.length_append, runP, runU_len]
    have h2 : w.length / pl ≤ w.length := Nat.div_le_self _ _
    show _ ≤ w.length + (ws.map fun w => w.length).sum
    omega
theorem filter_sum (p : Str → Bool) : ∀ ws : List Str, ((ws.filter p).map fun w => w.length).sum ≤ (ws.map fun w => w.length).sum
  | [] => Nat.le_refl _
  | w :: ws => by
    have := filter_sum p ws
    rw [List.filter_cons]
    split <;> simp only [List.map_cons, List.sum_cons] <;> omega
theorem words_len (z : Str) (pl : Nat) (hp : 1 ≤ pl) : (allP pl (wdsOf z)).length ≤ z.length := by
  have h1 := allP_len pl hp (wdsOf z)
  have h2 := filter_sum full (partsOf z)
  have h3 := parts_weight z
  have h4 : 1 ≤ (partsOf z).length := PyProof.Rows.split_pos _ _
  have h1' : (allP pl (wdsOf z)).length ≤ (((partsOf z).filter full).map fun w => w.length).sum := h1
  omega
/-- a bad sign: nothing is told -/
theorem due_bad {z : Str} {pl : Nat} {c : Nat} (hc : c ∈ sg z) (hb : isT c = false) : dueOf z pl = none := by
  unfold dueOf
  rw [if_neg]
  rintro ⟨_, h⟩
  have nt : ¬ (isS c = true ∨ c = 32 ∨ c = 10) := fun q => by
    rw [(isT_iff c).mpr q] at hb
    cases hb
  rcases mem_words hc with q | q | ⟨w, hw, q⟩
  · exact nt (.inr (.inr q))
  · exact nt (.inr (.inl q))
  · have := h w hw
    simp only [okW, Bool.and_eq_true, List.all_eq_true] at this
    exact nt (.inl (this.2 c q))
theorem okW_good {z : Str} {pl : Nat} (hz : ∀ c ∈ sg z, isT c = true) {w : Str} (hw : w ∈ wdsOf z) : okW pl w = decide (w.length % pl = 0) := by
  have : (sg w).all isS = true := List.all_eq_true.mpr fun c hc => by
    obtain ⟨n1, n2, m⟩ := words_mem hw hc
    rcases (isT_iff c).mp (hz c m) with q | q | q
    · exact q
    · exact absurd q n2
    · exact absurd q n1
  rw [okW, this, Bool.and_true]
/-- walks within walks -/
theorem in_it {J : It} {n : Nat} {Y : Nat → Hp → V → Hp → Prop} {G : Hp → Prop} (WJ : Walk J n G Y) {B : V → Hp → (Hp → Prop) → Prop} {H0 : Hp} {Nx : Hp → Prop} (Pv : Nat → Hp → Prop) (h0 : Pv 0 H0) (hg : ∀ i H, i ≤ n → Pv i H → G H)
    (step : ∀ i x H H', i < n → Pv i H → Y i H x H' → B x H' (Pv (i + 1))) (fin : ∀ H, Pv n H → Nx H) :
    ∃ W : Nat → Nat → Hp → Prop, (∃ m, W 0 m H0) ∧ ∀ i m H, W i m H → (J.stop i H ∧ Nx H) ∨ (J.go i H ∧ ∃ N : Hp → Prop, (∀ H', N H' → ∃ m', m' < m ∧ W (i + 1) m' H') ∧ ∀ x H', J.yld i H x H' → B x H' N) := by
  refine ⟨fun i m H => m = n - i ∧ i ≤ n ∧ Pv i H, ⟨n, by omega, Nat.zero_le _, h0⟩, ?_⟩
  rintro i m H ⟨rfl, hi, p⟩
  by_cases c : i < n
  · exact .inr ⟨WJ.goes i H c (hg i H hi p), Pv (i + 1), fun H' p' => ⟨n - (i + 1), by omega, rfl, by omega, p'⟩, fun x H' y => step i x H H' c p (WJ.yields i H x H' c (hg i H hi p) y)⟩
  · have e : i = n := by omega
    subst e
    exact .inl ⟨WJ.stops H (hg _ _ hi p), fin H p⟩
end Ye
/-! Own ground: lists of new lists that are lengthened. -/
namespace Yf
open PySem PySem.Spec PyProof.Rows L2 Xa Xr Xl Xk Xq Ya Ye
/-- the lists of ks are new since H0, and apart -/
def New (H0 : Hp) (D : Addr) (ks : List (Addr × List Int)) : Prop := (∀ q ∈ ks, H0 q.1 = none ∧ q.1 ≠ D) ∧ (ks.map (·.1)).Nodup
theorem New.nil {H0 : Hp} {D : Addr} : New H0 D [] := ⟨fun q (h : q ∈ []) => (nomatch h), List.nodup_nil⟩
theorem ll_more {H0 H H3 : Hp} {D a : Addr} {l : List Int} {ks : List (Addr × List Int)} (L : LL H D ks) (N : New H0 D ks) (s0 : ∀ c o, H0 c = some o → c ≠ D → H c = some o) (sm : Same H H3) (na : H a = none) (ha : H3 a = some (.lst (l.map V.int))) :
    H3 D = some (.lst (ks.map fun q => V.ref q.1)) ∧ LL (upd H3 D (.lst ((ks.map fun q => V.ref q.1) ++ [.ref a]))) D (ks ++ [(a, l)]) ∧ New H0 D (ks ++ [(a, l)]) := by
  obtain ⟨hd, hl⟩ := L
  have aD : a ≠ D := fun z => by
    rw [z, hd] at na
    cases na
  refine ⟨sm _ _ hd, ⟨?_, ?_⟩, ?_, ?_⟩
  · rw [upd_same, List.map_append]
    rfl
  · intro q hq
    rcases List.mem_append.mp hq with hq | hq
    · rw [upd_ne (N.1 q hq).2]
      exact sm _ _ (hl q hq)
    · rw [List.mem_singleton.mp hq, upd_ne aD]
      exact ha
  · intro q hq
    rcases List.mem_append.mp hq with hq | hq
    · exact N.1 q hq
    · rw [List.mem_singleton.mp hq]
      refine ⟨?_, aD⟩
      cases e : H0 a with
      | none => rfl
      | some o =>
        rw [s0 a o e aD] at na
        cases na
  · rw [List.map_append, List.nodup_append]
    refine ⟨N.2, List.nodup_cons.mpr ⟨List.not_mem_nil, List.nodup_nil⟩, ?_⟩
    intro x hx y hy e
    obtain rfl : y = a := by simpa using hy
    obtain ⟨q, hq, rfl⟩ := List.mem_map.mp hx
    have := hl q hq
    rw [e, na] at this
    cases this
theorem ll_add {H0 H3 : Hp} {D a : Addr} {l : List Int} {ks : List (Addr × List Int)} (L : LL H3 D ks) (N : New H0 D ks) (n0 : H0 a = none) (aD : a ≠ D) (ak : ∀ q ∈ ks, q.1 ≠ a) (ha : H3 a = some (.lst (l.map V.int))) :
    LL (upd H3 D (.lst ((ks.map fun q => V.ref q.1) ++ [.ref a]))) D (ks ++ [(a, l)]) ∧ New H0 D (ks ++ [(a, l)]) := by
  obtain ⟨hd, hl⟩ := L
  refine ⟨⟨?_, ?_⟩, ?_, ?_⟩
  · rw [upd_same, List.map_append]
    rfl
  · intro q hq
    rcases List.mem_append.mp hq with hq | hq
    · rw [upd_ne (N.1 q hq).2]
      exact hl q hq
    · rw [List.mem_singleton.mp hq, upd_ne aD]
      exact ha
  · intro q hq
    rcases List.mem_append.mp hq with hq | hq
    · exact N.1 q hq
    · rw [List.mem_singleton.mp hq]
      exact ⟨n0, aD⟩
  · rw [List.map_append, List.nodup_append]
    refine ⟨N.2, List.nodup_cons.mpr ⟨List.not_mem_nil, List.nodup_nil⟩, ?_⟩
    intro x hx y hy e
    obtain rfl : y = a := by simpa using hy
    obtain ⟨q, hq, rfl⟩ := List.mem_map.mp hx
    exact ak q hq e
theorem allP_app (pl : Nat) (xs ys : List Str) : allP pl (xs ++ ys) = allP pl xs ++ allP pl ys := List.flatMap_append
theorem allP_take_len (pl i : Nat) (ws : List Str) : (allP pl (ws.take i)).length ≤ (allP pl ws).length := by
  have : allP pl ws = allP pl (ws.take i) ++ allP pl (ws.drop i) := by rw [← allP_app, List.take_append_drop]
  rw [this, List.length_append]
  omega
theorem allP_take (pl : Nat) {i : Nat} {ws : List Str} {w : Str} (h : ws[i]? = some w) : allP pl (ws.take (i + 1)) = allP pl (ws.take i) ++ runP pl w := by
  rw [List.take_add_one, h]
  show allP pl (ws.take i ++ [w]) = _
  rw [allP_app]
  show _ ++ (runP pl w ++ []) = _
  rw [List.append_nil]
/-- a piece of a slice -/
theorem slice_piece {w : Str} {i pl : Nat} (h : i + pl ≤ w.length) : (Txt.slice w (some (i : Int)) (some ((i : Int) + (pl : Int)))).length = pl ∧ pcN (at_ (sg (Txt.slice w (some (i : Int)) (some ((i : Int) + (pl : Int)))))) pl = piece pl (sg w) i := by
  have e0 : (i : Int) + (pl : Int) = ((i + pl : Nat) : Int) := by omega
  have e : sg (Txt.slice w (some (i : Int)) (some ((i : Int) + (pl : Int)))) = (w.cps.toList.drop i).take pl := by
    rw [e0]
    have := PyProof.Rows.slice_closesL (x := w) (i := i) (j := (i + pl : Nat)) (by omega) (by omega) (by show ((i + pl : Nat) : Int) ≤ (w.length : Int); omega)
    have e2 := eq_of_beq this
    rw [e2]
    show (List.toArray _).toList = _
    rw [List.toList_toArray]
    congr 1
    · omega
  constructor
  · show (Txt.slice w _ _).cps.size = pl
    rw [← Array.length_toList]
    show (sg _).length = pl
    rw [e, List.length_take, List.length_drop]
    have : w.cps.toList.length = w.length := Array.length_toList
    omega
  · refine pcN_congr fun k hk => ?_
    show ((sg _)[k]?).any isO = ((sg w)[i + k]?).any isO
    rw [e, List.getElem?_take_of_lt hk, List.getElem?_drop]
end Yf
/-! Own ground: three names at once, with tokens told. -/
namespace Yg
open PySem PySem.Spec PyProof.Rows L2
theorem pst_par3 {X : Cx} {i j l : Nat} {x y z : Str} {a b c : Expr} {ta : TA} {px py pz pt pos : Pos} {kt k2 : Nat} {pt2 : Pos} (hc : X.calm = true) (hN : X.N.Nodup) (hi : X.N[i]? = some x) (hj : X.N[j]? = some y) (hl : X.N[l]? = some z)
    (ij : i ≠ j) (il : i ≠ l) (jl : j ≠ l) (hx : X.env.scope.names.lookup x = some .local) (hy : X.env.scope.names.lookup y = some .local) (hz : X.env.scope.names.lookup z = some .local) (ha : PAT X [a, b, c] ta)
    (hw : swappedStores [.Tuple [.Name x px, .Name y py, .Name z pz] kt pt] (.Tuple [a, b, c] k2 pt2) X.env = pure (some [x, y, z])) (hs : swapsWithSole [.Tuple [.Name x px, .Name y py, .Name z pz] kt pt] (.Tuple [a, b, c] k2 pt2) pos.line X.env = pure false := by rfl) :
    PST X (.Assign [.Tuple [.Name x px, .Name y py, .Name z pz] kt pt] (.Tuple [a, b, c] k2 pt2) pos) (tPar3 i j l ta) := by
  intro pins s σ H D h0 I h
  rw [exec_Assign_arm]
  refine wpAny_bind (wpAny_standAt ?_)
  rw [hs]
  refine wpAny_bind (wpAny_pure ?_)
  rw [if_neg (by decide)]
  refine wpAny_bind (Tuple_ (thn (ha pt2 pins s σ H _ h0 I h) fun us s1 w => ?_))
  obtain ⟨vs, H1, I1, r1, v1, v2, v3, rfl, q1⟩ := w
  obtain ⟨u1, u2, u3, rfl, r1, r2, r3⟩ : ∃ u1 u2 u3, us = [u1, u2, u3] ∧ RelV v1 u1 ∧ RelV v2 u2 ∧ RelV v3 u3 := by
    cases r1 with
    | cons p q =>
      cases q with
      | cons p2 q2 =>
        cases q2 with
        | cons p3 q3 =>
          cases q3
          exact ⟨_, _, _, rfl, p, p2, p3⟩
  refine wpAny_newObj_type ?_
  rw [hw]
  refine wpAny_bind (wpAny_pure ?_)
  show wpAny _ _ (do
      rule "assign.swapped-stores"
      let items ← unpackItems (.ref s1.heap.objs.size) ([x, y, z] : List Str).length none
      assignInOrder (([x, y, z] : List Str).reverse.map fun n => bindName X.env n) items.reverse
      pure Flow.next) _ _ _
  refine wpAny_bind (wpAny_rule (wpAny_bind (unpackItems_tuple (items := #[u1, u2, u3]) (I.ok.hd hc) (IsTup.new s1.heap #[u1, u2, u3]) fun h' hk => ?_)))
  have I2 : Inv X pins σ H1 { s1 with heap := h' } := I1.kept fun b u e => hk b u (Nat.ne_of_lt (Nat.lt_trans (Heap.lt_size e) (by
    show s1.heap.objs.size < (s1.heap.push _).objs.size
    rw [Heap.size_push]
    exact Nat.lt_succ_self _))) (Heap.get?_push_of_some _ e)
  refine wpAny_bind ?_
  show wpAny _ _ (assignInOrder [bindName X.env z, bindName X.env y, bindName X.env x] [u3, u2, u1]) _ _ _
  refine assignInOrder_cons (wpAny_bindName (store_ok I2 hN hl (.inl hz) r3 (fun s3 I3 => ?_) (.inr hz)))
  refine assignInOrder_cons (wpAny_bindName (store_ok I3 hN hj (.inl hy) r2 (fun s4 I4 => ?_) (.inr hy)))
  refine assignInOrder_cons (wpAny_bindName (store_ok I4 hN hi (.inl hx) r1 (fun s5 I5 => ?_) (.inr hx)))
  refine assignInOrder_nil (wpAny_pure ⟨_, H1, I5, ?_⟩)
  have e : ((σ.set l (some v3)).set j (some v2)).set i (some v1) = ((σ.set i (some v1)).set j (some v2)).set l (some v3) := by
    rw [List.set_comm _ _ (Ne.symm jl), List.set_comm _ _ (Ne.symm il), List.set_comm (l := σ) _ _ (Ne.symm ij)]
  rw [e]
  exact q1
end Yg
/-! Own ground: texts of bounded length. -/
namespace Yh
open PySem PySem.Spec PyProof.Rows L2 Ya
def Tx (n : Nat) (z : Str) : Prop := z.length ≤ n ∧ PyData.strOk z = true
theorem ok_iff {z : Str} : PyData.strOk z = true ↔ ∀ c ∈ sg z, c < 1114112 := by
  constructor
  · intro h c hc
    have h2 : ∀ (i : Nat) (x : i < z.cps.size), z.cps[i] < 1114112 := by simpa [PyData.strOk] using h
    obtain ⟨i, hi, e⟩ := Array.getElem_of_mem (Array.mem_toList_iff.mp hc)
    have := h2 i hi
    rw [e] at this
    exact this
  · intro h
    have : ∀ (i : Nat) (x : i < z.cps.size), z.cps[i] < 1114112 := fun i hi => h _ (Array.mem_toList_iff.mpr (Array.getElem_mem hi))
    simpa [PyData.strOk] using this
theorem Tx.up {m n : Nat} {z : Str} (h : Tx m z) (e : m ≤ n) : Tx n z := ⟨Nat.le_trans h.1 e, h.2⟩
theorem len_sg (z : Str) : (sg z).length = z.length := Array.length_toList
theorem tx_app {m n : Nat} {x y : Str} (a : Tx m x) (b : Tx n y) : Tx (m + n) (x ++ y) := by
  constructor
  · rw [← len_sg, sg_append, List.length_append, len_sg, len_sg]
    exact Nat.add_le_add a.1 b.1
  · refine ok_iff.mpr fun c hc => ?_
    rw [sg_append] at hc
    rcases List.mem_append.mp hc with hc | hc
    · exact ok_iff.mp a.2 c hc
    · exact ok_iff.mp b.2 c hc
theorem tx_sub {m : Nat} {x y : Str} (a : Tx m x) (h : y.length ≤ x.length) (s : ∀ c ∈ y.cps.toList, c ∈ x.cps.toList) : Tx m y :=
  ⟨Nat.le_trans h a.1, ok_iff.mpr fun c hc => ok_iff.mp a.2 c (s c hc)⟩
theorem tx_slice {m : Nat} {x : Str} (a : Tx m x) (lo hi : Option Int) : Tx m (Txt.slice x lo hi) := by
  unfold Txt.slice
  split
  · exact a
  · refine tx_sub a ?_ fun c hc => ?_
    · show (List.toArray _).size ≤ _
      rw [List.size_toArray]
      exact Nat.le_trans (List.length_filterMap_le _ _) (PyProof.Rows.indices_len_le _ _ _)
    · have hc : c ∈ (Builtin.Str.strSliceIndices lo hi 1 x.length).filterMap fun i => x.cps[i]? := hc
      obtain ⟨i, _, e⟩ := List.mem_filterMap.mp hc
      exact Array.mem_toList_iff.mpr (Array.mem_of_getElem? e)
theorem tx_fit {m n : Nat} {x y : Str} (a : Tx m x) (b : Tx n y) (h : m + n ≤ 16777216 := by decide) : x.length + y.length ≤ sizeLine := by
  rw [sizeLine_eq]
  have := a.1
  have := b.1
  omega
theorem tx_line {m : Nat} {x : Str} (a : Tx m x) (h : m ≤ 16777216 := by decide) : x.length ≤ sizeLine := by
  rw [sizeLine_eq]
  exact Nat.le_trans a.1 h
def AllS (n : Nat) (vs : List V) : Prop := ∀ v ∈ vs, ∃ y, v = V.str y ∧ Tx n y
theorem as_nil {n : Nat} : AllS n [] := fun v h => nomatch h
theorem as_cons {m n : Nat} {y : Str} {vs : List V} (t : Tx m y) (h : AllS n vs) (e : m ≤ n := by decide) : AllS n (.str y :: vs) := fun v hv => by
  rcases List.mem_cons.mp hv with rfl | hv
  · exact ⟨y, rfl, t.up e⟩
  · exact h v hv
theorem as_app {n : Nat} {vs ws : List V} (a : AllS n vs) (b : AllS n ws) : AllS n (vs ++ ws) := fun v hv => (List.mem_append.mp hv).elim (a v) (b v)
theorem pickS {n : Nat} {vs : List V} (h : AllS n vs) {k : Nat} (hk : k < vs.length) : ∃ s, atI vs (k : Int) = some (V.str s) ∧ Tx n s := by
  obtain ⟨y, e, t⟩ := h vs[k] (List.getElem_mem hk)
  exact ⟨y, atI_nat (by rw [List.getElem?_eq_getElem hk, e]), t⟩
theorem tx_join {n : Nat} {g : Str} {ps : List Str} (tg : Tx 1 g) (h : ∀ p ∈ ps, Tx n p) : Tx ((n + 1) * ps.length) (Txt.join g ps) := by
  have e : Txt.join g ps = Str.join g ps := StrLaws.glued_eq_join g ps
  rw [e]
  constructor
  · have a := len_join g ps
    rw [← len_sg]
    have sum : (ps.map fun p => (sg p).length).sum ≤ n * ps.length := by
      clear a e
      induction ps with
      | nil => exact Nat.zero_le _
      | cons p ps ih =>
        have := ih fun q hq => h q (List.mem_cons_of_mem _ hq)
        have hp := (h p List.mem_cons_self).1
        rw [← len_sg] at hp
        rw [List.map_cons, List.sum_cons, List.length_cons, Nat.mul_add]
        omega
    have g1 : (sg g).length ≤ 1 := by rw [len_sg]; exact tg.1
    have gl : ps.length * (sg g).length ≤ ps.length * 1 := Nat.mul_le_mul_left _ g1
    rw [Nat.add_mul, Nat.one_mul]
    split at a <;> omega
  · refine ok_iff.mpr fun c hc => ?_
    rcases mem_join hc with hc | ⟨p, hp, hc⟩
    · exact ok_iff.mp tg.2 c hc
    · exact ok_iff.mp (h p hp).2 c hc
theorem join_fit {n : Nat} {g : Str} {ps : List Str} (tg : Tx 1 g) (h : ∀ p ∈ ps, Tx n p) (e : (n + 1) * ps.length ≤ 16777216) : (ps.map (·.length)).sum + ps.length * g.length ≤ 16777216 := by
  have sum : (ps.map (·.length)).sum ≤ n * ps.length := by
    clear e
    induction ps with
    | nil => exact Nat.zero_le _
    | cons p ps ih =>
      have := ih fun q hq => h q (List.mem_cons_of_mem _ hq)
      have hp := (h p List.mem_cons_self).1
      rw [List.map_cons, List.sum_cons, List.length_cons, Nat.mul_add]
      omega
  have gl : ps.length * g.length ≤ ps.length * 1 := Nat.mul_le_mul_left _ tg.1
  rw [Nat.add_mul, Nat.one_mul] at e
  omega
def rJn (K : PySem.W.Frag) : V → List V → Hp → VK → Prop := fun x xs H Q => ∃ a p, ∃ ys : List Str, x = .str a ∧ xs = [.ref p] ∧ (SqL K H p (ys.map V.str) ∨ SqT K H p (ys.map V.str)) ∧ (ys.map (·.length)).sum + ys.length * a.length ≤ 16777216 ∧ Q (.str (Txt.join a ys)) H
/-- join, its reading told without the block's own context -/
theorem pe_jn {X : Cx} {K : PySem.W.Frag} {o e : Expr} {to te : TE} {apos pos : Pos} (hK : X.K = K) (ho : PE X o to) (he : PE X e te) (hs : starEach [e] X.env = [(false, eval e X.env)] := by rfl) (hb : attributeBase o "join" X.env (eval o X.env) = eval o X.env := by rfl) (hl : (apos.endLine == pos.line) = true := by rfl) :
    PE X (.Call (.Attribute o "join" apos) [e] [] pos) (tM1 (rJn K) to te) := by
  subst hK
  exact pe_join ho he hs hb hl
end Yh
/-! The draws: cell, hash, generator, random. -/
namespace Kx
open PySem PySem.Spec PyProof.Rows L2 Xa Xb Xc Xd
def top (i : Nat) : Stmt := PySem.Challenge.pw_hearunlike_k31_texts_of_no_plan.main.body.getD i (.Pass ⟨0, 0, 0, 0⟩)
abbrev FnP (K : PySem.W.Frag) (x : Str) (st : Stmt) (f : Addr) (fd : FuncData) : Prop := FunD K x x (defArgs st) (defBody st) (defScope st) [] [] f fd
abbrev sCell : Stmt := top 17
abbrev sHash : Stmt := top 18
abbrev sGener : Stmt := top 19
abbrev sRandom : Stmt := top 20
/-- the built-ins that the text has not taken -/
structure Bi (mg : Str → Option Value) : Prop where
  len : mg "len" = none
  int : mg "int" = none
  max : mg "max" = none
  range : mg "range" = none
theorem pa1 {X : Cx} {e : Expr} {te : TE} (he : PE X e te) (hs : starEach (e :: []) X.env = (false, eval e X.env) :: starEach [] X.env := by rfl) : PA X [e] (tCons te tNil) := pa_cons he pa_nil hs
section
variable {P : Program} {w : World} {K : PySem.W.Frag} {mg : Str → Option Value} {base : Heap} {f : Addr} {fd : FuncData}

/-! ### cell -/
def spCell (K : PySem.W.Frag) : Sp := fun xs H Q _ => ∃ (a : Addr) (ns : List Int) (i : Nat), xs = [.ref a, .int (i : Int)] ∧ SqL K H a (ns.map V.int) ∧ ∀ z, Q (.int z) H
theorem scCell : FnScope ["script", "index"] ["script", "index"] (defScope sCell) := ⟨rfl, rfl, rfl, by decide +kernel, rfl, by decide +kernel, by decide +kernel⟩
theorem ok_cell (F : FnP K "_law_cell" sCell f fd) (B : Bi mg) : FnG P w K mg base 1 f fd ["script", "index"] (spCell K) := by
  refine okG F scCell (fun xs H Q E h => ?_) (fun cdv A outer s H vs Q E hr hn h => ?_)
  · obtain ⟨a, ns, i, rfl, _⟩ := h
    rfl
  · obtain ⟨a, ns, i, rfl, hS, q⟩ := h
    refine ⟨_, pss_cons (ps_if (pt_cmpR op_lt (pv 1) (pe_callB call_len_seq (by rfl) B.len PySem.boot_len (pa_cons (pv 0) pa_nil)) (nomark _)) (pss_one (ps_ret (pe_ix ix_list (pv 0) (pv 1) (fun _ _ => rfl)))) pss_nil)
      (pss_one (ps_ret pe_int)), ?_⟩
    refine ⟨_, rfl, _, rfl, a, _, rfl, .inl hS, _, _, rfl, rfl, _, rfl, ite2 (fun c => ?_) (fun _ => q 0)⟩
    have hlt : i < (ns.map V.int).length := by
      have c2 := of_decide_eq_true c
      omega
    rw [List.length_map] at hlt
    exact ⟨_, rfl, _, rfl, a, _, _, .int ns[i], rfl, rfl, hS, atI_nat (by rw [List.getElem?_map, List.getElem?_eq_getElem hlt]; rfl), q _⟩

/-! ### hash -/
def spHash : Sp := fun xs H Q _ => ∃ (z i : Int), xs = [.int z, .int i] ∧ 0 ≤ z ∧ z < 2147483647 ∧ 0 ≤ i ∧ i < 2 ^ 50 ∧ ∀ r : Int, 0 ≤ r → r < 2147483587 → Q (.int r) H
theorem scHash : FnScope ["seed", "index", "mixed"] ["seed", "index"] (defScope sHash) := ⟨rfl, rfl, rfl, by decide +kernel, rfl, by decide +kernel, by decide +kernel⟩
theorem ok_hash (F : FnP K "_law_hash" sHash f fd) (B : Bi mg) : FnG P w K mg base 1 f fd ["seed", "index"] spHash := by
  refine okG F scHash (fun xs H Q E h => ?_) (fun cdv A outer s H vs Q E hr hn h => ?_)
  · obtain ⟨z, i, rfl, _⟩ := h
    rfl
  · obtain ⟨z, i, rfl, z0, z1, i0, i1, q⟩ := h
    refine ⟨_, pss_cons (ps_set (i := 2) scHash.nd rfl (Or.inl rfl) (pe_op op_modN (pe_callTy call_int1 (by rfl) B.int (by decide +kernel) (pa1 (pe_op op_add (pe_op op_add (pe_op op_add (pe_op op_mul (pv 0) pe_int) (pe_op op_mul (pe_op op_mul pe_int (pv 1)) (pv 1))) (pv 1)) pe_int))) pe_int))
      (pss_cons (ps_set (i := 2) scHash.nd rfl (Or.inl rfl) (pe_op op_modN (pe_callTy call_int1 (by rfl) B.int (by decide +kernel) (pa1 (pe_op op_add (pe_op op_mul (pv 2) (pv 2)) pe_int))) pe_int))
      (pss_one (ps_ret (pe_op op_modN (pe_callTy call_int1 (by rfl) B.int (by decide +kernel) (pa1 (pe_op op_mul (pv 2) pe_int))) pe_int)))), ?_⟩
    have m1 : ∀ x y : Int, 0 < y → 0 ≤ x.fmod y ∧ x.fmod y < y := fun x y hy => ⟨Int.fmod_nonneg_of_pos _ hy, Int.fmod_lt_of_pos _ hy⟩
    refine ⟨_, rfl, _, _, rfl, rfl, .inr ⟨by decide, by decide⟩, _, rfl, _, _, rfl, rfl, .inl ⟨by decide, by decide⟩, _, rfl, _, _, rfl, rfl, .inr ⟨by omega, by omega⟩, _, _, rfl, rfl, _, rfl, _, _, rfl, rfl, _, _, rfl, rfl, .inl ⟨_, rfl, ?_⟩⟩
    refine ⟨_, _, rfl, rfl, (by show (2147483647 : Int) ≠ 0; decide), ?_⟩
    obtain ⟨a0, a1⟩ := m1 (z * 1103515245 + 7919 * i * i + i + 1) 2147483647 (by decide)
    refine ⟨_, rfl, _, rfl, _, _, rfl, rfl, .inl ⟨by omega, by omega⟩, _, _, rfl, rfl, .inl ⟨_, rfl, ?_⟩⟩
    refine ⟨_, _, rfl, rfl, (by show (2147483629 : Int) ≠ 0; decide), ?_⟩
    refine ⟨_, rfl, _, _, rfl, rfl, .inr ⟨by decide, by decide⟩, .inl ⟨_, rfl, ?_⟩⟩
    refine ⟨_, _, rfl, rfl, (by show (2147483587 : Int) ≠ 0; decide), ?_⟩
    exact q _ (m1 _ _ (by decide)).1 (m1 _ _ (by decide)).2

/-! ### generator, random -/
/-- a generator's list stands at g, its counter at most n -/
def Gen (H : Hp) (g : Addr) (n : Nat) : Prop := ∃ g0 g1 g2 : Int, H g = some (.lst [.int g0, .int g1, .int g2]) ∧ 0 ≤ g0 ∧ g0 < 2 ^ 2000 ∧ 0 ≤ g1 ∧ g1 < 2147483647 ∧ 0 ≤ g2 ∧ g2 ≤ n
theorem op_powW {X : Cx} : OpR X (binaryOp .Pow) (rI (fun i j => 0 ≤ j ∧ (Builtin.Int.intBits i : Int) * j ≤ 2 ^ 27) fun i j => .int (i ^ j.toNat)) := by
  rintro pins st σ H x y v u Q I rx ry ⟨i, j, rfl, rfl, ⟨h1, h2⟩, q⟩
  obtain ⟨t, rfl⟩ := rx
  obtain ⟨t2, rfl⟩ := ry
  exact pow_int h1 h2 ⟨.int _, H, I.tok _, ⟨_, rfl⟩, q⟩
def spGener (K : PySem.W.Frag) : Sp := fun xs H Q _ => ∃ (a : Addr) (ns : List Int) (i : Nat), xs = [.ref a, .int (i : Int)] ∧ i ≤ 1000 ∧ SqL K H a (ns.map V.int) ∧ ∀ p H', H p = none → Same H H' → Gen H' p (1000 * i) → Q (.ref p) H'
theorem scGener : FnScope ["script", "index", "seed"] ["script", "index"] (defScope sGener) := ⟨rfl, rfl, rfl, by decide +kernel, rfl, by decide +kernel, by decide +kernel⟩
theorem ok_gener {fC : Addr} {fdC : FuncData} (F : FnP K "_law_generator" sGener f fd) (B : Bi mg) (FC : FnP K "_law_cell" sCell fC fdC) (gC : mg "_law_cell" = some (.ref fC)) : FnG P w K mg base 2 f fd ["script", "index"] (spGener K) := by
  have GC : FnG P w K mg base 1 fC fdC ["script", "index"] (spCell K) := ok_cell FC B
  have bC : Binds K fdC ["script", "index"] [] := FC.bindsN fun _ _ _ _ _ _ us hl => match us, hl with | [_, _], _ => rfl
  refine okG F scGener (fun xs H Q E h => ?_) (fun cdv A outer s H vs Q E hr hn h => ?_)
  · obtain ⟨a, ns, i, rfl, _⟩ := h
    rfl
  · obtain ⟨a, ns, i, rfl, hi, hS, q⟩ := h
    refine ⟨_, pss_cons (ps_set (i := 2) scGener.nd rfl (Or.inl rfl) (pe_callG GC hr hn rfl gC FC.kp bC (pa_cons (pv 0) (pa_cons (pv 1) pa_nil))))
      (pss_one (ps_ret (pe_lst (pa_cons (pe_op op_modN (pe_callTy call_int1 (by rfl) B.int (by decide +kernel) (pa1 (pe_callB (call_max2 rfl) (by rfl) B.max (by decide +kernel) (pa_cons (pe_op op_sub (pv 2) (pe_op op_pow pe_int pe_int)) (pa_cons pe_int pa_nil))))) (pe_op op_powW (pe_op op_pow pe_int pe_int) pe_int))
        (pa_cons (pe_op op_modN (pe_callTy call_int1 (by rfl) B.int (by decide +kernel) (pa1 (pv 2))) pe_int) (pa_cons (pe_op op_mul pe_int (pv 1)) pa_nil)))))), ?_⟩
    refine ⟨_, rfl, _, rfl, a, ns, i, rfl, hS, fun z => ?_⟩
    refine ⟨_, rfl, _, _, rfl, rfl, ⟨by decide, by decide, by decide⟩, _, _, rfl, rfl, _, _, rfl, .inl ⟨_, rfl, _, _, rfl, rfl, ⟨by decide, by decide, by decide⟩, _, _, rfl, rfl, ⟨by decide, by decide +kernel⟩, ?_⟩⟩
    have big : (0 : Int) < (10 ^ (60 : Int).toNat) ^ (10 : Int).toNat := by decide
    have big2 : ((10 : Int) ^ (60 : Int).toNat) ^ (10 : Int).toNat < 2 ^ 2000 := by decide
    refine ⟨_, _, rfl, rfl, Int.ne_of_gt big, _, rfl, .inl ⟨_, rfl, _, _, rfl, rfl, (by show (2147483647 : Int) ≠ 0; decide), _, rfl, _, _, rfl, rfl, .inl ⟨by decide, by decide⟩, (by show 3 ≤ sizeLine; decide), fun p np => ?_⟩⟩
    refine q p _ np (fun b o e => by rw [upd_ne (ne_of_none e np)]; exact e) ⟨_, _, _, upd_same, Int.fmod_nonneg_of_pos _ big, Int.lt_trans (Int.fmod_lt_of_pos _ big) big2, Int.fmod_nonneg_of_pos _ (by decide), Int.fmod_lt_of_pos _ (by decide), by omega, by omega⟩

def spRandom : Sp := fun xs H Q _ => ∃ (g : Addr) (b : Int) (n : Nat), xs = [.ref g, .int b] ∧ 0 < b ∧ b < 2 ^ 90 ∧ Gen H g n ∧ n ≤ 2 ^ 40 ∧ ∀ (r : Int) (H' : Hp), 0 ≤ r → r < b → Gen H' g (n + 4) → (∀ c, c ≠ g → H' c = H c) → Q (.int r) H'
theorem scRandom : FnScope ["generator", "bound", "drawn", "turn"] ["generator", "bound"] (defScope sRandom) := ⟨rfl, rfl, rfl, by decide +kernel, rfl, by decide +kernel, by decide +kernel⟩
theorem ok_random {fC : Addr} {fdC : FuncData} (F : FnP K "_law_random" sRandom f fd) (B : Bi mg) (FC : FnP K "_law_hash" sHash fC fdC) (gC : mg "_law_hash" = some (.ref fC)) : FnG P w K mg base 2 f fd ["generator", "bound"] spRandom := by
  have GC : FnG P w K mg base 1 fC fdC ["seed", "index"] spHash := ok_hash FC B
  have bC : Binds K fdC ["seed", "index"] [] := FC.bindsN fun _ _ _ _ _ _ us hl => match us, hl with | [_, _], _ => rfl
  refine okG F scRandom (fun xs H Q E h => ?_) (fun cdv A outer s H vs Q E hr hn h => ?_)
  · obtain ⟨g, b, n, rfl, _⟩ := h
    rfl
  · obtain ⟨g, b, n, rfl, b0, b1, ⟨g0, g1, g2, hg, g00, g01, g10, g11, g20, g21⟩, hn1, q⟩ := h
    refine ⟨_, pss_cons (ps_if (pt_cmpR op_gt (pe_ix ix_list (pv 0) pe_int (fun _ _ => rfl)) pe_int (nomark _))
        (pss_cons (ps_set (i := 2) scRandom.nd rfl (Or.inl rfl) (pe_op op_modN (pe_callTy call_int1 (by rfl) B.int (by decide +kernel) (pa1 (pe_ix ix_list (pv 0) pe_int (fun _ _ => rfl)))) (pv 1)))
        (pss_cons (ps_asg (pe_op op_fdivW (pe_ix ix_list (pv 0) pe_int (fun _ _ => rfl)) (pv 1)) (pg_sub (pv 0) pe_int set_list))
        (pss_one (ps_ret (pv 2))))) pss_nil)
      (pss_cons (ps_set (i := 2) scRandom.nd rfl (Or.inl rfl) pe_int)
      (pss_cons (ps_for PassesOwn.never rfl (pi_range1 (by rfl) B.range (pa1 (pe_op op_add pe_int (pe_op op_fdivW (pe_bits (pv 1)) pe_int)))) (pg_name (i := 3) scRandom.nd rfl (Or.inl rfl))
        (pss_cons (ps_asg (pe_op op_add (pe_ix ix_list (pv 0) pe_int (fun _ _ => rfl)) pe_int) (pg_sub (pv 0) pe_int set_list))
        (pss_one (ps_set (i := 2) scRandom.nd rfl (Or.inl rfl) (pe_op op_add (pe_op op_mul (pv 2) pe_int) (pe_callG GC hr hn rfl gC FC.kp bC (pa_cons (pe_ix ix_list (pv 0) pe_int (fun _ _ => rfl)) (pa_cons (pe_ix ix_list (pv 0) pe_int (fun _ _ => rfl)) pa_nil))))))))
      (pss_one (ps_ret (pe_op op_modN (pe_callTy call_int1 (by rfl) B.int (by decide +kernel) (pa1 (pv 2))) (pv 1)))))), ?_⟩
    have at0 : ∀ (z : Int) (r : List V), atI (V.int z :: r) 0 = some (V.int z) := fun z r => atI_nat (j := 0) rfl
    refine ⟨_, rfl, g, _, 0, .int g0, rfl, rfl, SqL.of hg, at0 _ _, _, _, rfl, rfl, _, rfl, ite2 (fun c => ?_) (fun c => ?_)⟩
    · have g0p : 0 < g0 := of_decide_eq_true c
      have bn : b.natAbs < 2 ^ 90 := by omega
      refine ⟨_, rfl, g, _, 0, .int g0, rfl, rfl, SqL.of hg, at0 _ _, .inl ⟨_, rfl, _, rfl, _, _, rfl, rfl, Int.ne_of_gt b0, ?_⟩⟩
      refine ⟨_, rfl, g, _, 0, .int g0, rfl, rfl, SqL.of hg, at0 _ _, _, rfl, _, _, rfl, rfl, wide_div b0 bn (by decide) (by decide), ?_⟩
      refine ⟨_, rfl, g, _, 0, 0, rfl, rfl, hg, rfl, _, rfl, ?_⟩
      refine q _ _ (Int.fmod_nonneg_of_pos _ b0) (Int.fmod_lt_of_pos _ b0) ⟨_, g1, g2, upd_same, Int.ediv_nonneg g00 (Int.le_of_lt b0), ?_, g10, g11, g20, by omega⟩ fun c hc => upd_ne hc
      exact Int.lt_of_le_of_lt (Int.ediv_le_self _ g00) g01
    · have bits : Builtin.Int.intBits b ≤ 90 := by
        have h1 : b.natAbs < 2 ^ 90 := by omega
        have h2 := PySem.Flt.log2_lt_of (k := 90) (by decide) h1
        unfold Builtin.Int.intBits
        split <;> omega
      have at1 : ∀ (x z : Int) (r : List V), atI (V.int x :: V.int z :: r) 1 = some (V.int z) := fun x z r => atI_nat (j := 1) rfl
      have at2 : ∀ (x y z : Int) (r : List V), atI (V.int x :: V.int y :: V.int z :: r) 2 = some (V.int z) := fun x y z r => atI_nat (j := 2) rfl
      refine ⟨_, rfl, b, rfl, _, _, rfl, rfl, ⟨by decide, by decide⟩, _, _, rfl, rfl, _, rfl, by omega, by omega, ?_⟩
      have e30 : (1 + ((Builtin.Int.intBits b : Nat) : Int) / 30).toNat ≤ 4 := by omega
      generalize (1 + ((Builtin.Int.intBits b : Nat) : Int) / 30).toNat = m at e30
      refine for_range (lo := 0) (n := m) (fun i σ H' => ∃ (dr : Int) (tv : Option V), σ = [some (.ref g), some (.int b), some (.int dr), tv] ∧ 0 ≤ dr ∧ H' = upd H g (.lst [.int g0, .int g1, .int (g2 + i)])) ⟨0, none, rfl, by decide, ?_⟩ ?_ ?_
      · funext c
        by_cases hc : c = g
        · rw [hc, upd_same, hg]
          simp
        · rw [upd_ne hc]
      · rintro i σ H' hi ⟨dr, tv, rfl, d0, rfl⟩
        refine ⟨_, rfl, g, _, 2, .int (g2 + i), rfl, rfl, SqL.of upd_same, at2 _ _ _ _, _, _, rfl, rfl, _, rfl, g, _, 2, 2, rfl, rfl, upd_same, rfl, ?_⟩
        refine ⟨_, rfl, _, _, rfl, rfl, .inr ⟨by decide, by decide⟩, _, rfl, g, _, 1, .int g1, rfl, rfl, SqL.of upd_same, at1 _ _ _, _, rfl, g, _, 2, .int (g2 + i + 1), rfl, rfl, SqL.of upd_same, at2 _ _ _ _, g1, g2 + i + 1, rfl, g10, g11, by omega, by omega, fun r r0 r1 => ?_⟩
        refine ⟨_, _, rfl, rfl, _, _, rfl, ?_, ?_⟩
        · have : 0 ≤ dr * 2147483587 := Int.mul_nonneg d0 (by decide)
          omega
        · rw [upd_upd]
          have e : g2 + (i : Int) + 1 = g2 + ((i + 1 : Nat) : Int) := by omega
          rw [← e]
          rfl
      · rintro σ H' ⟨dr, tv, rfl, d0, rfl⟩
        refine ⟨_, rfl, .inl ⟨_, rfl, _, rfl, _, _, rfl, rfl, Int.ne_of_gt b0, ?_⟩⟩
        exact q _ _ (Int.fmod_nonneg_of_pos _ b0) (Int.fmod_lt_of_pos _ b0) ⟨g0, g1, g2 + m, upd_same, g00, g01, g10, g11, by omega, by omega⟩ fun c hc => upd_ne hc
end
end Kx
/-! The program's checks. -/
namespace Kx
open PySem PySem.Spec PyProof.Rows L2 Xa Xb Xc Xd Xs Xp Xm Ya Yb Yc Yd
abbrev sWhole : Stmt := top 6
abbrev sBetween : Stmt := top 7
abbrev sCkPlaces : Stmt := top 8
structure Bi2 (mg : Str → Option Value) : Prop extends Bi mg where
  isi : mg "isinstance" = none
  bool : mg "bool" = none
  str : mg "str" = none
  all : mg "all" = none
  enum : mg "enumerate" = none
  repr : mg "repr" = none
/-- how a def of the text stands -/
structure Dfn (K : PySem.W.Frag) (mg : Str → Option Value) (x : Str) (st : Stmt) : Prop where
  at_ : ∃ (f : Addr) (fd : FuncData), FnP K x st f fd ∧ mg x = some (.ref f)
section
variable {P : Program} {w : World} {K : PySem.W.Frag} {mg : Str → Option Value} {base : Heap} {f : Addr} {fd : FuncData}
def spWhole (K : PySem.W.Frag) : Sp := fun xs H Q _ => ∃ v b, xs = [v] ∧ Whl K H v b ∧ Q (.bl b) H
theorem scWhole : FnScope ["value"] ["value"] (defScope sWhole) := ⟨rfl, rfl, rfl, by decide +kernel, rfl, by decide +kernel, by decide +kernel⟩
theorem can_whole (D : Dfn K mg "is_whole" sWhole) (B : Bi2 mg) : Can P w K mg base CX0 1 "is_whole" ["value"] (spWhole K) := by
  obtain ⟨f, fd, F, g⟩ := D.at_
  refine FnOk.can (F.ok scWhole (fun xs H Q E h => ?_) (fun cdv A outer s H vs Q E hr h => ?_)) F g fun _ _ _ _ _ _ us hl => match us, hl with | [_], _ => rfl
  · obtain ⟨v, b, rfl, _⟩ := h
    rfl
  · obtain ⟨v, b, rfl, ⟨T, b1, b2, kd, e1, e2, rfl⟩, q⟩ := h
    refine ⟨_, PSs.nox (pss_one (ps_ret (pe_and (pe_bi call_kd B.isi (pa_cons (pv 0) (pa1 (pe_tyv "int" B.int)))) (pe_one (pe_not (pe_bi call_kd B.isi (pa_cons (pv 0) (pa1 (pe_tyv "bool" B.bool))))))))), ?_⟩
    refine ⟨_, rfl, v, "int", b1, rfl, ⟨T, kd, e1⟩, b1, rfl, ?_⟩
    cases b1 with
    | true => exact iteT ⟨_, rfl, v, "bool", b2, rfl, ⟨T, kd, e2⟩, b2, rfl, q⟩
    | false => exact iteF q
def spBetween (K : PySem.W.Frag) : Sp := fun xs H Q _ => ∃ v o lo hi, xs = [v, .int lo, .int hi] ∧ Num K H v o ∧ Q (.bl (inR o lo hi)) H
theorem scBetween : FnScope ["value", "low", "high"] ["value", "low", "high"] (defScope sBetween) := ⟨rfl, rfl, rfl, by decide +kernel, rfl, by decide +kernel, by decide +kernel⟩
theorem can_between (D : Dfn K mg "is_between" sBetween) (cW : Can P w K mg base CX0 1 "is_whole" ["value"] (spWhole K)) : Can P w K mg base CX0 2 "is_between" ["value", "low", "high"] (spBetween K) := by
  obtain ⟨f, fd, F, g⟩ := D.at_
  refine FnOk.can (F.ok scBetween (fun xs H Q E h => ?_) (fun cdv A outer s H vs Q E hr h => ?_)) F g fun _ _ _ _ _ _ us hl => match us, hl with | [_, _, _], _ => rfl
  · obtain ⟨v, o, lo, hi, rfl, _⟩ := h
    rfl
  · obtain ⟨v, o, lo, hi, rfl, N, q⟩ := h
    refine ⟨_, PSs.nox (pss_one (ps_ret (pe_and (pe_can cW hr pass0 (pa1 (pv 0))) (pe_one (pe_chain op_le op_le (pv 1) (pv 0) (pv 2)))))), ?_⟩
    refine ⟨_, rfl, v, o.isSome, rfl, N.whl, _, rfl, ?_⟩
    cases N with
    | is i =>
      refine iteT ⟨_, rfl, _, rfl, lo, i, rfl, rfl, _, rfl, ?_⟩
      by_cases c : lo ≤ i
      · rw [decide_eq_true c]
        refine iteT ⟨_, rfl, i, hi, rfl, rfl, ?_⟩
        have e : inR (some i) lo hi = decide (i ≤ hi) := by
          show (decide (lo ≤ i) && decide (i ≤ hi)) = _
          rw [decide_eq_true c, Bool.true_and]
        rw [e] at q
        exact q
      · rw [decide_eq_false c]
        refine iteF ?_
        have e : inR (some i) lo hi = false := by
          show (decide (lo ≤ i) && decide (i ≤ hi)) = _
          rw [decide_eq_false c, Bool.false_and]
        rw [e] at q
        exact q
    | no h => exact iteF q
/-- refused: an error of the class at C is raised with the value v -/
def Ref (E : XK) (H : Hp) (C : Addr) (v : V) : Prop := ∀ d, H d = none → E (.ref C) (some d) (upd H d (.xd [("value", v)]))
def spCkPlaces (K : PySem.W.Frag) (CN : Addr) : Sp := fun xs H Q E => ∃ v o, xs = [v] ∧ Num K H v o ∧ (inR o 1 2 = true → Q .non H) ∧ (inR o 1 2 = false → Ref E H CN v)
theorem scCkPlaces : FnScope ["places"] ["places"] (defScope sCkPlaces) := ⟨rfl, rfl, rfl, by decide +kernel, rfl, by decide +kernel, by decide +kernel⟩
theorem can_ckplaces {CN : Addr} {tm : Tok} (D : Dfn K mg "check_places" sCkPlaces) (gM : mg "MOST_PLACES" = some (.int 2 tm)) (M : Xc.XMake P w K mg base "InvalidNumber" CN "value") (cB : Can P w K mg base CX0 2 "is_between" ["value", "low", "high"] (spBetween K)) :
    Can P w K mg base (L2.CX P w) 3 "check_places" ["places"] (spCkPlaces K CN) := by
  obtain ⟨f, fd, F, g⟩ := D.at_
  refine FnOk.can (F.ok scCkPlaces (fun xs H Q E h => ?_) (fun cdv A outer s H vs Q E hr h => ?_)) F g fun _ _ _ _ _ _ us hl => match us, hl with | [_], _ => rfl
  · obtain ⟨v, o, rfl, _⟩ := h
    rfl
  · obtain ⟨v, o, rfl, N, yes, no⟩ := h
    refine ⟨_, pss_one (ps_if (pt_not (pt_val (pe_can cB hr pass0 (pa_cons (pv 0) (pa_cons pe_int (pa1 (pe_glob (v := .int 2) (by rfl) gM ⟨_, rfl⟩))))))) (pss_one (ps_rz rfl M (hr.mono (by decide)) (takes_of rfl rfl rfl rfl) (by rfl) (pv 0))) pss_nil), ?_⟩
    refine ⟨_, rfl, v, o, 1, 2, rfl, N, _, rfl, ?_⟩
    cases e : inR o 1 2 with
    | true => exact iteF (yes e)
    | false => exact iteT ⟨_, rfl, no e⟩
end
end Kx
/-! The program's texts: words, pieces. -/
namespace Kx
open PySem PySem.Spec PyProof.Rows L2 Xa Xb Xc Xd Xs Xp Xm Xl Xq Ya Yb Yc Yd Ye Yf
abbrev sWordsOf : Stmt := top 13
abbrev sIsWord : Stmt := top 14
abbrev sPieceOf : Stmt := top 15
abbrev sRead : Stmt := top 12
theorem lc_yes2 {A B : Hp → Prop} {σ : L2.St} {H : Hp} (h : A H) : tYes σ H (fun b H3 => if b = true then A H3 else B H3) := by
  show if true = true then A H else B H
  rw [if_pos rfl]
  exact h
theorem lc_if {A B : Prop} {b : Bool} (h : b = true → A) (h' : b = false → B) : (if b = true then A else B) := by
  cases b with
  | true =>
    rw [if_pos rfl]
    exact h rfl
  | false =>
    rw [if_neg Bool.false_ne_true]
    exact h' rfl
theorem more_same {H0 H : Hp} {D : Addr} {o : HO} (sm : Same H0 H) (nD : H0 D = none) : Same H0 (upd H D o) := fun c o' e => by
  rw [upd_ne (ne_of_none e nD)]
  exact sm c o' e
section
variable {P : Program} {w : World} {K : PySem.W.Frag} {mg : Str → Option Value} {base : Heap} {f : Addr} {fd : FuncData}
def spWordsOf : Sp := fun xs H Q _ => ∃ z : Str, xs = [.str z] ∧ z.length ≤ 2000 ∧ ∀ p H', Same H H' → H p = none → H' p = some (.lst ((wdsOf z).map V.str)) → Q (.ref p) H'
theorem scWordsOf : FnScope ["text", "word"] ["text"] (defScope sWordsOf) := ⟨rfl, rfl, rfl, by decide +kernel, rfl, by decide +kernel, by decide +kernel⟩
theorem can_wordsof (D : Dfn K mg "words_of" sWordsOf) : Can P w K mg base CX0 1 "words_of" ["text"] spWordsOf := by
  obtain ⟨f, fd, F, g⟩ := D.at_
  refine FnOk.can (FunD.okF F scWordsOf (by decide +kernel) (by decide) (fun xs H Q E h => ?_) (fun cdv A outer s H vs Q E hr h => ?_)) F g fun _ _ _ _ _ _ us hl => match us, hl with | [_], _ => rfl
  · obtain ⟨z, rfl, _⟩ := h
    rfl
  · obtain ⟨z, rfl, hz, q⟩ := h
    refine ⟨_, CwR.psst_one (CwR.pst_ret (pet_lc (own := [("word", 1)]) (g := gName 1) rfl scWordsOf.nd (pit_list (pet_split (CwR.pet_replC (pv 0)) pe_str))
      (blkOk_by (own := [("word", 1)]) (N := ["text", "word"]) (sc := defScope sWordsOf) (by decide +kernel))
      (fun _ _ _ _ _ => pg_name (i := 1) scWordsOf.nd rfl (Or.inl rfl)) (fun _ _ _ _ _ => pts_one (pt_cmpR op_ne (pv 1) pe_str (nomark _))) (fun _ _ _ _ _ => pv 1))), ?_⟩
    have fl := flat_len z
    refine ⟨_, rfl, z, rfl, ?_, ⟨_, rfl⟩, _, _, rfl, rfl, rfl, ?_, fun p0 n0 => ⟨p0, rfl, ⟨_, SqL.of upd_same⟩, fun D nD => ?_⟩⟩
    · have e : Str.length (" " : Str) = 1 := rfl
      rw [e]
      omega
    · show (flat z).length + 2 ≤ sizeLine
      rw [fl, sizeLine_eq]
      omega
    have h0 : (upd H p0 (.lst ((partsOf z).map V.str))) p0 = some (.lst ((partsOf z).map V.str)) := upd_same
    have s0 : Same H (upd H p0 (.lst ((partsOf z).map V.str))) := upd_same_as n0
    replace nD : (upd H p0 (.lst ((partsOf z).map V.str))) D = none := nD
    show ∃ W, _
    have few := parts_few z
    have hD : H D = none := s0.free nD
    refine lc_list (K := K) (a := p0) (xs := (partsOf z).map V.str) (fun i H' => H' D = some (.lst ((((partsOf z).take i).filter full).map V.str)) ∧ Same (upd H p0 (.lst ((partsOf z).map V.str))) H') ⟨upd_same, upd_same_as nD⟩ (fun i H' _ ⟨_, sm⟩ => SqL.of (sm _ _ h0)) ?_ ?_
    · rintro i x H' hx ⟨hd, sm⟩
      rw [List.getElem?_map] at hx
      obtain ⟨y, hy, rfl⟩ : ∃ y, (partsOf z)[i]? = some y ∧ x = V.str y := by
        cases e : (partsOf z)[i]? with
        | none =>
          rw [e] at hx
          cases hx
        | some y =>
          rw [e] at hx
          exact ⟨y, rfl, (Option.some.inj hx).symm⟩
      have tk : (partsOf z).take (i + 1) = (partsOf z).take i ++ [y] := by rw [List.take_add_one, hy] <;> rfl
      have len : (((partsOf z).take i).filter full).length ≤ 2001 := Nat.le_trans (List.length_filter_le _ _) (Nat.le_trans (List.length_take_le _ _) (by
        have := (List.getElem?_eq_some_iff.mp hy).1
        omega))
      refine ⟨rfl, _, rfl, rfl, _, rfl, ?_⟩
      have en : decide (V.str y = V.str ("" : Str)) = decide (y = Str.empty) := by
        by_cases c : y = Str.empty
        · rw [decide_eq_true c, c]
          exact decide_eq_true rfl
        · rw [decide_eq_false c]
          exact decide_eq_false fun z => c (by injection z)
      rw [en]
      generalize hb : (!decide (y = Str.empty)) = b
      refine lc_if (b := b) (fun c => ?_) (fun c => ?_)
      · have fy : full y = true := hb.trans c
        refine ⟨_, rfl, _, hd, ?_, ?_, more_same sm nD⟩
        · rw [List.length_map, sizeLine_eq]
          omega
        · rw [upd_same, tk, List.filter_append, List.filter_cons_of_pos fy, List.map_append]
          rfl
      · have fy : ¬ full y = true := fun z => by
          have z : (!decide (y = Str.empty)) = true := z
          rw [hb, c] at z
          cases z
        refine ⟨?_, sm⟩
        rw [tk, List.filter_append, List.filter_cons_of_neg fy]
        simpa using hd
    · rintro H' ⟨hd, sm⟩
      rw [List.length_map, List.take_length] at hd
      exact q D H' (s0.trans sm) hD hd
def spIsWord : Sp := fun xs H Q _ => ∃ (z : Str) (pl : Nat), xs = [.str z, .int pl] ∧ 1 ≤ pl ∧ pl ≤ 2 ∧ z.length ≤ 2000 ∧ ∀ H', Same H H' → Q (.bl (okW pl z)) H'
theorem scIsWord : FnScope ["word", "places", "sign"] ["word", "places"] (defScope sIsWord) := ⟨rfl, rfl, rfl, by decide +kernel, rfl, by decide +kernel, by decide +kernel⟩
theorem str_get {z : Str} {i : Nat} {c : Nat} (h : z.cps[i]? = some c) : (sg z)[i]? = some c := by
  rw [← h]
  exact Array.getElem?_toList
theorem can_isword (D : Dfn K mg "is_word" sIsWord) (B : Bi2 mg) {ts : Tok} (gS : mg "SIGNS" = some (.str lS ts)) : Can P w K mg base CX0 1 "is_word" ["word", "places"] spIsWord := by
  obtain ⟨f, fd, F, g⟩ := D.at_
  refine FnOk.can (F.ok scIsWord (fun xs H Q E h => ?_) (fun cdv A outer s H vs Q E hr h => ?_)) F g fun _ _ _ _ _ _ us hl => match us, hl with | [_, _], _ => rfl
  · obtain ⟨z, pl, rfl, _⟩ := h
    rfl
  · obtain ⟨z, pl, rfl, p1, p2, hz, q⟩ := h
    refine ⟨_, PSs.nox (pss_one (ps_ret (pe_and (pe_cmpR op_eq (pe_op op_modN (pe_bi call_len_str B.len (pa1 (pv 0))) (pv 1)) pe_int (nomark _)) (pe_one (pe_bi (cr_all rfl) B.all (pa1
      (pe_lc (own := [("sign", 2)]) (g := gName 2) (tt := tYes) rfl scIsWord.nd (pi_str (pv 0)) (blkOk_by (own := [("sign", 2)]) (N := ["word", "places", "sign"]) (sc := defScope sIsWord) (by decide +kernel))
        (fun _ _ _ _ _ => pg_name (i := 2) scIsWord.nd rfl (Or.inl rfl)) (fun _ _ _ _ _ => pts_nil) (fun _ _ _ _ _ => pe_cmpR op_in_sign (pv 2) (pe_glob (v := .str lS) (by rfl) gS ⟨_, rfl⟩) rfl)))))))), ?_⟩
    refine ⟨_, rfl, z, rfl, by rw [sizeLine_eq]; omega, _, rfl, _, _, rfl, rfl, (by show (pl : Int) ≠ 0; omega), rfl, _, rfl, ?_⟩
    have em : decide (V.int (((z.length : Nat) : Int).fmod (pl : Int)) = V.int 0) = decide (z.length % pl = 0) := by
      have e : ((z.length : Nat) : Int).fmod (pl : Int) = ((z.length % pl : Nat) : Int) := by
        rw [Int.fmod_eq_emod_of_nonneg _ (by omega)]
        rfl
      rw [e]
      by_cases c : z.length % pl = 0
      · rw [decide_eq_true c, c]
        exact decide_eq_true rfl
      · rw [decide_eq_false c]
        exact decide_eq_false fun z => c (by injection z with z; omega)
    rw [em]
    by_cases c : z.length % pl = 0
    · rw [decide_eq_true c]
      refine iteT ⟨_, rfl, z, rfl, fun D nD => ?_⟩
      refine lc_it (walk_str (z := z)) (fun i H' => H' D = some (.lst (((sg z).take i).map fun c => V.bl (isS c))) ∧ Same H H') ⟨upd_same, upd_same_as nD⟩ (fun _ _ _ _ => trivial) ?_ ?_
      · rintro i x H' H2 hi ⟨hd, sm⟩ ⟨rfl, cc, hc, rfl⟩
        have hc := str_get hc
        have tk : (sg z).take (i + 1) = (sg z).take i ++ [cc] := by rw [List.take_add_one, hc] <;> rfl
        refine ⟨rfl, lc_yes2 ⟨_, rfl, _, _, rfl, rfl, _, hd, ?_, ?_, more_same sm nD⟩⟩
        · have : i < z.length := hi
          rw [List.length_map, sizeLine_eq]
          have := List.length_take_le i (sg z)
          omega
        · rw [upd_same, tk, List.map_append]
          rfl
      · rintro H' ⟨hd, sm⟩
        have e : (sg z).take z.cps.size = sg z := List.take_of_length_le (Nat.le_of_eq (Array.length_toList))
        rw [e] at hd
        refine ⟨D, (sg z).map isS, rfl, SqL.of (by rw [hd, List.map_map] <;> rfl), ?_⟩
        have ea : ((sg z).map isS).all id = okW pl z := by
          rw [okW, decide_eq_true c, Bool.true_and, List.all_map]
          rfl
        rw [ea]
        exact q H' sm
    · rw [decide_eq_false c]
      refine iteF ?_
      have ea : okW pl z = false := by rw [okW, decide_eq_false c, Bool.false_and]
      have := q H (Same.refl H)
      rw [ea] at this
      exact this
def spPieceOf : Sp := fun xs H Q _ => ∃ z : Str, xs = [.str z] ∧ z.length ≤ 2000 ∧ ∀ a H', Same H H' → H a = none → H' a = some (.lst ((pcN (at_ (sg z)) z.length).map V.int)) → Q (.ref a) H'
theorem scPieceOf : FnScope ["signs", "place", "sign"] ["signs"] (defScope sPieceOf) := ⟨rfl, rfl, rfl, by decide +kernel, rfl, by decide +kernel, by decide +kernel⟩
theorem can_pieceof (D : Dfn K mg "piece_of" sPieceOf) (B : Bi2 mg) {ts : Tok} (gO : mg "TAKEN_SIGNS" = some (.str lO ts)) : Can P w K mg base CX0 1 "piece_of" ["signs"] spPieceOf := by
  obtain ⟨f, fd, F, g⟩ := D.at_
  refine FnOk.can (F.ok scPieceOf (fun xs H Q E h => ?_) (fun cdv A outer s H vs Q E hr h => ?_)) F g fun _ _ _ _ _ _ us hl => match us, hl with | [_], _ => rfl
  · obtain ⟨z, rfl, _⟩ := h
    rfl
  · obtain ⟨z, rfl, hz, q⟩ := h
    refine ⟨_, PSs.nox (pss_one (ps_ret (pe_lc (own := [("place", 1), ("sign", 2)]) (g := gTup K 2 (gCons (gName 1) (gCons (gName 2) gNil))) rfl scPieceOf.nd (pi_enumS (by rfl) B.enum (pa1 (pv 0))) (blkOk_by (own := [("place", 1), ("sign", 2)]) (N := ["signs", "place", "sign"]) (sc := defScope sPieceOf) (by decide +kernel))
        (fun _ _ _ _ _ => pg_tup (by rfl) (pgs_cons (pg_name (i := 1) scPieceOf.nd rfl (Or.inl rfl)) (pgs_cons (pg_name (i := 2) scPieceOf.nd rfl (Or.inl rfl)) pgs_nil))) (fun _ _ _ _ _ => pts_one (pt_cmpR op_in_sign (pv 2) (pe_glob (v := .str lO) (by rfl) gO ⟨_, rfl⟩) rfl)) (fun _ _ _ _ _ => pv 1)))), ?_⟩
    refine ⟨_, rfl, z, rfl, fun D nD => ?_⟩
    refine lc_it (walk_enumS (z := z)) (fun i H' => H' D = some (.lst ((pcN (at_ (sg z)) i).map V.int)) ∧ Same H H') ⟨upd_same, upd_same_as nD⟩ (fun _ _ _ _ => trivial) ?_ ?_
    · rintro i x H' H2 hi ⟨hd, sm⟩ ⟨T, cc, rfl, nT, hc, rfl⟩
      have hc := str_get hc
      have ea : at_ (sg z) i = isO cc := by
        show ((sg z)[i]?).any isO = _
        rw [hc]
        rfl
      have sm2 := more_same (o := .tup [.int (i : Int), .str ⟨#[cc]⟩]) (H := H') (H0 := H) sm (sm.free nT)
      have hd2 : (upd H' T (.tup [.int (i : Int), .str ⟨#[cc]⟩])) D = some (.lst ((pcN (at_ (sg z)) i).map V.int)) := by
        rw [upd_ne (ne_of_none hd nT)]
        exact hd
      refine ⟨T, _, rfl, SqT.of upd_same, rfl, ?_⟩
      refine ⟨.int (i : Int), _, rfl, .str ⟨#[cc]⟩, _, rfl, rfl, ?_⟩
      refine ⟨rfl, _, rfl, _, _, rfl, rfl, _, rfl, ?_⟩
      refine lc_if (b := isO cc) (fun c => ?_) (fun c => ?_)
      · refine ⟨_, rfl, _, hd2, ?_, ?_, more_same sm2 nD⟩
        · rw [List.length_map, sizeLine_eq]
          have := pcN_len (at_ (sg z)) i
          have : i < z.length := hi
          omega
        · rw [upd_same]
          show _ = some (HO.lst ((pcN (at_ (sg z)) i ++ (if at_ (sg z) i = true then [(i : Int)] else [])).map V.int))
          rw [ea, if_pos c, List.map_append]
          rfl
      · refine ⟨?_, sm2⟩
        show _ = some (HO.lst ((pcN (at_ (sg z)) i ++ (if at_ (sg z) i = true then [(i : Int)] else [])).map V.int))
        rw [ea, c, if_neg Bool.false_ne_true, List.append_nil]
        exact hd2
    · rintro H' ⟨hd, sm⟩
      exact q D H' sm nD hd
/-! ### read_plan -/
def spRead (K : PySem.W.Frag) (CN CT : Addr) : Sp := fun xs H Q E => ∃ v p o, xs = [v, p] ∧ Num K H p o ∧ (inR o 1 2 = false → Ref E H CN p) ∧ (inR o 1 2 = true → ∃ pl : Nat, p = .int pl ∧ 1 ≤ pl ∧ pl ≤ 2 ∧ ∃ b, IsK K H v "str" b ∧ (b = false → Ref E H CT v) ∧
  (b = true → ∃ z : Str, v = .str z ∧ z.length ≤ 1000 ∧ (dueOf z pl = none → ∀ H', Same H H' → Ref E H' CT (.str z)) ∧ ∀ ps, dueOf z pl = some ps → ∀ a ks H', Same H H' → H a = none → LL H' a ks → New H a ks → ks.map (·.2) = ps → Q (.ref a) H'))
theorem scRead : FnScope ["text", "places", "words", "word", "at"] ["text", "places"] (defScope sRead) := ⟨rfl, rfl, rfl, by decide +kernel, rfl, by decide +kernel, by decide +kernel⟩
theorem strs_get {ws : List Str} {i : Nat} {x : V} (h : (ws.map V.str)[i]? = some x) : ∃ y, ws[i]? = some y ∧ x = V.str y := by
  rw [List.getElem?_map] at h
  cases e : ws[i]? with
  | none =>
    rw [e] at h
    cases h
  | some y =>
    rw [e] at h
    exact ⟨y, rfl, (Option.some.inj h).symm⟩
theorem rng_size {n pl : Nat} (p1 : 1 ≤ pl) (p2 : pl ≤ 2) (d : n % pl = 0) : Builtin.Range.rangeSize 0 (n : Int) (pl : Int) = ((n / pl : Nat) : Int) := by
  unfold Builtin.Range.rangeSize
  rw [if_pos (by omega)]
  rcases (by omega : pl = 1 ∨ pl = 2) with rfl | rfl
  · by_cases c : (0 : Int) < n
    · rw [if_pos c]
      have : ((n : Int) - 0 - 1) / ((1 : Nat) : Int) = n - 1 := by
        show ((n : Int) - 0 - 1) / 1 = _
        rw [Int.ediv_one]
        omega
      rw [this, Nat.div_one]
      omega
    · rw [if_neg c, Nat.div_one]
      omega
  · by_cases c : (0 : Int) < n
    · rw [if_pos c]
      have : ((n : Int) - 0 - 1) / ((2 : Nat) : Int) = ((n : Int) - 0 - 1) / 2 := rfl
      rw [this]
      omega
    · rw [if_neg c]
      omega
theorem fits_small {i : Int} (h : i.natAbs ≤ 100000) : Builtin.Range.rangeFitsLong i = true := by
  unfold Builtin.Range.rangeFitsLong
  simp
  omega
theorem rng_ok {n pl : Nat} (p1 : 1 ≤ pl) (p2 : pl ≤ 2) (d : n % pl = 0) (hn : n ≤ 10000) : RgC 0 (n : Int) (pl : Int) (n / pl) := by
  have e := rng_size p1 p2 d
  have l : n / pl ≤ n := Nat.div_le_self _ _
  refine ⟨by omega, by omega, ?_, e⟩
  unfold Builtin.Range.small
  rw [e]
  clear e
  generalize n / pl = m at l ⊢
  rw [fits_small (by decide), fits_small (by omega), fits_small (by omega), fits_small (by omega), if_pos (by omega), fits_small (by omega)]
  simp
theorem can_read {CN CT : Addr} {ts : Tok} (D : Dfn K mg "read_plan" sRead) (B : Bi2 mg) (MT : Xc.XMake P w K mg base "InvalidText" CT "value") (cC : Can P w K mg base (L2.CX P w) 3 "check_places" ["places"] (spCkPlaces K CN))
    (cW : Can P w K mg base CX0 1 "words_of" ["text"] spWordsOf) (cI : Can P w K mg base CX0 1 "is_word" ["word", "places"] spIsWord) (cP : Can P w K mg base CX0 1 "piece_of" ["signs"] spPieceOf) :
    Can P w K mg base (L2.CX P w) 4 "read_plan" ["text", "places"] (spRead K CN CT) := by
  obtain ⟨f, fd, F, g⟩ := D.at_
  refine FnOk.can (F.ok scRead (fun xs H Q E h => ?_) (fun cdv A outer s H vs Q E hr h => ?_)) F g fun _ _ _ _ _ _ us hl => match us, hl with | [_, _], _ => rfl
  · obtain ⟨v, p, o, rfl, _⟩ := h
    rfl
  · obtain ⟨v, p, o, rfl, N, noN, yes⟩ := h
    have h1 := hr.mono (show 1 ≤ 3 by decide)
    have pass : Passes (L2.CX P w) (cxOf (L2.CX P w) P w K mg base ["text", "places", "words", "word", "at"] "read_plan" (defScope sRead) f cdv A outer s H E) E := passes_call (takes_of rfl rfl rfl rfl) fun _ _ _ _ z => z
    refine ⟨_, pss_cons (ps_expr (pe_can cC hr pass (pa1 (pv 1))))
      (pss_cons (ps_if (pt_not (pt_val (pe_bi call_kd B.isi (pa_cons (pv 0) (pa1 (pe_tyv "str" B.str)))))) (pss_one (ps_rz rfl MT (hr.mono (by decide)) (takes_of rfl rfl rfl rfl) (by rfl) (pv 0))) pss_nil)
      (pss_cons (ps_set (i := 2) scRead.nd rfl (.inl rfl) (pe_can cW h1 pass0 (pa1 (pv 0))))
      (pss_cons (ps_if (PW.pt (pw_or (pt_cmpR op_eq (pe_bi call_len_seq B.len (pa1 (pv 2))) pe_int (nomark _)) (pw_or1 (pt_not (pt_val (pe_bi (cr_all rfl) B.all (pa1
        (pe_lc (own := [("word", 3)]) (g := gName 3) (tt := tYes) rfl scRead.nd (pi_list (pv 2)) (blkOk_by (own := [("word", 3)]) (N := ["text", "places", "words", "word", "at"]) (sc := defScope sRead) (by decide +kernel))
          (fun _ _ _ _ _ => pg_name (i := 3) scRead.nd rfl (Or.inl rfl)) (fun _ _ _ _ _ => pts_nil) (fun _ _ _ _ _ => pe_can cI h1 pass0 (pa_cons (pv 3) (pa1 (pv 1)))))))))))) (pss_one (ps_rz rfl MT (hr.mono (by decide)) (takes_of rfl rfl rfl rfl) (by rfl) (pv 0))) pss_nil)
      (pss_one (ps_ret (pe_lc2 (own := [("word", 3), ("at", 4)]) (vs1 := [4]) (g := gName 3) (tt := tYes) (g1 := gName 4) (tt1 := tYes) rfl scRead.nd (pi_list (pv 2)) (blkOk_by (own := [("word", 3), ("at", 4)]) (N := ["text", "places", "words", "word", "at"]) (sc := defScope sRead) (by decide +kernel)) (by decide)
          (fun _ _ _ _ _ => pg_name (i := 3) scRead.nd rfl (Or.inl rfl)) (fun _ _ _ _ _ => pts_nil) (fun _ _ _ _ _ => pi_range3 (by rfl) B.range (pa_cons pe_int (pa_cons (pe_bi call_len_str B.len (pa1 (pv 3))) (pa1 (pv 1)))))
          (fun _ _ _ _ _ => pg_name (i := 4) scRead.nd rfl (Or.inl rfl)) (fun _ _ _ _ _ => pts_nil) (fun _ _ _ _ _ => pe_can cP h1 pass0 (pa1 (pe_slice C8.sl_txt (pv 3) (po_some (pv 4)) (po_some (pe_op op_add (pv 4) (pv 1)))))))))))), ?_⟩
    refine ⟨_, rfl, p, o, rfl, N, fun e => ?_, fun e => noN e⟩
    obtain ⟨pl, rfl, p1, p2, b, kd, no2, yes2⟩ := yes e
    refine ⟨_, rfl, v, "str", b, rfl, kd, b, rfl, ?_⟩
    cases b with
    | false => exact iteT ⟨_, rfl, no2 rfl⟩
    | true =>
      obtain ⟨z, rfl, hz, no3, yes3⟩ := yes2 rfl
      refine iteF ⟨_, rfl, z, rfl, by omega, fun p0 H1 s1 n0 h1p => ?_⟩
      have few : (wdsOf z).length ≤ 1001 := Nat.le_trans (List.length_filter_le _ _) (Nat.le_trans (parts_few z) (by omega))
      have wl : ∀ y ∈ wdsOf z, y.length ≤ 1000 := fun y hy => Nat.le_trans (parts_le (List.mem_filter.mp hy).1) hz
      have al := words_len z pl p1
      refine ⟨_, rfl, p0, _, rfl, .inl (SqL.of h1p), rfl, _, rfl, ?_⟩
      have ew : decide (V.int (((wdsOf z).map V.str).length : Int) = V.int 0) = decide (wdsOf z = []) := by
        rw [List.length_map]
        by_cases c : wdsOf z = []
        · rw [decide_eq_true c, c]
          exact decide_eq_true rfl
        · rw [decide_eq_false c]
          refine decide_eq_false fun z => c (List.length_eq_zero_iff.mp ?_)
          injection z with z
          omega
      rw [ew]
      by_cases c : wdsOf z = []
      · rw [decide_eq_true c]
        refine iteT (iteT ⟨_, rfl, no3 ?_ H1 s1⟩)
        unfold dueOf
        rw [if_neg]
        exact fun z => z.1 c
      rw [decide_eq_false c]
      refine iteF ⟨_, rfl, p0, rfl, ⟨_, SqL.of h1p⟩, fun D nD => ?_⟩
      refine lc_list (K := K) (a := p0) (xs := (wdsOf z).map V.str) (fun i H' => H' D = some (.lst (((wdsOf z).take i).map fun y => V.bl (okW pl y))) ∧ Same H1 H') ⟨upd_same, upd_same_as nD⟩ (fun i H' _ ⟨_, sm⟩ => SqL.of (sm _ _ h1p)) ?_ ?_
      · rintro i x H' hx ⟨hd, sm⟩
        obtain ⟨y, hy, rfl⟩ := strs_get hx
        have tk : (wdsOf z).take (i + 1) = (wdsOf z).take i ++ [y] := by rw [List.take_add_one, hy] <;> rfl
        have := wl y (List.mem_of_getElem? hy)
        refine ⟨rfl, lc_yes2 ⟨_, rfl, _, rfl, y, pl, rfl, p1, p2, by omega, fun H2 s2 => ?_⟩⟩
        refine ⟨_, s2 _ _ hd, ?_, ?_, more_same (sm.trans s2) nD⟩
        · rw [List.length_map, sizeLine_eq]
          have := List.length_take_le i (wdsOf z)
          have := List.length_take_le' i (wdsOf z)
          omega
        · rw [upd_same, tk, List.map_append]
          rfl
      rintro H2 ⟨hd, s2⟩
      rw [List.length_map, List.take_length] at hd
      refine ⟨D, (wdsOf z).map (okW pl), rfl, SqL.of (by rw [hd, List.map_map] <;> rfl), _, rfl, ?_⟩
      have ea : ((wdsOf z).map (okW pl)).all id = decide (∀ y ∈ wdsOf z, okW pl y = true) := by
        rw [List.all_map]
        by_cases c2 : ∀ y ∈ wdsOf z, okW pl y = true
        · rw [decide_eq_true c2]
          exact List.all_eq_true.mpr fun y hy => c2 y hy
        · rw [decide_eq_false c2]
          exact List.all_eq_false.mpr (by
            have : ¬ ∀ y ∈ wdsOf z, okW pl y = true := c2
            simp only [Classical.not_forall] at this
            obtain ⟨y, hy, q⟩ := this
            exact ⟨y, hy, q⟩)
      rw [ea]
      by_cases c2 : ¬ ∀ y ∈ wdsOf z, okW pl y = true
      · rw [decide_eq_false c2]
        refine iteT ⟨_, rfl, no3 ?_ H2 (s1.trans s2)⟩
        unfold dueOf
        rw [if_neg]
        exact fun z => c2 z.2
      have c2 : ∀ y ∈ wdsOf z, okW pl y = true := Classical.byContradiction c2
      rw [decide_eq_true c2]
      refine iteF ?_
      have due : dueOf z pl = some (allP pl (wdsOf z)) := by
        unfold dueOf
        rw [if_pos ⟨c, c2⟩]
      have s12 := s1.trans s2
      have h2p := s2 _ _ h1p
      refine ⟨_, rfl, p0, rfl, ⟨_, SqL.of h2p⟩, fun D2 nD2 => ?_⟩
      have nD0 : H D2 = none := s12.free nD2
      refine in_it (walk_list (K := K) (a := p0) (xs := (wdsOf z).map V.str)) (fun i H' => ∃ ks, LL H' D2 ks ∧ New H D2 ks ∧ ks.map (·.2) = allP pl ((wdsOf z).take i) ∧ Same H2 H') ⟨[], ⟨upd_same, fun q h => nomatch h⟩, .nil, rfl, upd_same_as nD2⟩ ?_ ?_ ?_
      · exact fun i H' _ ⟨_, _, _, _, sm⟩ => SqL.of (sm _ _ h2p)
      · rintro i x H' Hb hi ⟨ks, L, N, e, sm⟩ ⟨rfl, hx⟩
        obtain ⟨y, hy, rfl⟩ := strs_get hx
        have ym := List.mem_of_getElem? hy
        have yl := wl y ym
        have yk := c2 y ym
        have yd : y.length % pl = 0 := by
          simp only [okW, Bool.and_eq_true, decide_eq_true_eq] at yk
          exact yk.1
        have ye : y.length / pl * pl = y.length := Nat.div_mul_cancel (Nat.dvd_of_mod_eq_zero yd)
        refine ⟨rfl, lc_yes2 ?_⟩
        refine ⟨_, rfl, y, rfl, by rw [sizeLine_eq]; omega, _, rfl, 0, _, _, y.length / pl, rfl, rng_ok p1 p2 yd (by omega), ?_⟩
        refine in_it walk_rangeC (fun j H' => ∃ ks, LL H' D2 ks ∧ New H D2 ks ∧ ks.map (·.2) = allP pl ((wdsOf z).take i) ++ runU pl (sg y) j ∧ Same H2 H') ⟨ks, L, N, by rw [e]; exact (List.append_nil _).symm, sm⟩ (fun _ _ _ _ => trivial) ?_ ?_
        · rintro j x Hc Hd hj ⟨ks, L, N, e, sm⟩ ⟨rfl, rfl⟩
          have hjp : j * pl + pl ≤ y.length := by
            have := Nat.mul_le_mul_right pl (show j + 1 ≤ y.length / pl from hj)
            rw [ye, Nat.add_mul, Nat.one_mul] at this
            exact this
          have ej : (0 : Int) + (j : Int) * (pl : Int) = ((j * pl : Nat) : Int) := by
            rw [Int.zero_add, Int.natCast_mul]
          obtain ⟨q1, q2⟩ := slice_piece hjp
          rw [← ej] at q1 q2
          refine ⟨rfl, lc_yes2 ?_⟩
          refine ⟨_, rfl, _, rfl, _, rfl, _, rfl, _, rfl, _, _, rfl, rfl, _, rfl, y, rfl, by rw [sizeLine_eq]; omega, ?_⟩
          refine ⟨_, rfl, by rw [q1]; omega, fun a H3 s3 na ha => ?_⟩
          rw [q1, q2] at ha
          obtain ⟨m1, m2, m3⟩ := ll_more L N (fun c o q _ => sm _ _ (s12 _ _ q)) s3 na ha
          have lenk : ks.length ≤ 2000 := by
            have e2 := congrArg List.length e
            rw [List.length_map, List.length_append, runU_len] at e2
            have := allP_take_len pl i (wdsOf z)
            have : j * 1 ≤ j * pl := Nat.mul_le_mul_left j p1
            omega
          refine ⟨_, m1, by rw [List.length_map, sizeLine_eq]; omega, ks ++ [(a, _)], m2, m3, ?_, more_same (sm.trans s3) nD2⟩
          rw [List.map_append, e, List.append_assoc]
          rfl
        · rintro Hc ⟨ks, L, N, e, sm⟩
          refine ⟨ks, L, N, ?_, sm⟩
          rw [e, allP_take pl hy]
          rfl
      · rintro H' ⟨ks, L, N, e, sm⟩
        rw [List.length_map, List.take_length] at e
        exact yes3 _ due D2 ks H' (s12.trans sm) nD0 L N e
end
end Kx
/-! Drawn plans. -/
namespace Kx
open PySem PySem.Spec PyProof.Rows L2 Xa Xb Xc Xd Xs Xp Xm Xl Xq Ya Yb Yc Yd Ye Yf
abbrev sAnyPlan : Stmt := top 21
section
variable {P : Program} {w : World} {K : PySem.W.Frag} {mg : Str → Option Value} {base : Heap} {f : Addr} {fd : FuncData}
/-- all that was tracked stands, but at g -/
def But (g : Addr) (H H' : Hp) : Prop := ∀ c o, H c = some o → c ≠ g → H' c = some o
/-- a piece of a plan -/
def Pc (pl : Nat) (l : List Int) : Prop := l.Pairwise (· < ·) ∧ ∀ z ∈ l, 0 ≤ z ∧ z < pl
def spAnyPlan : Sp := fun xs H Q _ => ∃ (g : Addr) (pl m n : Nat), xs = [.ref g, .int pl, .int m] ∧ 1 ≤ pl ∧ pl ≤ 2 ∧ m ≤ 50 ∧ Gen H g n ∧ n ≤ 2 ^ 39 ∧ ∀ (a : Addr) (ks : List (Addr × List Int)) (H' : Hp), But g H H' → Gen H' g (n + 500) → H a = none → LL H' a ks → New H a ks →
  (∀ q ∈ ks, Pc pl q.2) → ks.length = m → Q (.ref a) H'
theorem scAnyPlan : FnScope ["generator", "places", "many", "full", "found", "piece", "place"] ["generator", "places", "many"] (defScope sAnyPlan) := ⟨rfl, rfl, rfl, by decide +kernel, rfl, by decide +kernel, by decide +kernel⟩
theorem can_anyplan (D : Dfn K mg "_law_any_plan" sAnyPlan) (B : Bi2 mg) {fR : Addr} {fdR fdC : FuncData} {fC : Addr} (FR : FnP K "_law_random" sRandom fR fdR) (gR : mg "_law_random" = some (.ref fR)) (FC : FnP K "_law_hash" sHash fC fdC) (gC : mg "_law_hash" = some (.ref fC)) :
    CanG P w K mg base 3 "_law_any_plan" ["generator", "places", "many"] spAnyPlan := by
  have GR : FnG P w K mg base 2 fR fdR ["generator", "bound"] spRandom := ok_random FR B.toBi FC gC
  have bR : Binds K fdR ["generator", "bound"] [] := FR.bindsN fun _ _ _ _ _ _ us hl => match us, hl with | [_, _], _ => rfl
  obtain ⟨f, fd, F, g⟩ := D.at_
  refine FnG.can (okG F scAnyPlan (fun xs H Q E h => ?_) (fun cdv A outer s H vs Q E hr hn h => ?_)) F g fun _ _ _ _ _ _ us hl => match us, hl with | [_, _, _], _ => rfl
  · obtain ⟨g, pl, m, n, rfl, _⟩ := h
    rfl
  · obtain ⟨g, pl, m, n, rfl, p1, p2, hm, hG, hn1, q⟩ := h
    refine ⟨_, PSs.nox (pss_cons (ps_asg (pe_tup (pa_cons (pe_op op_add pe_int (pe_callG GR hr hn rfl gR FR.kp bR (pa_cons (pv 0) (pa1 pe_int)))) (pa1 (pe_lst pa_nil)))) (pg_tup (by rfl) (pgs_cons (pg_name (i := 3) scAnyPlan.nd rfl (.inr rfl)) (pgs_cons (pg_name (i := 4) scAnyPlan.nd rfl (.inl rfl)) pgs_nil))))
      (pss_cons (ps_for PassesOwn.never rfl (pi_range1 (by rfl) B.range (pa1 (pv 2))) (pg_name (i := 5) scAnyPlan.nd rfl (Or.inl rfl))
        (pss_one (ps_expr (pe_bm PySem.F.plainAttrs_list PySem.F.slot_list_append PySem.F.type_list_append mt_append (pv 4) (pa1
          (pe_lc (own := [("place", 6)]) (g := gName 6) rfl scAnyPlan.nd (pi_range1 (by rfl) B.range (pa1 (pv 1))) (blkOk_by (own := [("place", 6)]) (N := ["generator", "places", "many", "full", "found", "piece", "place"]) (sc := defScope sAnyPlan) (by decide +kernel))
            (fun _ _ _ _ _ => pg_name (i := 6) scAnyPlan.nd rfl (Or.inl rfl)) (fun _ _ _ _ _ => pts_one (pt_cmpR op_gt (pe_callG GR hr hn rfl gR FR.kp bR (pa_cons (pv 0) (pa1 (pv 3)))) pe_int (nomark _))) (fun _ _ _ _ _ => pv 6)))))))
      (pss_one (ps_ret (pv 4))))), ?_⟩
    refine ⟨_, rfl, g, 4, n, rfl, by decide, by decide, hG, by omega, fun r H1 r0 r1 G1 k1 => ?_⟩
    refine ⟨_, _, rfl, rfl, by decide, fun a na => ⟨(by show 2 ≤ sizeLine; decide), fun t nt => ⟨t, _, rfl, SqT.of upd_same, rfl, _, _, rfl, _, _, rfl, rfl, ?_⟩⟩⟩
    have ag : a ≠ g := fun e => by
      obtain ⟨_, _, _, z, _⟩ := G1
      rw [e, z] at na
      cases na
    have Hat : (upd H1 a (.lst [])) a = some (.lst []) := upd_same
    have ta : a ≠ t := ne_of_none Hat nt
    have tg : t ≠ g := fun e => by
      obtain ⟨_, _, _, z, _⟩ := G1
      rw [e, upd_ne (Ne.symm ag), z] at nt
      cases nt
    have na0 : H a = none := by rw [← k1 a ag]; exact na
    have Gup : ∀ {X : Hp} {m : Nat} {b : Addr} {o : HO}, Gen X g m → b ≠ g → Gen (upd X b o) g m := fun ⟨g0, g1, g2, z, r⟩ hb => ⟨g0, g1, g2, by rw [upd_ne (Ne.symm hb)]; exact z, r⟩
    have Gmono : ∀ {X : Hp} {m m' : Nat}, Gen X g m → m ≤ m' → Gen X g m' := fun ⟨g0, g1, g2, z, h1, h2, h3, h4, h5, h6⟩ hb => ⟨g0, g1, g2, z, h1, h2, h3, h4, h5, by omega⟩
    refine ⟨_, rfl, _, rfl, by omega, by omega, ?_⟩
    refine for_range (lo := 0) (n := m) (fun i σ H' => ∃ (v5 : Option V) (ks : List (Addr × List Int)), σ = [some (.ref g), some (.int pl), some (.int m), some (.int (2 + r)), some (.ref a), v5, none] ∧ Gen H' g (n + 4 + 8 * i) ∧ LL H' a ks ∧ New H a ks ∧ (∀ q ∈ ks, Pc pl q.2) ∧ ks.length = i ∧ But g H H')
      ⟨none, [], rfl, Gup (Gup G1 ag) tg, ⟨by rw [upd_ne ta, upd_same] <;> rfl, fun q (h : q ∈ []) => (nomatch h)⟩, .nil, (fun q (h : q ∈ []) => (nomatch h)), rfl, fun c o e hc => ?_⟩ ?_ ?_
    · have e1 : H1 c = some o := by rw [k1 c hc]; exact e
      have e2 : (upd H1 a (.lst [])) c = some o := by rw [upd_ne (ne_of_none e1 na)]; exact e1
      rw [upd_ne (ne_of_none e2 nt)]
      exact e2
    · rintro i σ H' hi ⟨v5, ks, rfl, G, L, N, pc, lk, bt⟩
      have gs : ∀ {X : Hp} {m : Nat}, Gen X g m → ∃ o, X g = some o := fun ⟨_, _, _, z, _⟩ => ⟨_, z⟩
      refine ⟨_, rfl, .inl ⟨rfl, _, SqL.of L.1⟩, _, rfl, _, rfl, by omega, by omega, fun D nD => ?_⟩
      have Dg : D ≠ g := fun e => by
        obtain ⟨o, z⟩ := gs G
        rw [e, z] at nD
        cases nD
      refine lc_range (lo := 0) (n := pl) (fun j H'' => Gen H'' g (n + 4 + 8 * i + 4 * j) ∧ (∃ l : List Int, H'' D = some (.lst (l.map V.int)) ∧ l.Pairwise (· < ·) ∧ (∀ z ∈ l, 0 ≤ z ∧ z < j) ∧ l.length ≤ j) ∧ But g H' H'') ⟨Gup G Dg, ⟨[], upd_same, .nil, (fun z h => nomatch h), Nat.le_refl 0⟩, fun c o e hc => ?_⟩ ?_ ?_
      · rw [upd_ne (ne_of_none e nD)]
        exact e
      · rintro j H'' hj ⟨G2, ⟨l, hl, lp, lm, ll⟩, b2⟩
        refine ⟨rfl, _, rfl, _, rfl, g, 2 + r, _, rfl, by omega, by omega, G2, by omega, fun rr H3 rr0 rr1 G3 k3 => ?_⟩
        have hl3 : H3 D = some (.lst (l.map V.int)) := by rw [k3 D Dg]; exact hl
        have b3 : But g H' H3 := fun c o e hc => by rw [k3 c hc]; exact b2 c o e hc
        refine ⟨_, _, rfl, rfl, _, rfl, ?_⟩
        refine lc_if (fun c => ?_) (fun c => ?_)
        · refine ⟨_, rfl, _, hl3, by rw [List.length_map, sizeLine_eq]; omega, Gup (Gmono G3 (by omega)) Dg, ⟨l ++ [0 + (j : Int)], by rw [upd_same, List.map_append] <;> rfl, ?_, ?_, by rw [List.length_append]; exact Nat.succ_le_succ ll⟩, fun c o e hc => ?_⟩
          · rw [List.pairwise_append]
            refine ⟨lp, List.pairwise_singleton _ _, fun x hx y hy => ?_⟩
            have ey : y = 0 + (j : Int) := by simpa using hy
            have := lm x hx
            omega
          · intro z hz
            rcases List.mem_append.mp hz with hz | hz
            · have := lm z hz
              omega
            · have ez : z = 0 + (j : Int) := by simpa using hz
              omega
          · rw [upd_ne (ne_of_none e nD)]
            exact b3 c o e hc
        · exact ⟨Gmono G3 (by omega), ⟨l, hl3, lp, fun z hz => by have := lm z hz; omega, by omega⟩, b3⟩
      · rintro H'' ⟨G2, ⟨l, hl, lp, lm, ll⟩, b2⟩
        have ng : ∀ c o, H' c = some o → c ≠ g → H'' c = some o := b2
        have L2 : LL H'' a ks := ⟨b2 _ _ L.1 ag, fun q hq => b2 _ _ (L.2 q hq) fun e => by
          obtain ⟨g0, g1, g2, z, _⟩ := G
          have z0 := (N.1 q hq).1
          obtain ⟨g0', g1', g2', z', _⟩ := hG
          rw [e, z'] at z0
          cases z0⟩
        have Da : D ≠ a := fun e => by
          rw [e, L.1] at nD
          cases nD
        have nD0 : H D = none := by
          cases e : H D with
          | none => rfl
          | some o =>
            rw [bt D o e Dg] at nD
            cases nD
        obtain ⟨m1, m2⟩ := ll_add L2 N nD0 Da (fun q hq e => by
          have := L.2 q hq
          rw [e, nD] at this
          cases this) hl
        refine ⟨a, _, _, rfl, rfl, L2.1, by rw [List.length_map]; exact small1000 (by omega), _, ks ++ [(D, l)], rfl, Gup (Gmono G2 (by omega)) ag, m1, m2, ?_, by rw [List.length_append, lk] <;> rfl, fun c o e hc => ?_⟩
        · intro q hq
          rcases List.mem_append.mp hq with hq | hq
          · exact pc q hq
          · rw [List.mem_singleton.mp hq]
            exact ⟨lp, lm⟩
        · rw [upd_ne (ne_of_none e na0)]
          exact b2 _ _ (bt c o e hc) hc
    · rintro σ H' ⟨v5, ks, rfl, G, L, N, pc, lk, bt⟩
      exact ⟨_, rfl, q a ks H' bt (Gmono G (by omega)) na0 L N pc lk⟩
end
end Kx
/-! What is due, worked out by the law. -/
namespace Kx
open PySem PySem.Spec PyProof.Rows L2 Xa Xb Xc Xd Xs Xp Xm Xl Xq Ya Yb Yc Yd Ye Yf
abbrev sDue : Stmt := top 22
section
variable {P : Program} {w : World} {K : PySem.W.Frag} {mg : Str → Option Value} {base : Heap} {f : Addr} {fd : FuncData}
theorem eqv_nil : ∀ ds : List PyData, PyData.eqv (.list ds) (.list []) = ds.isEmpty
  | [] => by decide +kernel
  | d :: ds => by simp [PyData.eqv, PyData.eqvAll]
theorem strs_lay : ∀ l : List Str, (∀ x ∈ l, PyData.strOk x = true) → PyData.canLayAll0 (l.map .str) = true
  | [], _ => by simp [PyData.canLayAll0]
  | x :: l, h => by simp [PyData.canLayAll0, PyData.canLay0, strs_lay l fun y hy => h y (List.mem_cons_of_mem _ hy), h x List.mem_cons_self]
theorem strs_depth : ∀ l : List Str, PyData.depthAll (l.map .str) = 0
  | [] => by simp [PyData.depthAll]
  | x :: l => by simp [PyData.depthAll, PyData.depth, strs_depth l]
theorem strs_shaped (l : List Str) (h : ∀ x ∈ l, PyData.strOk x = true) : SeqAt.shaped (.list (l.map .str)) = true := by
  have h1 : (PyData.list (l.map .str)).canLay0 = true := by simp [PyData.canLay0, strs_lay l h]
  have h3 : (PyData.list (l.map .str)).depth ≤ 64 := by simp only [PyData.depth, strs_depth]; omega
  simp [SeqAt.shaped, h1, h3]
theorem dp_strs {H : Hp} : ∀ l : List Str, DpAll K H (l.map V.str) (l.map .str)
  | [] => .nil
  | x :: l => .cons (.str x) (dp_strs l)
theorem one_ok {z : Str} (h : PyData.strOk z = true) {c : Nat} (hc : c ∈ sg z) : PyData.strOk ⟨#[c]⟩ = true := by
  have h2 : ∀ (i : Nat) (x : i < z.cps.size), z.cps[i] < 1114112 := by simpa [PyData.strOk] using h
  obtain ⟨i, hi, e⟩ := Array.getElem_of_mem (Array.mem_toList_iff.mp hc)
  have := h2 i hi
  rw [e] at this
  simpa [PyData.strOk] using this
def spDue : Sp := fun xs H Q _ => ∃ (z : Str) (pl : Nat), xs = [.str z, .int pl] ∧ 1 ≤ pl ∧ pl ≤ 2 ∧ z.length ≤ 1000 ∧ PyData.strOk z = true ∧ (dueOf z pl = none → ∀ H', Same H H' → Q .non H') ∧ ∀ ps, dueOf z pl = some ps → ∀ a ks H', Same H H' → H a = none → LL H' a ks → New H a ks → ks.map (·.2) = ps → Q (.ref a) H'
theorem scDue : FnScope ["text", "places", "runs", "found", "run", "at", "sign", "place"] ["text", "places"] (defScope sDue) := ⟨rfl, rfl, rfl, by decide +kernel, rfl, by decide +kernel, by decide +kernel⟩
theorem can_due (D : Dfn K mg "_law_due" sDue) (B : Bi2 mg) : CanT P w K mg base 1 "_law_due" ["text", "places"] spDue := by
  obtain ⟨f, fd, F, g⟩ := D.at_
  refine FnT.can (okT F scDue (fun xs H Q E h => ?_) (fun cdv A outer s H vs Q E hr hn h => ?_)) F g fun _ _ _ _ _ _ us hl => match us, hl with | [_, _], _ => rfl
  · obtain ⟨z, pl, rfl, _⟩ := h
    rfl
  · obtain ⟨z, pl, rfl, p1, p2, hz, oz, no, yes⟩ := h
    refine ⟨_, psst_cons (PST.of (ps_if (pt_cmpR (op_neD hr.units)
        (pe_lc (own := [("sign", 6)]) (g := gName 6) rfl scDue.nd (pi_str (pv 0)) (blkOk_by (own := [("sign", 6)]) (N := ["text", "places", "runs", "found", "run", "at", "sign", "place"]) (sc := defScope sDue) (by decide +kernel))
          (fun _ _ _ _ _ => pg_name (i := 6) scDue.nd rfl (Or.inl rfl)) (fun _ _ _ _ _ => pts_one (pt_cmpR op_notIn_sign (pv 6) pe_str rfl)) (fun _ _ _ _ _ => pv 6)) (pe_lst pa_nil) (nomark _)) (pss_one (ps_ret pe_non)) pss_nil))
      (psst_cons (pst_setLc (i := 2) (own := [("run", 4)]) (g := gName 4) rfl scDue.nd rfl rfl (sw_true rfl rfl rfl (by decide +kernel)) (pit_list (pet_split (CwR.pet_replC (pv 0)) pe_str)) (blkOk_by (own := [("run", 4)]) (N := ["text", "places", "runs", "found", "run", "at", "sign", "place"]) (sc := defScope sDue) (by decide +kernel))
          (fun _ _ _ _ _ => pg_name (i := 4) scDue.nd rfl (Or.inl rfl)) (fun _ _ _ _ _ => pts_one (pt_cmpR op_ne (pv 4) pe_str (nomark _))) (fun _ _ _ _ _ => pv 4))
      (PSsT.of (PSs.nox (pss_cons (ps_set (i := 3) scDue.nd rfl (.inl rfl) (pe_lst pa_nil))
        (pss_cons (ps_for PassesOwn.never rfl (pi_list (pv 2)) (pg_name (i := 4) scDue.nd rfl (Or.inr rfl))
          (pss_cons (ps_if (pt_cmpR op_ne (pe_op op_mul (pe_op op_fdivN (pe_bi call_len_str B.len (pa1 (pv 4))) (pv 1)) (pv 1)) (pe_bi call_len_str B.len (pa1 (pv 4))) (nomark _)) (pss_one (ps_ret pe_non)) pss_nil)
          (pss_one (ps_for PassesOwn.never rfl (pi_range3 (by rfl) B.range (pa_cons pe_int (pa_cons (pe_bi call_len_str B.len (pa1 (pv 4))) (pa1 (pv 1))))) (pg_name (i := 5) scDue.nd rfl (Or.inr rfl))
            (pss_one (ps_expr (pe_bm PySem.F.plainAttrs_list PySem.F.slot_list_append PySem.F.type_list_append mt_append (pv 3) (pa1
              (pe_lc (own := [("place", 7)]) (g := gName 7) rfl scDue.nd (pi_range1 (by rfl) B.range (pa1 (pv 1))) (blkOk_by (own := [("place", 7)]) (N := ["text", "places", "runs", "found", "run", "at", "sign", "place"]) (sc := defScope sDue) (by decide +kernel))
                (fun _ _ _ _ _ => pg_name (i := 7) scDue.nd rfl (Or.inl rfl)) (fun _ _ _ _ _ => pts_one (pt_cmpR op_in_sign (pe_ix ix_str (pv 4) (pe_op op_add (pv 5) (pv 7)) (fun _ _ => rfl)) pe_str rfl)) (fun _ _ _ _ _ => pv 7))))))))))
        (pss_one (ps_ret (pe_ifExp (pt_cmpR (op_neD hr.units) (pv 3) (pe_lst pa_nil) (nomark _)) (pv 3) pe_non)))))))), ?_⟩
    refine ⟨_, rfl, z, rfl, fun D0 nD0 => ?_⟩
    -- the signs that are none
    have bads : ∀ i, ∃ l : List Nat, l = ((sg z).take i).filter fun c => !isT c := fun i => ⟨_, rfl⟩
    refine lc_it (walk_str (z := z)) (fun i H' => H' D0 = some (.lst ((((sg z).take i).filter fun c => !isT c).map fun c => V.str ⟨#[c]⟩)) ∧ Same H H') ⟨upd_same, upd_same_as nD0⟩ (fun _ _ _ _ => trivial) ?_ ?_
    · rintro i x H' H2 hi ⟨hd, sm⟩ ⟨rfl, cc, hc, rfl⟩
      have hc := str_get hc
      have tk : (sg z).take (i + 1) = (sg z).take i ++ [cc] := by rw [List.take_add_one, hc] <;> rfl
      have il : i < z.length := hi
      refine ⟨rfl, _, rfl, _, _, rfl, rfl, _, rfl, ?_⟩
      refine lc_if (b := !isT cc) (fun c => ?_) (fun c => ?_)
      · refine ⟨_, rfl, _, hd, ?_, ?_, more_same sm nD0⟩
        · rw [List.length_map, sizeLine_eq]
          have := List.length_filter_le (fun c => !isT c) ((sg z).take i)
          have := List.length_take_le i (sg z)
          omega
        · rw [upd_same, tk, List.filter_append, List.filter_cons_of_pos (by exact c), List.map_append]
          rfl
      · refine ⟨?_, sm⟩
        rw [tk, List.filter_append, List.filter_cons_of_neg (by rw [c]; exact Bool.false_ne_true)]
        simpa using hd
    rintro H1 ⟨hd1, s1⟩
    have e0 : (sg z).take z.cps.size = sg z := List.take_of_length_le (Nat.le_of_eq (Array.length_toList))
    rw [e0] at hd1
    refine ⟨by decide, fun l1 n1 => ?_⟩
    have s1' := upd_same_as (o := .lst []) n1
    refine ⟨.list ((((sg z).filter fun c => !isT c).map fun c => (⟨#[c]⟩ : Str)).map .str), .list [], .lst (SqL.of (s1' _ _ hd1)) (by
      have y := dp_strs (K := K) (H := upd H1 l1 (.lst [])) (((sg z).filter fun c => !isT c).map fun c => (⟨#[c]⟩ : Str))
      rw [List.map_map (f := fun c => (⟨#[c]⟩ : Str)) (g := V.str)] at y
      exact y), .lst (SqL.of upd_same) .nil, strs_shaped _ (fun x hx => by obtain ⟨c, cm, rfl⟩ := List.mem_map.mp hx; exact one_ok oz (List.mem_filter.mp cm).1), by decide +kernel, _, rfl, ?_⟩
    rw [eqv_nil]
    cases eb : (sg z).filter fun c => !isT c with
    | cons c r =>
      refine iteT ?_
      have cm : c ∈ (sg z).filter fun c => !isT c := by rw [eb]; exact List.mem_cons_self
      obtain ⟨cm, cb⟩ := List.mem_filter.mp cm
      exact no (due_bad cm (by simpa using cb)) _ (s1.trans s1')
    | nil =>
    refine iteF ?_
    have allT : ∀ c ∈ sg z, isT c = true := fun c hc => by
      have := List.filter_eq_nil_iff.mp eb c hc
      simpa using this
    have s2 : Same H (upd H1 l1 (.lst [])) := s1.trans s1'
    generalize upd H1 l1 (.lst []) = H2 at s2 ⊢
    have fl := flat_len z
    refine ⟨_, rfl, z, rfl, ?_, ⟨_, rfl⟩, _, _, rfl, rfl, rfl, ?_, fun p0 n0 => ⟨p0, rfl, ⟨_, SqL.of upd_same⟩, fun D nD => ?_⟩⟩
    · have e : Str.length (" " : Str) = 1 := rfl
      rw [e]
      omega
    · show (flat z).length + 2 ≤ sizeLine
      rw [fl, sizeLine_eq]
      omega
    have h0 : (upd H2 p0 (.lst ((partsOf z).map V.str))) p0 = some (.lst ((partsOf z).map V.str)) := upd_same
    have s0 : Same H2 (upd H2 p0 (.lst ((partsOf z).map V.str))) := upd_same_as n0
    replace nD : (upd H2 p0 (.lst ((partsOf z).map V.str))) D = none := nD
    show ∃ W, _
    have few := parts_few z
    refine lc_list (K := K) (a := p0) (xs := (partsOf z).map V.str) (fun i H' => H' D = some (.lst ((((partsOf z).take i).filter full).map V.str)) ∧ Same (upd H2 p0 (.lst ((partsOf z).map V.str))) H') ⟨upd_same, upd_same_as nD⟩ (fun i H' _ ⟨_, sm⟩ => SqL.of (sm _ _ h0)) ?_ ?_
    · rintro i x H' hx ⟨hd, sm⟩
      rw [List.getElem?_map] at hx
      obtain ⟨y, hy, rfl⟩ : ∃ y, (partsOf z)[i]? = some y ∧ x = V.str y := by
        cases e : (partsOf z)[i]? with
        | none =>
          rw [e] at hx
          cases hx
        | some y =>
          rw [e] at hx
          exact ⟨y, rfl, (Option.some.inj hx).symm⟩
      have tk : (partsOf z).take (i + 1) = (partsOf z).take i ++ [y] := by rw [List.take_add_one, hy] <;> rfl
      have len : (((partsOf z).take i).filter full).length ≤ 2001 := Nat.le_trans (List.length_filter_le _ _) (Nat.le_trans (List.length_take_le _ _) (by
        have := (List.getElem?_eq_some_iff.mp hy).1
        omega))
      refine ⟨rfl, _, rfl, rfl, _, rfl, ?_⟩
      have en : decide (V.str y = V.str ("" : Str)) = decide (y = Str.empty) := by
        by_cases c : y = Str.empty
        · rw [decide_eq_true c, c]
          exact decide_eq_true rfl
        · rw [decide_eq_false c]
          exact decide_eq_false fun z => c (by injection z)
      rw [en]
      generalize hb : (!decide (y = Str.empty)) = b
      refine lc_if (b := b) (fun c => ?_) (fun c => ?_)
      · have fy : full y = true := hb.trans c
        refine ⟨_, rfl, _, hd, ?_, ?_, more_same sm nD⟩
        · rw [List.length_map, sizeLine_eq]
          omega
        · rw [upd_same, tk, List.filter_append, List.filter_cons_of_pos fy, List.map_append]
          rfl
      · have fy : ¬ full y = true := fun z => by
          have z : (!decide (y = Str.empty)) = true := z
          rw [hb, c] at z
          cases z
        refine ⟨?_, sm⟩
        rw [tk, List.filter_append, List.filter_cons_of_neg fy]
        simpa using hd
    rintro H3 ⟨hd, sm⟩
    rw [List.length_map, List.take_length] at hd
    replace hd : H3 D = some (.lst ((wdsOf z).map V.str)) := hd
    have s3 : Same H H3 := s2.trans (s0.trans sm)
    clear sm s0 h0 nD
    refine ⟨by decide, fun l2 n2 => ?_⟩
    have nl0 : H l2 = none := s3.free n2
    have s4 := upd_same_as (o := .lst []) n2
    have hd4 := s4 _ _ hd
    have sA : Same H (upd H3 l2 (.lst [])) := s3.trans s4
    have hl4 : (upd H3 l2 (.lst [])) l2 = some (.lst []) := upd_same
    generalize upd H3 l2 (.lst []) = H4 at hd4 sA hl4 ⊢
    have Dl : D ≠ l2 := ne_of_none hd n2
    have wl : ∀ y ∈ wdsOf z, y.length ≤ 1000 := fun y hy => Nat.le_trans (parts_le (List.mem_filter.mp hy).1) hz
    have al := words_len z pl p1
    refine ⟨_, rfl, D, rfl, ⟨_, SqL.of hd4⟩, ?_⟩
    refine for_list (K := K) (a := D) (xs := (wdsOf z).map V.str) (fun i σ H' => ∃ (v4 v5 : Option V) (ks : List (Addr × List Int)), σ = [some (.str z), some (.int pl), some (.ref D), some (.ref l2), v4, v5, none, none] ∧ H' D = some (.lst ((wdsOf z).map V.str)) ∧ LL H' l2 ks ∧ New H l2 ks ∧ ks.map (·.2) = allP pl ((wdsOf z).take i) ∧ Same H H' ∧ ∀ y ∈ (wdsOf z).take i, y.length % pl = 0)
      ⟨none, none, [], rfl, hd4, ⟨hl4, fun q (h : q ∈ []) => (nomatch h)⟩, .nil, rfl, sA, fun y (h : y ∈ []) => (nomatch h)⟩ (fun i σ H' _ ⟨_, _, _, _, h, _⟩ => SqL.of h) ?_ ?_
    · rintro i x σ H' hx ⟨v4, v5, ks, rfl, hD, L, N, ek, sm, dv⟩
      obtain ⟨y, hy, rfl⟩ := strs_get hx
      have ym := List.mem_of_getElem? hy
      have yl := wl y ym
      have tk : (wdsOf z).take (i + 1) = (wdsOf z).take i ++ [y] := by rw [List.take_add_one, hy] <;> rfl
      refine ⟨_, rfl, y, rfl, by rw [sizeLine_eq]; omega, _, rfl, _, _, rfl, rfl, ⟨by omega, by omega⟩, _, rfl, _, _, rfl, rfl, .inl ⟨?_, ?_⟩, _, rfl, y, rfl, by rw [sizeLine_eq]; omega, rfl, _, rfl, ?_⟩
      · have : 0 ≤ ((y.length : Nat) : Int).fdiv (pl : Int) := Int.fdiv_nonneg (by omega) (by omega)
        omega
      · have : ((y.length : Nat) : Int).fdiv (pl : Int) = ((y.length / pl : Nat) : Int) := by
          rw [Int.fdiv_eq_ediv_of_nonneg _ (by omega)]
          rfl
        rw [this]
        have := Nat.div_le_self y.length pl
        omega
      have em : decide (V.int (((y.length : Nat) : Int).fdiv (pl : Int) * (pl : Int)) = V.int ((y.length : Nat) : Int)) = decide (y.length % pl = 0) := by
        have e : ((y.length : Nat) : Int).fdiv (pl : Int) * (pl : Int) = ((y.length / pl * pl : Nat) : Int) := by
          rw [Int.fdiv_eq_ediv_of_nonneg _ (by omega), Int.natCast_mul]
          rfl
        rw [e]
        have dm := Nat.div_add_mod y.length pl
        rw [Nat.mul_comm] at dm
        by_cases c : y.length % pl = 0
        · rw [decide_eq_true c]
          refine decide_eq_true ?_
          rw [show y.length / pl * pl = y.length by omega]
        · rw [decide_eq_false c]
          exact decide_eq_false fun z => c (by injection z with z; omega)
      show if (!decide (V.int (((y.length : Nat) : Int).fdiv (pl : Int) * (pl : Int)) = V.int ((y.length : Nat) : Int))) = true then _ else _
      rw [em]
      by_cases yd : ¬ y.length % pl = 0
      · rw [decide_eq_false yd]
        refine iteT (no ?_ _ sm)
        unfold dueOf
        rw [if_neg]
        rintro ⟨_, q⟩
        have := q y ym
        rw [okW, decide_eq_false yd, Bool.false_and] at this
        cases this
      have yd : y.length % pl = 0 := Classical.byContradiction yd
      rw [decide_eq_true yd]
      refine iteF ?_
      have ye : y.length / pl * pl = y.length := Nat.div_mul_cancel (Nat.dvd_of_mod_eq_zero yd)
      refine ⟨_, rfl, y, rfl, by rw [sizeLine_eq]; omega, _, rfl, 0, _, _, y.length / pl, rfl, rng_ok p1 p2 yd (by omega), ?_⟩
      refine for_rangeC (fun j σ H' => ∃ (v5 : Option V) (ks : List (Addr × List Int)), σ = [some (.str z), some (.int pl), some (.ref D), some (.ref l2), some (.str y), v5, none, none] ∧ H' D = some (.lst ((wdsOf z).map V.str)) ∧ LL H' l2 ks ∧ New H l2 ks ∧ ks.map (·.2) = allP pl ((wdsOf z).take i) ++ runU pl (sg y) j ∧ Same H H')
        ⟨v5, ks, rfl, hD, L, N, by rw [ek]; exact (List.append_nil _).symm, sm⟩ ?_ ?_
      · rintro j σ H' hj ⟨v5, ks, rfl, hD, L, N, ek, sm⟩
        have hjp : j * pl + pl ≤ y.length := by
          have := Nat.mul_le_mul_right pl (show j + 1 ≤ y.length / pl from hj)
          rw [ye, Nat.add_mul, Nat.one_mul] at this
          exact this
        have ej : (0 : Int) + (j : Int) * (pl : Int) = ((j * pl : Nat) : Int) := by
          rw [Int.zero_add, Int.natCast_mul]
        have lenk : ks.length ≤ 2000 := by
          have e2 := congrArg List.length ek
          rw [List.length_map, List.length_append, runU_len] at e2
          have := allP_take_len pl i (wdsOf z)
          have : j * 1 ≤ j * pl := Nat.mul_le_mul_left j p1
          omega
        refine ⟨_, rfl, .inl ⟨rfl, _, SqL.of L.1⟩, _, rfl, _, rfl, by omega, by omega, fun D5 nD5 => ?_⟩
        refine lc_range (lo := 0) (n := pl) (fun q H'' => H'' D5 = some (.lst ((pcN (fun k => at_ (sg y) (j * pl + k)) q).map V.int)) ∧ Same H' H'') ⟨upd_same, upd_same_as nD5⟩ ?_ ?_
        · rintro q H'' hq ⟨h5, s5⟩
          have ei : (0 : Int) + (j : Int) * (pl : Int) + (0 + (q : Int)) = ((j * pl + q : Nat) : Int) := by
            rw [ej]
            omega
          have hlt : j * pl + q < (sg y).length := by
            have : (sg y).length = y.length := Array.length_toList
            omega
          have hg : (sg y)[j * pl + q]? = some (sg y)[j * pl + q] := List.getElem?_eq_getElem hlt
          have ea : at_ (sg y) (j * pl + q) = isO (sg y)[j * pl + q] := by
            show ((sg y)[j * pl + q]?).any isO = _
            rw [hg]
            rfl
          refine ⟨rfl, _, rfl, _, rfl, _, rfl, _, _, rfl, rfl, y, _, (sg y)[j * pl + q], rfl, rfl, by rw [sizeLine_eq]; omega, by rw [ei]; exact atI_nat hg, _, _, rfl, rfl, _, rfl, ?_⟩
          refine lc_if (b := isO (sg y)[j * pl + q]) (fun c => ?_) (fun c => ?_)
          · refine ⟨_, rfl, _, h5, ?_, ?_, more_same s5 nD5⟩
            · rw [List.length_map, sizeLine_eq]
              have := pcN_len (fun k => at_ (sg y) (j * pl + k)) q
              omega
            · rw [upd_same]
              show _ = some (HO.lst ((pcN (fun k => at_ (sg y) (j * pl + k)) q ++ (if at_ (sg y) (j * pl + q) = true then [(q : Int)] else [])).map V.int))
              rw [ea, if_pos c, List.map_append, Int.zero_add]
              rfl
          · refine ⟨?_, s5⟩
            show _ = some (HO.lst ((pcN (fun k => at_ (sg y) (j * pl + k)) q ++ (if at_ (sg y) (j * pl + q) = true then [(q : Int)] else [])).map V.int))
            rw [ea, c, if_neg Bool.false_ne_true, List.append_nil]
            exact h5
        · rintro H'' ⟨h5, s5⟩
          have hD5 : D5 ≠ l2 := fun e => by
            rw [e, L.1] at nD5
            cases nD5
          obtain ⟨m2, m3⟩ := ll_add (L.same s5) N (sm.free nD5) hD5 (fun q hq e => by
            have := L.2 q hq
            rw [e, nD5] at this
            cases this) h5
          refine ⟨l2, _, _, rfl, rfl, s5 _ _ L.1, by rw [List.length_map, sizeLine_eq]; omega, _, ks ++ [(D5, _)], rfl, ?_, m2, m3, ?_, more_same (sm.trans s5) nl0⟩
          · rw [upd_ne Dl]
            exact s5 _ _ hD
          · rw [List.map_append, ek, List.append_assoc]
            rfl
      · rintro σ H' ⟨v5, ks, rfl, hD, L, N, ek, sm⟩
        refine ⟨_, v5, ks, rfl, hD, L, N, ?_, sm, ?_⟩
        · rw [ek, allP_take pl hy]
          rfl
        · intro y' hy'
          rw [tk] at hy'
          rcases List.mem_append.mp hy' with h | h
          · exact dv y' h
          · rw [List.mem_singleton.mp h]
            exact yd
    · rintro σ H' ⟨v4, v5, ks, rfl, hD, L, N, ek, sm, dv⟩
      rw [List.length_map, List.take_length] at ek dv
      refine ⟨_, rfl, by decide, fun l6 n6 => ?_⟩
      have s6 := upd_same_as (o := .lst []) n6
      refine ⟨llD (ks.map (·.2)), .list [], dp_ll (L.same s6), .lst (SqL.of upd_same) .nil, ll_shaped _, by decide +kernel, _, rfl, ?_⟩
      show if (!PyData.eqv (.list ((ks.map (·.2)).map lstD)) (.list [])) = true then _ else _
      rw [eqv_nil, ek]
      cases ew : wdsOf z with
      | nil =>
        refine iteF (no ?_ _ (sm.trans s6))
        unfold dueOf
        rw [if_neg]
        exact fun q => q.1 ew
      | cons y ys =>
        have ym : y ∈ wdsOf z := by rw [ew]; exact List.mem_cons_self
        have yp := words_pos ym
        have due : dueOf z pl = some (allP pl (wdsOf z)) := by
          unfold dueOf
          rw [if_pos]
          refine ⟨by rw [ew]; exact List.cons_ne_nil _ _, fun w hw => ?_⟩
          rw [okW_good allT hw, decide_eq_true (dv w hw)]
        have ne : (((allP pl (y :: ys)).map lstD)).isEmpty = false := by
          have : 0 < (allP pl (y :: ys)).length := by
            show 0 < (runP pl y ++ allP pl ys).length
            rw [List.length_append, runP, runU_len]
            have := Nat.div_add_mod y.length pl
            rw [dv y ym] at this
            have : 0 < y.length / pl := by
              rcases Nat.eq_zero_or_pos (y.length / pl) with e | e
              · rw [e, Nat.mul_zero] at this
                omega
              · exact e
            omega
          cases e : allP pl (y :: ys) with
          | nil =>
            rw [e] at this
            cases this
          | cons _ _ => rfl
        rw [ne]
        exact iteT ⟨_, rfl, yes _ due l2 ks _ (sm.trans s6) nl0 (L.same s6) N ek⟩
end
end Kx
/-! One text, read by the program and worked out. -/
namespace Kx
open PySem PySem.Spec PyProof.Rows L2 Xa Xb Xc Xd Xs Xp Xm Xr Xl Xq Ya Yb Yc Yd Ye Yf Yg
abbrev sRight : Stmt := top 23
/-- what of the error classes the text says -/
structure ErrF (K : PySem.W.Frag) (mg : Str → Option Value) (CW CN CT : Addr) : Prop where
  w : mg "WatchError" = some (.ref CW)
  n : mg "InvalidNumber" = some (.ref CN)
  t : mg "InvalidText" = some (.ref CT)
  kNN : PySem.W.kitOne K (.ref CN) (.ref CN) = some true
  kNT : PySem.W.kitOne K (.ref CN) (.ref CT) = some false
  kTN : PySem.W.kitOne K (.ref CT) (.ref CN) = some false
  kTT : PySem.W.kitOne K (.ref CT) (.ref CT) = some true
  xN : PySem.W.exmOne K (.ref CN) (.ref CW) = some true
  xT : PySem.W.exmOne K (.ref CT) (.ref CW) = some true
  cN : XCls K CN "value"
  cT : XCls K CT "value"
theorem inR_int (pl : Nat) (p1 : 1 ≤ pl) (p2 : pl ≤ 2) : inR (some (pl : Int)) 1 2 = true := by
  show (decide ((1 : Int) ≤ pl) && decide ((pl : Int) ≤ 2)) = true
  rw [decide_eq_true (by omega), decide_eq_true (by omega)]
  rfl
section
variable {P : Program} {w : World} {K : PySem.W.Frag} {mg : Str → Option Value} {base : Heap} {f CW CN CT : Addr} {fd : FuncData}
theorem str_in {H : Hp} {z : Str} (o : PyData.strOk z = true) (h : z.length ≤ 1000) :
    Dq K H (.str z) (.str z) [] ∧ ((PyData.str z).hasDict = true → sysModules ∉ ([] : List Addr)) ∧ (PyData.str z).showable = true ∧ (PyData.str z).depth ≤ 60 ∧ (PyData.str z).shown.length ≤ sizeLine := by
  refine ⟨.str z, fun _ h => (nomatch h), by simp [PyData.showable, o], by simp [PyData.depth], ?_⟩
  have h2 : ∀ c ∈ z.cps.toList, c < 16 ^ 8 := fun c hc => by
    have h2 : ∀ (i : Nat) (x : i < z.cps.size), z.cps[i] < 1114112 := by simpa [PyData.strOk] using o
    obtain ⟨i, hi, e⟩ := Array.getElem_of_mem (Array.mem_toList_iff.mp hc)
    have := h2 i hi
    rw [e] at this
    exact Nat.lt_trans this (by decide)
  have := StrLaws.reprText_len z h2
  have e : (PyData.str z).shown = reprText z := by simp [PyData.shown]
  rw [e, sizeLine_eq]
  omega
def spRight : Sp := fun xs H Q _ => ∃ (z : Str) (pl : Nat), xs = [.str z, .int pl] ∧ 1 ≤ pl ∧ pl ≤ 2 ∧ z.length ≤ 1000 ∧ PyData.strOk z = true ∧ ∀ H', Same H H' → Q (.bl true) H'
theorem scRight : FnScope ["text", "places", "due", "caught", "told", "error"] ["text", "places"] (defScope sRight) := ⟨rfl, rfl, rfl, by decide +kernel, rfl, by decide +kernel, by decide +kernel⟩
theorem can_right (D : Dfn K mg "_law_right" sRight) (B : Bi2 mg) (EF : ErrF K mg CW CN CT) (cD : CanT P w K mg base 1 "_law_due" ["text", "places"] spDue) (cR : Can P w K mg base (L2.CX P w) 4 "read_plan" ["text", "places"] (spRead K CN CT)) :
    CanG P w K mg base 5 "_law_right" ["text", "places"] spRight := by
  obtain ⟨f, fd, F, g⟩ := D.at_
  obtain ⟨fr, fdr, FR, gR, kR, bR⟩ := cR
  refine FnG.can (okGT F scRight (by decide +kernel) (by decide) (fun xs H Q E h => ?_) (fun cdv A outer s H vs Q E hr hn h => ?_)) F g fun _ _ _ _ _ _ us hl => match us, hl with | [_, _], _ => rfl
  · obtain ⟨z, pl, rfl, _⟩ := h
    rfl
  · obtain ⟨z, pl, rfl, p1, p2, hz, oz, q⟩ := h
    refine ⟨_, psst_cons (pst_par3 (i := 2) (j := 3) (l := 4) rfl scRight.nd rfl rfl rfl (by decide) (by decide) (by decide) rfl rfl rfl (pat_cons (pet_canT cD (hr.mono (by decide)) hn (pa_cons (pv 0) (pa1 (pv 1)))) (PAT.of (pa_cons pe_non (pa1 pe_non)))) (by rfl))
      (PSsT.of (PSs.nox (pss_cons (ps_keep (i := 5) (j := 3) (cv := .ref CW) rfl rfl rfl scRight.nd rfl rfl (by show 5 < 6; decide) ⟨by rfl, by decide, .inl EF.w⟩
          (fun W pn xe tk po => pss_one (ps_set (i := 4) scRight.nd rfl (.inl rfl) (pe_callS (E := WE W) FR hr rfl gR kR bR (passAt tk) (pa_cons (pv 0) (pa1 (pv 1))))))
          (fun a pn => pss_one (ps_asg (pv 5) (pg_name (i := 3) scRight.nd rfl (.inl rfl)))))
        (pss_cons (ps_if (pt_cmpR op_isN (pv 2) pe_non (nomark _)) (pss_one (ps_ret (pe_and (pe_bi call_isx B.isi (pa_cons (pv 3) (pa1 (pe_glob (v := .ref CT) (by rfl) EF.t rfl))))
            (pe_one (pe_cmpR op_eq (pe_bi (call_repr hn hr.units) B.repr (pa1 (pe_xv (pv 3)))) (pe_bi (call_repr hn hr.units) B.repr (pa1 (pv 0))) (nomark _)))))) pss_nil)
        (pss_one (ps_ret (pe_and (pe_cmpR op_isN (pv 3) pe_non (nomark _)) (pe_one (pe_cmpR op_eq (pe_bi (call_repr hn hr.units) B.repr (pa1 (pv 4))) (pe_bi (call_repr hn hr.units) B.repr (pa1 (pv 2))) (nomark _)))))))))), ?_⟩
    refine ⟨_, rfl, _, rfl, z, pl, rfl, p1, p2, hz, oz, fun hd H1 s1 => ?_, fun ps hd a ks H1 s1 na L N ek => ?_⟩
    · refine ⟨_, _, _, rfl, ?_⟩
      refine ⟨_, rfl, _, rfl, .str z, .int pl, some (pl : Int), rfl, .is _, fun e => ?_, fun _ => ⟨pl, rfl, p1, p2, true, isk_str z _ (by decide +kernel), fun e => (nomatch e), fun _ => ⟨z, rfl, hz, fun _ H2 s2 d nd => ?_, fun ps hps => ?_⟩⟩⟩
      · rw [inR_int pl p1 p2] at e
        cases e
      · refine ⟨CT, d, rfl, rfl, EF.xT, fun a na => ?_⟩
        have da : d ≠ a := fun z => by
          rw [← z, upd_same] at na
          cases na
        have sm : Same H (upd (upd H2 d (.xd [("value", V.str z)])) a (xob a CT d)) := fun c o e => by
          have y : (upd H2 d (.xd [("value", V.str z)])) c = some o := by
            rw [upd_ne (ne_of_none (s2 _ _ (s1 _ _ e)) nd)]
            exact s2 _ _ (s1 _ _ e)
          rw [upd_ne (ne_of_none y na)]
          exact y
        have h3a : (upd (upd H2 d (.xd [("value", V.str z)])) a (xob a CT d)) a = some (xob a CT d) := upd_same
        have h3d : (upd (upd H2 d (.xd [("value", V.str z)])) a (xob a CT d)) d = some (.xd [("value", V.str z)]) := by
          rw [upd_ne da]
          exact upd_same
        generalize upd (upd H2 d (.xd [("value", V.str z)])) a (xob a CT d) = G at sm h3a h3d ⊢
        obtain ⟨e1, e2, e3, e4, e5⟩ := str_in (K := K) (H := G) oz hz
        refine ⟨_, rfl, rfl, _, rfl, iteT ?_⟩
        refine ⟨_, rfl, a, CT, d, _, _, _, true, rfl, h3a, h3d, EF.cT.isx, .own CT, EF.kTT, _, rfl, iteT ?_⟩
        refine ⟨_, rfl, a, CT, d, _, .str z, rfl, h3a, h3d, EF.cT, rfl, .str z, _, _, rfl, e1, e2, e3, e4, e5, ?_⟩
        refine ⟨_, rfl, .str z, _, _, rfl, e1, e2, e3, e4, e5, rfl, ?_⟩
        show Q (.bl (decide (V.str _ = V.str _))) _
        rw [decide_eq_true rfl]
        exact q _ sm
      · rw [hd] at hps
        cases hps
    · refine ⟨_, _, _, rfl, ?_⟩
      have br : Brief ps := by
        have hp : ps = allP pl (wdsOf z) := by
          unfold dueOf at hd
          split at hd
          · exact (Option.some.inj hd).symm
          · cases hd
        subst hp
        refine ⟨Nat.le_trans (words_len z pl p1) hz, fun l hl => ?_⟩
        obtain ⟨b1, b2⟩ := allP_brief pl (wdsOf z) l hl
        refine ⟨by omega, fun x hx => ?_⟩
        obtain ⟨x1, x2⟩ := b2 x hx
        have : x.natAbs < 3 := by omega
        exact Nat.lt_trans this (by decide)
      refine ⟨_, rfl, _, rfl, .str z, .int pl, some (pl : Int), rfl, .is _, fun e => ?_, fun _ => ⟨pl, rfl, p1, p2, true, isk_str z _ (by decide +kernel), fun e => (nomatch e), fun _ => ⟨z, rfl, hz, fun hd2 => ?_, fun ps2 hps a2 ks2 H2 s2 na2 L2 N2 ek2 => ?_⟩⟩⟩
      · rw [inR_int pl p1 p2] at e
        cases e
      · rw [hd] at hd2
        cases hd2
      · have epp : ps2 = ps := by
          rw [hd] at hps
          exact (Option.some.inj hps).symm
        subst epp
        obtain ⟨e1, e2, e3, e4, e5⟩ := ll_in (K := K) L2 (by rw [ek2]; exact br)
        obtain ⟨f1, f2, f3, f4, f5⟩ := ll_in (K := K) (L.same s2) (by rw [ek]; exact br)
        refine ⟨_, rfl, rfl, _, rfl, iteF ?_⟩
        refine ⟨_, rfl, rfl, _, rfl, iteT ?_⟩
        refine ⟨_, rfl, .ref a2, _, _, rfl, e1, e2, e3, e4, e5, ?_⟩
        refine ⟨_, rfl, .ref a, _, _, rfl, f1, f2, f3, f4, f5, rfl, ?_⟩
        show Q (.bl (decide (V.str _ = V.str _))) _
        rw [ek2, ek, decide_eq_true rfl]
        exact q _ (s1.trans s2)
end
end Kx
/-! Texts that are bent. -/
namespace Kx
open PySem PySem.Spec PyProof.Rows L2 Xa Xb Xc Xd Xs Xp Xm Xl Xq Ya Yb Yc Yd Ye Yf Yg Yh
abbrev sBent : Stmt := top 24
section
variable {P : Program} {w : World} {K : PySem.W.Frag} {mg : Str → Option Value} {base : Heap} {f : Addr} {fd : FuncData}
def spBent : Sp := fun xs H Q _ => ∃ (g : Addr) (z : Str) (n : Nat), xs = [.ref g, .str z] ∧ Tx 100 z ∧ Gen H g n ∧ n ≤ 2 ^ 39 ∧ ∀ a vs H', But g H H' → Gen H' g (n + 200) → H a = none → H' a = some (.lst vs) → vs.length ≤ 20 → AllS 500 vs → Q (.ref a) H'
theorem scBent : FnScope ["generator", "text", "at", "other", "sign", "some", "drawn", "turn"] ["generator", "text"] (defScope sBent) := ⟨rfl, rfl, rfl, by decide +kernel, rfl, by decide +kernel, by decide +kernel⟩
theorem But.same {g : Addr} {H H' H2 : Hp} (b : But g H H') (s : Same H' H2) : But g H H2 := fun c o e hc => s _ _ (b c o e hc)
theorem But.free {g c : Addr} {H H' : Hp} (b : But g H H') (h : H' c = none) (hc : c ≠ g) : H c = none := by
  cases e : H c with
  | none => rfl
  | some o =>
    rw [b c o e hc] at h
    cases h
theorem name_lst {H : Hp} {m m2 : Addr} {L : List V} (_ : (upd H m (.lst L)) m2 = none) : ∃ L', L' = L := ⟨L, rfl⟩
theorem signs14 : AllS 2 [V.str "o", V.str ".", V.str "O", V.str " ", V.str "\n", V.str "0", V.str "\t", V.str "x", V.str "", V.str ",", V.str "|", V.str "_", V.str "oo", V.str ". "] := by
  intro v hv
  have : ∀ w ∈ (["o", ".", "O", " ", "\n", "0", "\t", "x", "", ",", "|", "_", "oo", ". "] : List Str), Tx 2 w := by
    have : ∀ w ∈ (["o", ".", "O", " ", "\n", "0", "\t", "x", "", ",", "|", "_", "oo", ". "] : List Str), w.length ≤ 2 ∧ PyData.strOk w = true := by decide +kernel
    exact this
  obtain ⟨w, hw, rfl⟩ : ∃ w ∈ (["o", ".", "O", " ", "\n", "0", "\t", "x", "", ",", "|", "_", "oo", ". "] : List Str), v = V.str w := by simpa using hv
  exact ⟨w, rfl, this w hw⟩
theorem can_bent (D : Dfn K mg "_law_bent" sBent) (B : Bi2 mg) {fR : Addr} {fdR fdC : FuncData} {fC : Addr} (FR : FnP K "_law_random" sRandom fR fdR) (gR : mg "_law_random" = some (.ref fR)) (FC : FnP K "_law_hash" sHash fC fdC) (gC : mg "_law_hash" = some (.ref fC)) :
    CanG P w K mg base 3 "_law_bent" ["generator", "text"] spBent := by
  have GR : FnG P w K mg base 2 fR fdR ["generator", "bound"] spRandom := ok_random FR B.toBi FC gC
  have bR : Binds K fdR ["generator", "bound"] [] := FR.bindsN fun _ _ _ _ _ _ us hl => match us, hl with | [_, _], _ => rfl
  obtain ⟨f, fd, F, g⟩ := D.at_
  refine FnG.can (okG F scBent (fun xs H Q E h => ?_) (fun cdv A outer s H vs Q E hr hn h => ?_)) F g fun _ _ _ _ _ _ us hl => match us, hl with | [_, _], _ => rfl
  · obtain ⟨g, z, n, rfl, _⟩ := h
    rfl
  · obtain ⟨g, z, n, rfl, tz, hG, hn1, q⟩ := h
    have zl := tz.1
    refine ⟨_, PSs.nox (pss_cons (ps_par (i := 2) (j := 3) (by rfl) scBent.nd rfl rfl (by decide) rfl rfl (pa_cons (pe_callG GR hr hn rfl gR FR.kp bR (pa_cons (pv 0) (pa1 (pe_op op_add (pe_bi call_len_str B.len (pa1 (pv 1))) pe_int)))) (pa1 (pe_callG GR hr hn rfl gR FR.kp bR (pa_cons (pv 0) (pa1 (pe_op op_add (pe_bi call_len_str B.len (pa1 (pv 1))) pe_int)))))) (by rfl))
      (pss_cons (ps_set (i := 4) scBent.nd rfl (.inl rfl) (pe_ix ix_list (pe_lst (pa_cons pe_str (pa_cons pe_str (pa_cons pe_str (pa_cons pe_str (pa_cons pe_str (pa_cons pe_str (pa_cons pe_str (pa_cons pe_str (pa_cons pe_str (pa_cons pe_str (pa_cons pe_str (pa_cons pe_str (pa_cons pe_str (pa1 pe_str))))))))))))))) (pe_callG GR hr hn rfl gR FR.kp bR (pa_cons (pv 0) (pa1 pe_int))) (fun _ _ => rfl)))
      (pss_cons (ps_set (i := 5) scBent.nd rfl (.inl rfl) (pe_lst (pa_cons (pe_op op_add_str (pe_slice C8.sl_txt (pv 1) po_none (po_some (pv 2))) (pe_slice C8.sl_txt (pv 1) (po_some (pe_op op_add (pv 2) pe_int)) po_none)) (pa_cons (pe_op op_add_str (pe_op op_add_str (pe_slice C8.sl_txt (pv 1) po_none (po_some (pv 2))) (pv 4)) (pe_slice C8.sl_txt (pv 1) (po_some (pv 2)) po_none)) (pa_cons (pe_op op_add_str (pe_op op_add_str (pe_slice C8.sl_txt (pv 1) po_none (po_some (pv 2))) (pv 4)) (pe_slice C8.sl_txt (pv 1) (po_some (pe_op op_add (pv 2) pe_int)) po_none)) (pa1 (pe_slice C8.sl_txt (pv 1) (po_some (pv 2)) po_none)))))))
      (pss_cons (ps_set (i := 5) scBent.nd rfl (.inl rfl) (pe_op op_cat (pv 5) (pe_lst (pa_cons (pe_slice C8.sl_txt (pv 1) po_none (po_some (pv 2))) (pa_cons (pe_op op_add_str (pv 1) (pv 4)) (pa_cons (pe_op op_add_str (pv 4) (pv 1)) (pa_cons (pe_op op_add_str (pe_slice C8.sl_txt (pv 1) po_none (po_some (pv 3))) (pe_slice C8.sl_txt (pv 1) (po_some (pv 2)) po_none)) (pa_cons (pe_op op_add_str (pv 1) (pv 1)) (pa1 (pe_revS (pv 1)))))))))))
      (pss_cons (ps_setLc (i := 6) (own := [("turn", 7)]) (g := gName 7) (tt := tYes) rfl scBent.nd rfl rfl (sw_true rfl rfl rfl (by decide +kernel)) (pi_range1 (by rfl) B.range (pa1 (pe_callG GR hr hn rfl gR FR.kp bR (pa_cons (pv 0) (pa1 pe_int))))) (blkOk_by (own := [("turn", 7)]) (N := ["generator", "text", "at", "other", "sign", "some", "drawn", "turn"]) (sc := defScope sBent) (by decide +kernel))
          (fun _ _ _ _ _ => pg_name (i := 7) scBent.nd rfl (Or.inl rfl)) (fun _ _ _ _ _ => pts_nil) (fun _ _ _ _ _ => pe_ix ix_str pe_str (pe_callG GR hr hn rfl gR FR.kp bR (pa_cons (pv 0) (pa1 pe_int))) (fun _ _ => rfl)))
      (pss_one (ps_ret (pe_op op_cat (pv 5) (pe_lst (pa_cons (pe_join pe_str (pv 6)) (pa1 (pe_op op_add_str (pe_op op_add_str (pe_slice C8.sl_txt (pv 1) po_none (po_some (pv 2))) (pe_revS (pe_slice C8.sl_txt (pv 1) (po_some (pv 2)) (po_some (pe_op op_add (pv 2) pe_int))))) (pe_slice C8.sl_txt (pv 1) (po_some (pe_op op_add (pv 2) pe_int)) po_none))))))))))))), ?_⟩
    have hl : z.length ≤ sizeLine := tx_line tz
    have hl2 : z.length ≤ 16777216 := by omega
    have S : ∀ lo hi, Tx 100 (Txt.slice z lo hi) := tx_slice tz
    have gs : ∀ {X : Hp} {m : Nat}, Gen X g m → ∃ o, X g = some o := fun ⟨_, _, _, z, _⟩ => ⟨_, z⟩
    have Gup : ∀ {X : Hp} {m : Nat} {b : Addr} {o : HO}, Gen X g m → b ≠ g → Gen (upd X b o) g m := fun ⟨g0, g1, g2, z, r⟩ hb => ⟨g0, g1, g2, by rw [upd_ne (Ne.symm hb)]; exact z, r⟩
    have Gmono : ∀ {X : Hp} {m m' : Nat}, Gen X g m → m ≤ m' → Gen X g m' := fun ⟨g0, g1, g2, z, h1, h2, h3, h4, h5, h6⟩ hb => ⟨g0, g1, g2, z, h1, h2, h3, h4, h5, by omega⟩
    have gne : ∀ {X : Hp} {m : Nat} {b : Addr}, Gen X g m → X b = none → b ≠ g := fun G nb e => by
      obtain ⟨o, z⟩ := gs G
      rw [e, z] at nb
      cases nb
    refine ⟨_, rfl, _, rfl, z, rfl, hl, _, _, rfl, rfl, g, _, n, rfl, by omega, by omega, hG, by omega, fun r1 H1 a1 b1 G1 k1 => ?_⟩
    refine ⟨_, rfl, _, rfl, z, rfl, hl, _, _, rfl, rfl, g, _, n + 4, rfl, by omega, by omega, G1, by omega, fun r2 H2 a2 b2 G2 k2 => ?_⟩
    refine ⟨_, _, rfl, ?_⟩
    refine ⟨by decide, fun l nl => ?_⟩
    have lg := gne G2 nl
    refine ⟨_, rfl, g, _, _, rfl, by decide, by decide, Gup G2 lg, by omega, fun r3 H3 a3 b3 G3 k3 => ?_⟩
    obtain ⟨k, rfl⟩ := Int.eq_ofNat_of_zero_le a3
    obtain ⟨sgn, esg, tsg⟩ := pickS signs14 (k := k) (by show k < 14; omega)
    refine ⟨l, _, (k : Int), .str sgn, rfl, rfl, SqL.of (by rw [k3 l lg, upd_same]), esg, ?_⟩
    have but3 : But g H H3 := fun c o e hc => by
      have e2 : H2 c = some o := by rw [k2 c hc, k1 c hc]; exact e
      rw [k3 c hc, upd_ne (ne_of_none e2 nl)]
      exact e2
    refine ⟨_, rfl, _, rfl, _, rfl, z, rfl, hl, _, rfl, _, rfl, _, _, rfl, rfl, _, rfl, z, rfl, hl, _, _, rfl, rfl, tx_fit (S _ _) (S _ _), ?_⟩
    refine ⟨_, rfl, _, rfl, _, rfl, z, rfl, hl, _, rfl, _, _, rfl, rfl, tx_fit (S _ _) tsg, _, rfl, _, rfl, _, rfl, z, rfl, hl, _, _, rfl, rfl, tx_fit (tx_app (S _ _) tsg) (S _ _), ?_⟩
    refine ⟨_, rfl, _, rfl, _, rfl, z, rfl, hl, _, rfl, _, _, rfl, rfl, tx_fit (S _ _) tsg, _, rfl, _, rfl, _, _, rfl, rfl, _, rfl, z, rfl, hl, _, _, rfl, rfl, tx_fit (tx_app (S _ _) tsg) (S _ _), ?_⟩
    refine ⟨_, rfl, _, rfl, _, rfl, z, rfl, hl, ?_⟩
    refine ⟨(by show 4 ≤ sizeLine; decide), fun m1 n1 => ?_⟩
    refine ⟨_, rfl, _, rfl, _, rfl, _, rfl, z, rfl, hl, ?_⟩
    refine ⟨_, rfl, _, rfl, _, _, rfl, rfl, tx_fit tz tsg, ?_⟩
    refine ⟨_, rfl, _, rfl, _, _, rfl, rfl, tx_fit tsg tz, ?_⟩
    refine ⟨_, rfl, _, rfl, _, rfl, z, rfl, hl, _, rfl, _, rfl, _, rfl, z, rfl, hl, _, _, rfl, rfl, tx_fit (S _ _) (S _ _), ?_⟩
    refine ⟨_, rfl, _, rfl, _, _, rfl, rfl, tx_fit tz tz, ?_⟩
    refine ⟨_, rfl, z, rfl, hl2, fun y6 y6l y6m => ?_⟩
    refine ⟨(by show 6 ≤ sizeLine; decide), fun m2 n2 => ?_⟩
    refine ⟨m1, m2, _, _, rfl, rfl, upd_same_as n2 _ _ upd_same, upd_same, (by show 10 ≤ sizeLine; decide), fun m3 n3 => ?_⟩
    obtain ⟨LA, eA⟩ := name_lst n2
    obtain ⟨LB, eB⟩ := name_lst n3
    have asA : AllS 400 LA := by
      rw [eA]
      exact (as_cons (tx_app (S _ _) (S _ _)) (as_cons (tx_app (tx_app (S _ _) tsg) (S _ _)) (as_cons (tx_app (tx_app (S _ _) tsg) (S _ _)) (as_cons (S _ _) as_nil))))
    have asB : AllS 400 LB := by
      rw [eB]
      exact (as_cons (S _ _) (as_cons (tx_app tz tsg) (as_cons (tx_app tsg tz) (as_cons (tx_app (S _ _) (S _ _)) (as_cons (tx_app tz tz) (as_cons (tx_sub tz y6l y6m) as_nil))))))
    have lenA : LA.length = 4 := by rw [eA] <;> rfl
    have lenB : LB.length = 6 := by rw [eB] <;> rfl
    rw [← eA, ← eB] at n3 ⊢
    rw [← eA] at n2
    clear eA eB
    have g1 := gne G3 n1
    have g2 := gne (Gup G3 g1) n2
    have g3 := gne (Gup (Gup G3 g1) g2) n3
    have G6 := Gup (o := .lst (LA ++ LB)) (Gup (o := .lst LB) (Gup (o := .lst LA) G3 g1) g2) g3
    have but5 := (but3.same (upd_same_as (o := .lst LA) n1)).same (upd_same_as (o := .lst LB) n2)
    have nm3 : H m3 = none := but5.free n3 g3
    have but6 := but5.same (upd_same_as (o := .lst (LA ++ LB)) n3)
    have h6 : (upd (upd (upd H3 m1 (.lst LA)) m2 (.lst LB)) m3 (.lst (LA ++ LB))) m3 = some (.lst (LA ++ LB)) := upd_same
    have as6 := as_app asA asB
    have len6 : (LA ++ LB).length = 10 := by rw [List.length_append, lenA, lenB]
    generalize upd (upd (upd H3 m1 (.lst LA)) m2 (.lst LB)) m3 (.lst (LA ++ LB)) = H6 at G6 but6 h6 ⊢
    generalize LA ++ LB = L10 at h6 as6 len6
    clear but5 n3 n2 n1 asA asB
    refine ⟨_, rfl, g, 20, _, rfl, by decide, by decide, G6, by omega, fun r4 H7 a4 b4 G7 k7 => ?_⟩
    have h7 : H7 m3 = some (.lst L10) := by rw [k7 m3 g3]; exact h6
    have but7 : But g H H7 := fun c o e hc => by rw [k7 c hc]; exact but6 c o e hc
    refine ⟨_, rfl, by omega, by omega, fun D nD => ?_⟩
    have Dg := gne G7 nD
    have nD0 : H D = none := but7.free nD Dg
    have Dm : m3 ≠ D := ne_of_none h7 nD
    have len5 : (("o.O \n" : Str).cps.toList).length = 5 := by decide +kernel
    have ok5 : ∀ c ∈ (("o.O \n" : Str).cps.toList), c < 1114112 := by decide +kernel
    refine lc_range (lo := 0) (n := r4.toNat) (fun i H' => Gen H' g (n + 16 + 4 * i) ∧ (∃ ys : List Str, H' D = some (.lst (ys.map V.str)) ∧ ys.length = i ∧ ∀ y ∈ ys, Tx 1 y) ∧ H' m3 = some (.lst L10) ∧ But g H H')
      ⟨Gup (Gmono G7 (by omega)) Dg, ⟨[], upd_same, rfl, fun y (h : y ∈ []) => (nomatch h)⟩, by rw [upd_ne Dm]; exact h7, but7.same (upd_same_as nD)⟩ ?_ ?_
    · rintro i H' hi ⟨G8, ⟨ys, hD, yl, yt⟩, h8, but8⟩
      refine ⟨rfl, lc_yes2 ⟨_, rfl, g, 5, _, rfl, by decide, by decide, G8, by omega, fun r5 H9 a5 b5 G9 k9 => ?_⟩⟩
      obtain ⟨k5, rfl⟩ := Int.eq_ofNat_of_zero_le a5
      have k5l : k5 < (("o.O \n" : Str).cps.toList).length := by rw [len5]; omega
      refine ⟨_, _, (("o.O \n" : Str).cps.toList)[k5], rfl, rfl, by decide +kernel, atI_nat (List.getElem?_eq_getElem k5l), ?_⟩
      refine ⟨ys.map V.str, by rw [k9 D Dg]; exact hD, by rw [List.length_map, sizeLine_eq]; omega, Gup (Gmono G9 (by omega)) Dg, ⟨ys ++ [⟨#[(("o.O \n" : Str).cps.toList)[k5]]⟩], by rw [upd_same, List.map_append] <;> rfl, by rw [List.length_append, yl] <;> rfl, fun y hy => ?_⟩, by rw [upd_ne Dm, k9 m3 g3]; exact h8, fun c o e hc => ?_⟩
      · rcases List.mem_append.mp hy with hy | hy
        · exact yt y hy
        · rw [List.mem_singleton.mp hy]
          refine ⟨Nat.le_refl 1, ok_iff.mpr fun c hc => ?_⟩
          have hc : c ∈ [(("o.O \n" : Str).cps.toList)[k5]] := hc
          rw [List.mem_singleton.mp hc]
          exact ok5 _ (List.getElem_mem k5l)
      · rw [upd_ne (ne_of_none e nD0), k9 c hc]
        exact but8 c o e hc
    rintro H8 ⟨G8, ⟨ys, hD, yl, yt⟩, h8, but8⟩
    have yl20 : ys.length ≤ 20 := by omega
    have te : Tx 1 ("" : Str) := by
      have : ("" : Str).length ≤ 1 ∧ PyData.strOk ("" : Str) = true := by decide +kernel
      exact this
    have tj := tx_join te yt
    refine ⟨_, rfl, ⟨_, rfl⟩, _, rfl, _, D, ys, rfl, rfl, .inl (SqL.of hD), join_fit te yt (by omega), ?_⟩
    refine ⟨_, rfl, _, rfl, _, rfl, z, rfl, hl, _, rfl, _, rfl, _, rfl, _, rfl, _, _, rfl, rfl, _, rfl, z, rfl, hl, _, rfl, Nat.le_trans (S _ _).1 (by decide), fun y8 y8l y8m => ?_⟩
    have t8 : Tx 100 y8 := tx_sub (S _ _) y8l y8m
    refine ⟨_, _, rfl, rfl, tx_fit (S _ _) t8, _, rfl, _, rfl, _, _, rfl, rfl, _, rfl, z, rfl, hl, _, _, rfl, rfl, tx_fit (tx_app (S _ _) t8) (S _ _), ?_⟩
    refine ⟨(by show 2 ≤ sizeLine; decide), fun m4 n4 => ?_⟩
    have m34 : m3 ≠ m4 := ne_of_none h8 n4
    refine ⟨m3, m4, _, _, rfl, rfl, by rw [upd_ne m34]; exact h8, upd_same, by rw [len6]; (show 10 + 2 ≤ sizeLine); decide, fun m5 n5 => ?_⟩
    have g4 := gne G8 n4
    have g5 := gne (Gup G8 g4) n5
    refine q m5 _ _ ((but8.same (upd_same_as n4)).same (upd_same_as n5)) (Gup (Gup (Gmono G8 (by omega)) g4) g5) (But.free (but8.same (upd_same_as n4)) n5 g5) upd_same ?_ ?_
    · rw [List.length_append, len6]
      show 10 + 2 ≤ 20
      decide
    · refine as_app (fun v hv => ?_) (as_cons (tj.up (n := 500) ?_) (as_cons (tx_app (tx_app (S _ _) t8) (S _ _)) as_nil))
      · obtain ⟨y, e, t⟩ := as6 v hv
        exact ⟨y, e, t.up (by decide)⟩
      · omega
end
end Kx
/-! Values that are no texts. -/
namespace Kx
open PySem PySem.Spec PyProof.Rows L2 Xa Xb Xc Xd Xs Xp Xm Xr Xl Xk Xq Ya Yb Yc Yd Ye Yf Yg Yh
abbrev sOther : Stmt := top 25
mutual
def nodic : PyData → Bool
  | .dict _ => false
  | .list ds => nodics ds
  | .tuple ds => nodics ds
  | .none => true
  | .bool _ => true
  | .int _ => true
  | .str _ => true
def nodics : List PyData → Bool
  | [] => true
  | d :: ds => nodic d && nodics ds
end
mutual
theorem lt_dp {K : PySem.W.Frag} {H : Hp} : ∀ {v : V} {d : PyData} {ls : List Addr}, Lt H v d ls → nodic d = true → Dp K H v d
  | _, _, _, .non, _ => .non
  | _, _, _, .bl b, _ => .bl b
  | _, _, _, .int i, _ => .int i
  | _, _, _, .str z, _ => .str z
  | _, _, _, .lst h t, e => .lst (SqL.of h) (lts_dp t (by simpa [nodic] using e))
  | _, _, _, .tup h t, e => .tup (SqT.of h) (lts_dp t (by simpa [nodic] using e))
  | _, _, _, .dic h, e => by simp [nodic] at e
theorem lts_dp {K : PySem.W.Frag} {H : Hp} : ∀ {v : List V} {d : List PyData} {ls : List Addr}, Lts H v d ls → nodics d = true → DpAll K H v d
  | _, _, _, .nil, _ => .nil
  | _, _, _, .cons h t, e => by
    simp only [nodics, Bool.and_eq_true] at e
    exact .cons (lt_dp h e.1) (lts_dp t e.2)
end
/-- how an odd number of places is told -/
def dsT : List PyData := [.none, .int 0, .int 3, .bool true, .str "1", .list [.int 1], .int (-1)]
def ds0 : List PyData := [.tuple [.none, .int 1], .tuple [.int 3, .int 2], .tuple [.list [.str "o."], .int 1], .tuple [.tuple [.str "o"], .int 1], .tuple [.dict [], .int 2], .tuple [.bool true, .int 1], .tuple [.list [.list [.str "o"]], .int 2]]
/-- what stands in the list of pairs -/
def pairOk : PyData → Bool
  | .tuple [d, .int p] => (decide (p = 1) || decide (p = 2)) && (okD d && decide (kitB (kindD d) "str" = some false))
  | _ => false
/-- what the law asks of an odd number: all that is decided -/
def oddOk (p : Int) (d : PyData) : Bool := nodic d && (SeqAt.shaped d && (okD d && match kitB (kindD d) "bool" with
  | some b => decide ((!PyData.eqv d (.int p) || b) = !inR (numD d) 1 2)
  | none => false))
theorem ds0_ok : ∀ d ∈ ds0, pairOk d = true := by decide +kernel
theorem dsT_ok (p : Int) (h : p = 1 ∨ p = 2) : ∀ d ∈ PyData.int p :: dsT, oddOk p d = true := by
  rcases h with rfl | rfl <;> decide +kernel
section
variable {P : Program} {w : World} {K : PySem.W.Frag} {mg : Str → Option Value} {base : Heap} {f CW CN CT : Addr} {fd : FuncData}
def spOther : Sp := fun xs H Q _ => xs = [] ∧ ∀ H', Same H H' → Q (.bl true) H'
theorem scOther : FnScope ["text", "places", "odd", "caught", "error"] [] (defScope sOther) := ⟨rfl, rfl, rfl, by decide +kernel, rfl, by decide +kernel, by decide +kernel⟩
theorem can_other (D : Dfn K mg "_law_other_values_right" sOther) (B : Bi2 mg) (EF : ErrF K mg CW CN CT) (cR : Can P w K mg base (L2.CX P w) 4 "read_plan" ["text", "places"] (spRead K CN CT)) :
    CanG P w K mg base 5 "_law_other_values_right" [] spOther := by
  obtain ⟨f, fd, F, g⟩ := D.at_
  obtain ⟨fr, fdr, FR, gR, kR, bR⟩ := cR
  refine FnG.can (okG F scOther (fun xs H Q E h => ?_) (fun cdv A outer s H vs Q E hr hn h => ?_)) F g fun _ _ _ _ _ _ us hl => match us, hl with | [], _ => rfl
  · obtain ⟨rfl, _⟩ := h
    rfl
  · obtain ⟨rfl, q⟩ := h
    have pass4 := hr
    refine ⟨_, PSs.nox (pss_cons (ps_for PassesOwn.never rfl (pi_list (li_lst (S := fun _ => True) (lis_cons (li_tup (lis_cons li_non (lis_cons li_int lis_nil)) (Nat.le_of_ble_eq_true rfl)) (lis_cons (li_tup (lis_cons li_int (lis_cons li_int lis_nil)) (Nat.le_of_ble_eq_true rfl))
          (lis_cons (li_tup (lis_cons (li_lst (lis_cons li_str lis_nil) (Nat.le_of_ble_eq_true rfl)) (lis_cons li_int lis_nil)) (Nat.le_of_ble_eq_true rfl)) (lis_cons (li_tup (lis_cons (li_tup (lis_cons li_str lis_nil) (Nat.le_of_ble_eq_true rfl)) (lis_cons li_int lis_nil)) (Nat.le_of_ble_eq_true rfl))
          (lis_cons (li_tup (lis_cons li_dic (lis_cons li_int lis_nil)) (Nat.le_of_ble_eq_true rfl)) (lis_cons (li_tup (lis_cons li_bl (lis_cons li_int lis_nil)) (Nat.le_of_ble_eq_true rfl))
          (lis_cons (li_tup (lis_cons (li_lst (lis_cons (li_lst (lis_cons li_str lis_nil) (Nat.le_of_ble_eq_true rfl)) lis_nil) (Nat.le_of_ble_eq_true rfl)) (lis_cons li_int lis_nil)) (Nat.le_of_ble_eq_true rfl)) lis_nil))))))) (Nat.le_of_ble_eq_true rfl)))
        (pg_tup (by rfl) (pgs_cons (pg_name (i := 0) scOther.nd rfl (.inl rfl)) (pgs_cons (pg_name (i := 1) scOther.nd rfl (.inl rfl)) pgs_nil)))
        (pss_one (ps_for PassesOwn.never rfl (pi_list (pe_lst (pa_cons (pv 1) (lis_cons (S := fun _ => True) li_non (lis_cons li_int (lis_cons li_int (lis_cons li_bl (lis_cons li_str (lis_cons (li_lst (lis_cons li_int lis_nil) (Nat.le_of_ble_eq_true rfl)) (lis_cons li_neg lis_nil)))))))))) (pg_name (i := 2) scOther.nd rfl (.inl rfl))
          (pss_cons (ps_set (i := 3) scOther.nd rfl (.inl rfl) pe_non)
          (pss_cons (ps_keep (i := 4) (j := 3) (cv := .ref CW) rfl rfl rfl scOther.nd rfl rfl (by show 4 < 5; decide) ⟨by rfl, by decide, .inl EF.w⟩
            (fun W pn xe tk po => pss_one (ps_expr (pe_callS (E := WE W) FR hr rfl gR kR bR (passAt tk) (pa_cons (pv 0) (pa1 (pv 2))))))
            (fun a pn => pss_one (ps_asg (pv 4) (pg_name (i := 3) scOther.nd rfl (.inl rfl)))))
          (pss_one (ps_if (PW.pt (pw_or (pt_cmpR (op_neD hr.units) (pv 2) (pv 1) (nomark _)) (pw_or1 (pt_val (pe_bi call_kd B.isi (pa_cons (pv 2) (pa1 (pe_tyv "bool" B.bool))))))))
            (pss_one (ps_if (PW.pt (pw_or (pt_not (pt_val (pe_bi call_isx B.isi (pa_cons (pv 3) (pa1 (pe_glob (v := .ref CN) (by rfl) EF.n rfl)))))) (pw_or1 (pt_cmpR op_ne (pe_bi (call_repr hn hr.units) B.repr (pa1 (pe_xv (pv 3)))) (pe_bi (call_repr hn hr.units) B.repr (pa1 (pv 2))) (nomark _))))) (pss_one (ps_ret pe_bl)) pss_nil))
            (pss_one (ps_if (PW.pt (pw_or (pt_not (pt_val (pe_bi call_isx B.isi (pa_cons (pv 3) (pa1 (pe_glob (v := .ref CT) (by rfl) EF.t rfl)))))) (pw_or1 (pt_cmpR op_ne (pe_bi (call_repr hn hr.units) B.repr (pa1 (pe_xv (pv 3)))) (pe_bi (call_repr hn hr.units) B.repr (pa1 (pv 0))) (nomark _))))) (pss_one (ps_ret pe_bl)) pss_nil)))))))))
      (pss_one (ps_ret pe_bl))), ?_⟩
    refine ⟨trivial, fun v1 H1 ls1 s1 t1 n1 f1 => ?_⟩
    cases t1 with
    | @lst L1 vs1 _ ls1 hL1 tL1 =>
    refine ⟨L1, rfl, ⟨vs1, SqL.of hL1⟩, for_list (K := K) (a := L1) (xs := vs1) (fun i σ H' => ∃ t0 t1 t2 t3 t4 : Option V, σ = [t0, t1, t2, t3, t4] ∧ Same H1 H') ⟨none, none, none, none, none, rfl, Same.refl _⟩ (fun i σ H' _ ⟨_, _, _, _, _, _, sm⟩ => SqL.of (sm _ _ hL1)) ?_ ?_⟩
    · rintro i x σ H' hx ⟨t0, t1, t2, t3, t4, rfl, sm⟩
      obtain ⟨dx, lx, hd, lt, _⟩ := lts_get tL1 i x hx
      have pk := ds0_ok dx (List.mem_of_getElem? hd)
      replace lt := lt_same sm lt
      obtain ⟨dt, p, rfl, hp, okt, kt⟩ : ∃ (dt : PyData) (p : Int), dx = .tuple [dt, .int p] ∧ (p = 1 ∨ p = 2) ∧ okD dt = true ∧ kitB (kindD dt) "str" = some false := by
        unfold pairOk at pk
        split at pk
        · rename_i d p
          obtain ⟨a, b⟩ := He.ba pk
          obtain ⟨b, c⟩ := He.ba b
          refine ⟨d, p, rfl, ?_, b, of_decide_eq_true c⟩
          rcases Bool.or_eq_true_iff.mp a with a | a
          · exact .inl (of_decide_eq_true a)
          · exact .inr (of_decide_eq_true a)
        · cases pk
      cases lt with
      | @tup ta tvs _ _ hta ttl =>
      cases ttl with
      | @cons tx _ _ _ _ _ ltx t2 =>
      cases t2 with
      | @cons py _ _ _ _ _ lty t3 =>
      cases t3
      cases lty
      refine ⟨ta, _, rfl, SqT.of hta, rfl, tx, _, rfl, .int p, _, rfl, rfl, ?_⟩
      have hpl : ∃ pl : Nat, p = pl ∧ 1 ≤ pl ∧ pl ≤ 2 := by
        rcases hp with rfl | rfl
        · exact ⟨1, rfl, by decide, by decide⟩
        · exact ⟨2, rfl, by decide, by decide⟩
      refine ⟨_, rfl, trivial, fun v2 H2 ls2 s2 t2 n2 f2 => ?_⟩
      have tL2 : Lts H2 (.int p :: v2) (.int p :: dsT) ls2 := .cons (l1 := []) (.int p) t2
      have l8 : (V.int p :: v2).length = 8 := by rw [lts_len tL2] <;> rfl
      refine ⟨by rw [l8]; decide, fun l nl => ?_⟩
      have hL2 : (upd H2 l (.lst (.int p :: v2))) l = some (.lst (.int p :: v2)) := upd_same
      have sA : Same H1 (upd H2 l (.lst (.int p :: v2))) := sm.trans (s2.trans (upd_same_as nl))
      have lx3 := lt_same (s2.trans (upd_same_as (o := .lst (.int p :: v2)) nl)) ltx
      have tL3 := lts_same (upd_same_as (o := .lst (.int p :: v2)) nl) tL2
      generalize upd H2 l (.lst (.int p :: v2)) = H3 at hL2 sA lx3 tL3 ⊢
      refine ⟨l, rfl, ⟨_, SqL.of hL2⟩, ?_⟩
      refine for_list (K := K) (a := l) (xs := .int p :: v2) (fun i σ H' => ∃ t2 t3 t4 : Option V, σ = [some tx, some (.int p), t2, t3, t4] ∧ Same H3 H') ⟨_, _, _, rfl, Same.refl _⟩ (fun i σ H' _ ⟨_, _, _, _, sm⟩ => SqL.of (sm _ _ hL2)) ?_ ?_
      · rintro j y σ H4 hy ⟨t2, t3, t4, rfl, s4⟩
        obtain ⟨dy, ly, hdy, lty, _⟩ := lts_get tL3 j y hy
        have oo := dsT_ok p hp dy (List.mem_of_getElem? hdy)
        replace lty := lt_same s4 lty
        have lx4 := lt_same s4 lx3
        obtain ⟨o1, oo⟩ := He.ba oo
        obtain ⟨o2, oo⟩ := He.ba oo
        obtain ⟨o3, oo⟩ := He.ba oo
        obtain ⟨bb, kb, cond⟩ : ∃ bb, kitB (kindD dy) "bool" = some bb ∧ (!PyData.eqv dy (.int p) || bb) = !inR (numD dy) 1 2 := by
          cases e : kitB (kindD dy) "bool" with
          | none =>
            rw [e] at oo
            cases oo
          | some b =>
            rw [e] at oo
            exact ⟨b, rfl, of_decide_eq_true oo⟩
        refine ⟨_, rfl, _, rfl, tx, y, numD dy, rfl, lt_num lty, fun eN d nd => ?_, fun eT => ?_⟩
        · refine ⟨CN, d, rfl, rfl, EF.xN, fun a na => ?_⟩
          have da : d ≠ a := fun z => by
            rw [← z, upd_same] at na
            cases na
          have sm5 : Same H4 (upd (upd H4 d (.xd [("value", y)])) a (xob a CN d)) := fun c o e => by
            have y : (upd H4 d (.xd [("value", y)])) c = some o := by
              rw [upd_ne (ne_of_none e nd)]
              exact e
            rw [upd_ne (ne_of_none y na)]
            exact y
          have h3a : (upd (upd H4 d (.xd [("value", y)])) a (xob a CN d)) a = some (xob a CN d) := upd_same
          have h3d : (upd (upd H4 d (.xd [("value", y)])) a (xob a CN d)) d = some (.xd [("value", y)]) := by
            rw [upd_ne da]
            exact upd_same
          generalize upd (upd H4 d (.xd [("value", y)])) a (xob a CN d) = G at sm5 h3a h3d ⊢
          have lyG := lt_same sm5 lty
          have lxG := lt_same sm5 lx4
          obtain ⟨dd, lsd, e1, e2, e3, e4, e5, _, _⟩ := lt_rep (K := K) lyG o3
          refine ⟨_, rfl, _, rfl, dy, .int p, lt_dp lyG o1, .int p, o2, rfl, _, rfl, ?_⟩
          rw [eN] at cond
          cases h1 : (!PyData.eqv dy (.int p)) with
          | true =>
            refine iteT (iteT ?_)
            refine ⟨_, rfl, a, CN, d, _, _, _, true, rfl, h3a, h3d, EF.cN.isx, .own CN, EF.kNN, _, rfl, iteF ?_⟩
            refine ⟨_, rfl, a, CN, d, _, y, rfl, h3a, h3d, EF.cN, rfl, y, dd, lsd, rfl, e1, e2, e3, e4, e5, ?_⟩
            refine ⟨_, rfl, y, dd, lsd, rfl, e1, e2, e3, e4, e5, rfl, _, rfl, ?_⟩
            show (if (!decide (V.str _ = V.str _)) = true then _ else _)
            rw [decide_eq_true rfl]
            exact iteF ⟨_, _, _, rfl, s4.trans sm5⟩
          | false =>
            rw [h1, Bool.false_or] at cond
            refine iteF ⟨_, rfl, y, "bool", bb, rfl, lt_isk lyG kb, bb, rfl, ?_⟩
            rw [cond]
            refine iteT ?_
            refine ⟨_, rfl, a, CN, d, _, _, _, true, rfl, h3a, h3d, EF.cN.isx, .own CN, EF.kNN, _, rfl, iteF ?_⟩
            refine ⟨_, rfl, a, CN, d, _, y, rfl, h3a, h3d, EF.cN, rfl, y, dd, lsd, rfl, e1, e2, e3, e4, e5, ?_⟩
            refine ⟨_, rfl, y, dd, lsd, rfl, e1, e2, e3, e4, e5, rfl, _, rfl, ?_⟩
            show (if (!decide (V.str _ = V.str _)) = true then _ else _)
            rw [decide_eq_true rfl]
            exact iteF ⟨_, _, _, rfl, s4.trans sm5⟩
        · obtain ⟨pn, rfl, q1, q2⟩ : ∃ pn : Nat, y = .int pn ∧ 1 ≤ pn ∧ pn ≤ 2 := by
            cases lty with
            | int i =>
              have : (decide (1 ≤ i) && decide (i ≤ 2)) = true := eT
              obtain ⟨c1, c2⟩ := He.ba this
              have c1 := of_decide_eq_true c1
              have c2 := of_decide_eq_true c2
              exact ⟨i.toNat, by rw [show ((i.toNat : Nat) : Int) = i by omega], by omega, by omega⟩
            | _ => cases eT
          refine ⟨pn, rfl, q1, q2, false, lt_isk lx4 kt, fun _ d nd => ?_, fun e => nomatch e⟩
          refine ⟨CT, d, rfl, rfl, EF.xT, fun a na => ?_⟩
          have da : d ≠ a := fun z => by
            rw [← z, upd_same] at na
            cases na
          have sm5 : Same H4 (upd (upd H4 d (.xd [("value", tx)])) a (xob a CT d)) := fun c o e => by
            have y : (upd H4 d (.xd [("value", tx)])) c = some o := by
              rw [upd_ne (ne_of_none e nd)]
              exact e
            rw [upd_ne (ne_of_none y na)]
            exact y
          have h3a : (upd (upd H4 d (.xd [("value", tx)])) a (xob a CT d)) a = some (xob a CT d) := upd_same
          have h3d : (upd (upd H4 d (.xd [("value", tx)])) a (xob a CT d)) d = some (.xd [("value", tx)]) := by
            rw [upd_ne da]
            exact upd_same
          generalize upd (upd H4 d (.xd [("value", tx)])) a (xob a CT d) = G at sm5 h3a h3d ⊢
          have lyG := lt_same sm5 lty
          have lxG := lt_same sm5 lx4
          obtain ⟨dd, lsd, e1, e2, e3, e4, e5, _, _⟩ := lt_rep (K := K) lxG okt
          refine ⟨_, rfl, _, rfl, dy, .int p, lt_dp lyG o1, .int p, o2, rfl, _, rfl, ?_⟩
          rw [eT] at cond
          obtain ⟨c1, c2⟩ := Bool.or_eq_false_iff.mp cond
          rw [c1]
          refine iteF ⟨_, rfl, _, "bool", bb, rfl, lt_isk lyG kb, bb, rfl, ?_⟩
          rw [c2]
          refine iteF ?_
          refine ⟨_, rfl, a, CT, d, _, _, _, true, rfl, h3a, h3d, EF.cT.isx, .own CT, EF.kTT, _, rfl, iteF ?_⟩
          refine ⟨_, rfl, a, CT, d, _, tx, rfl, h3a, h3d, EF.cT, rfl, tx, dd, lsd, rfl, e1, e2, e3, e4, e5, ?_⟩
          refine ⟨_, rfl, tx, dd, lsd, rfl, e1, e2, e3, e4, e5, rfl, _, rfl, ?_⟩
          show (if (!decide (V.str _ = V.str _)) = true then _ else _)
          rw [decide_eq_true rfl]
          exact iteF ⟨_, _, _, rfl, s4.trans sm5⟩
      · rintro σ H4 ⟨t2, t3, t4, rfl, s4⟩
        exact ⟨_, _, _, _, _, rfl, sA.trans s4⟩
    · rintro σ H' ⟨t0, t1, t2, t3, t4, rfl, sm⟩
      exact q _ (s1.trans sm)
end
end Kx
/-! The law. -/
namespace Kx
open PySem PySem.Spec PyProof.Rows L2 Xa Xb Xc Xd Xs Xp Xm Xr Xl Xk Xq Ya Yb Yc Yd Ye Yf Yg Yh
abbrev sLaw : Stmt := top 26
theorem But.all {g : Addr} {H H' : Hp} (b : But g H H') (n : H g = none) : Same H H' := fun c o e => b c o e (ne_of_none e n)
section
variable {P : Program} {w : World} {K : PySem.W.Frag} {mg : Str → Option Value} {base : Heap} {f : Addr} {fd : FuncData}
structure LawF (P : Program) (w : World) (K : PySem.W.Frag) (mg : Str → Option Value) (base : Heap) : Prop where
  gen : CanG P w K mg base 2 "_law_generator" ["script", "index"] (spGener K)
  ran : CanG P w K mg base 2 "_law_random" ["generator", "bound"] spRandom
  any : CanG P w K mg base 3 "_law_any_plan" ["generator", "places", "many"] spAnyPlan
  ben : CanG P w K mg base 3 "_law_bent" ["generator", "text"] spBent
  rig : CanG P w K mg base 5 "_law_right" ["text", "places"] spRight
  oth : CanG P w K mg base 5 "_law_other_values_right" [] spOther
def spLaw (K : PySem.W.Frag) : Sp := fun xs H Q _ => ∃ (a : Addr) (ns : List Int), xs = [.ref a] ∧ SqL K H a (ns.map V.int) ∧ ∀ H', Q (.bl true) H'
theorem scLaw : FnScope ["script", "index", "generator", "places", "plan", "text", "some", "odd", "place", "piece"] ["script"] (defScope sLaw) := ⟨rfl, rfl, rfl, by decide +kernel, rfl, by decide +kernel, by decide +kernel⟩
theorem texts19 : AllS 20 ([V.str "", V.str " ", V.str "\n", V.str "o", V.str "o.", V.str "o. o", V.str ". .", V.str "..\n.", V.str "o o o", V.str "oOo", V.str "o\to", V.str "o.o.o", V.str "0", V.str "o-", V.str "[0]"] ++ [V.str "o. .o o", V.str " oo\n\n..", V.str "\n.\n", V.str "OO"]) := by
  intro v hv
  have : ∀ w ∈ (["", " ", "\n", "o", "o.", "o. o", ". .", "..\n.", "o o o", "oOo", "o\to", "o.o.o", "0", "o-", "[0]", "o. .o o", " oo\n\n..", "\n.\n", "OO"] : List Str), Tx 20 w := by
    have : ∀ w ∈ (["", " ", "\n", "o", "o.", "o. o", ". .", "..\n.", "o o o", "oOo", "o\to", "o.o.o", "0", "o-", "[0]", "o. .o o", " oo\n\n..", "\n.\n", "OO"] : List Str), w.length ≤ 20 ∧ PyData.strOk w = true := by decide +kernel
    exact this
  obtain ⟨w, hw, rfl⟩ : ∃ w ∈ (["", " ", "\n", "o", "o.", "o. o", ". .", "..\n.", "o o o", "oOo", "o\to", "o.o.o", "0", "o-", "[0]", "o. .o o", " oo\n\n..", "\n.\n", "OO"] : List Str), v = V.str w := by simpa using hv
  exact ⟨w, rfl, this w hw⟩
theorem fn_law (F : FnP K "law" sLaw f fd) (B : Bi2 mg) (LF : LawF P w K mg base) : FnG P w K mg base 6 f fd ["script"] (spLaw K) := by
  obtain ⟨cG, cR, cA, cB, cX, cO⟩ := LF
  refine okG F scLaw (fun xs H Q E h => ?_) (fun cdv A outer s H vs Q E hr hn h => ?_)
  · obtain ⟨a, ns, rfl, _⟩ := h
    rfl
  · obtain ⟨sa, ns, rfl, hS, q⟩ := h
    have h2 := hr.mono (show 2 ≤ 5 by decide)
    have h3 := hr.mono (show 3 ≤ 5 by decide)
    have h5 := hr
    refine ⟨_, PSs.nox (pss_cons (ps_for PassesOwn.never rfl (pi_range1 (by rfl) B.range (pa1 pe_int)) (pg_name (i := 1) scLaw.nd rfl (.inl rfl)) (pss_cons (ps_set (i := 2) scLaw.nd rfl (.inl rfl) (pe_canG cG h2 hn (pa_cons (pv 0) (pa1 (pv 1))))) (pss_one (ps_for PassesOwn.never rfl (pi_list (pe_lst (pa_cons pe_int (pa1 pe_int)))) (pg_name (i := 3) scLaw.nd rfl (.inr rfl)) (pss_cons (ps_set (i := 4) scLaw.nd rfl (.inl rfl) (pe_canG cA h3 hn (pa_cons (pv 2) (pa_cons (pv 3) (pa1 (pe_op op_add pe_int (pe_canG cR h2 hn (pa_cons (pv 2) (pa1 pe_int))))))))) (pss_cons (ps_set (i := 5) scLaw.nd rfl (.inl rfl) (pe_jn (K := K) rfl pe_str (pe_lc (own := [("piece", 9)]) (g := gName 9) (tt := tYes) rfl scLaw.nd (pi_list (pv 4)) (blkOk_by (own := [("piece", 9)]) (N := ["script", "index", "generator", "places", "plan", "text", "some", "odd", "place", "piece"]) (sc := defScope sLaw) (by decide +kernel))
            (fun _ _ _ _ _ => pg_name (i := 9) scLaw.nd rfl (Or.inr rfl)) (fun _ _ _ _ _ => pts_nil) (fun _ _ _ _ _ => (pe_jn (K := K) rfl pe_str (pe_lc (own := [("place", 8)]) (g := gName 8) (tt := tYes) rfl scLaw.nd (pi_range1 (by rfl) B.range (pa1 (pv 3))) (blkOk_by (own := [("place", 8)]) (N := ["script", "index", "generator", "places", "plan", "text", "some", "odd", "place", "piece"]) (sc := _) (by rfl))
              (fun _ _ _ _ _ => pg_name (i := 8) scLaw.nd rfl (Or.inl rfl)) (fun _ _ _ _ _ => pts_nil) (fun _ _ _ _ _ => pe_ix (r := rIxS) ix_str pe_str (pe_callTy call_int1 (by rfl) B.int (by decide +kernel) (pa1 (pe_cmpR (r := rIn K false) op_in_seq (pv 8) (pv 9) rfl))) (fun _ _ => rfl)))))))) (pss_one (ps_for PassesOwn.never rfl (pi_list (pe_canG cB h3 hn (pa_cons (pv 2) (pa1 (pv 5))))) (pg_name (i := 6) scLaw.nd rfl (.inl rfl)) (pss_one (ps_if (PW.pt (pw_or (pt_not (pt_val (pe_canG cX h5 hn (pa_cons (pv 6) (pa1 pe_int))))) (pw_or1 (pt_not (pt_val (pe_canG cX h5 hn (pa_cons (pv 6) (pa1 pe_int)))))))) (pss_one (ps_ret pe_bl)) pss_nil)))))))))) (pss_cons (ps_set (i := 7) scLaw.nd rfl (.inl rfl) (pe_lst (pa_cons pe_str (pa_cons pe_str (pa_cons pe_str (pa_cons pe_str (pa_cons pe_str (pa_cons pe_str (pa_cons pe_str (pa_cons pe_str (pa_cons pe_str (pa_cons pe_str (pa_cons pe_str (pa_cons pe_str (pa_cons pe_str (pa_cons pe_str (pa1 pe_str))))))))))))))))) (pss_cons (ps_for PassesOwn.never rfl (pi_list (pe_op op_cat (pv 7) (pe_lst (pa_cons pe_str (pa_cons pe_str (pa_cons pe_str (pa1 pe_str))))))) (pg_name (i := 5) scLaw.nd rfl (.inl rfl)) (pss_one (ps_if (PW.pt (pw_or (pt_not (pt_val (pe_canG cX h5 hn (pa_cons (pv 5) (pa1 pe_int))))) (pw_or1 (pt_not (pt_val (pe_canG cX h5 hn (pa_cons (pv 5) (pa1 pe_int)))))))) (pss_one (ps_ret pe_bl)) pss_nil))) (pss_one (ps_ret (pe_canG0 cO h5 hn)))))), ?_⟩
    have te : Tx 1 ("" : Str) := by
      have : ("" : Str).length ≤ 1 ∧ PyData.strOk ("" : Str) = true := by decide +kernel
      exact this
    have tb : Tx 1 (" " : Str) := by
      have : (" " : Str).length ≤ 1 ∧ PyData.strOk (" " : Str) = true := by decide +kernel
      exact this
    have right2 : ∀ {n : Nat} {y : Str}, Tx n y → n ≤ 1000 → y.length ≤ 1000 := fun t h => Nat.le_trans t.1 h
    refine ⟨_, rfl, by decide, by decide, for_range (lo := 0) (n := 5) (fun i σ H' => ∃ a1 a2 a3 a4 a5 a6 a7 a8 a9 : Option V, σ = [some (.ref sa), a1, a2, a3, a4, a5, a6, a7, a8, a9] ∧ Same H H')
      ⟨_, _, _, _, _, _, _, _, _, rfl, Same.refl _⟩ ?_ ?_⟩
    · rintro i σ H' hi ⟨a1, a2, a3, a4, a5, a6, a7, a8, a9, rfl, sm⟩
      refine ⟨_, rfl, _, rfl, sa, ns, i, (by rw [Int.zero_add]; rfl), by omega, sm.seq hS, fun g H1 ng s1 G1 => ?_⟩
      have gs : ∀ {X : Hp} {m : Nat}, Gen X g m → ∃ o, X g = some o := fun ⟨_, _, _, z, _⟩ => ⟨_, z⟩
      have Gsm : ∀ {X Y : Hp} {m : Nat}, Gen X g m → Same X Y → Gen Y g m := fun ⟨g0, g1, g2, z, r⟩ s => ⟨g0, g1, g2, s _ _ z, r⟩
      have Gmono : ∀ {X : Hp} {m m' : Nat}, Gen X g m → m ≤ m' → Gen X g m' := fun ⟨g0, g1, g2, z, h1, h2, h3, h4, h5, h6⟩ hb => ⟨g0, g1, g2, z, h1, h2, h3, h4, h5, by omega⟩
      have gne : ∀ {X : Hp} {m : Nat} {b : Addr}, Gen X g m → X b = none → b ≠ g := fun G nb e => by
        obtain ⟨o, z⟩ := gs G
        rw [e, z] at nb
        cases nb
      refine ⟨(by show 2 ≤ sizeLine; decide), fun L nL => ?_⟩
      have Lg := gne G1 nL
      have hL : (upd H1 L (.lst [.int 1, .int 2])) L = some (.lst [.int 1, .int 2]) := upd_same
      have sL := s1.trans (upd_same_as (o := .lst [.int 1, .int 2]) nL)
      have GL := Gsm G1 (upd_same_as (o := .lst [.int 1, .int 2]) nL)
      generalize upd H1 L (.lst [.int 1, .int 2]) = HL at hL sL GL ⊢
      refine ⟨L, rfl, ⟨_, SqL.of hL⟩, ?_⟩
      refine for_list (K := K) (a := L) (xs := [.int 1, .int 2]) (fun j σ H'' => ∃ b3 b4 b5 b6 b7 b8 b9 : Option V, σ = [some (.ref sa), some (.int (0 + (i : Int))), some (.ref g), b3, b4, b5, b6, b7, b8, b9] ∧ Gen H'' g (1000 * i + 1000 * j) ∧ But g HL H'')
        ⟨_, _, _, _, _, _, _, rfl, Gmono GL (by omega), fun c o e _ => e⟩ (fun j σ H'' _ ⟨_, _, _, _, _, _, _, _, _, b⟩ => SqL.of (b _ _ hL Lg)) ?_ ?_
      · rintro j x σ H2 hx ⟨b3, b4, b5, b6, b7, b8, b9, rfl, G2, but2⟩
        obtain ⟨pl, rfl, p1, p2⟩ : ∃ pl : Nat, x = .int pl ∧ 1 ≤ pl ∧ pl ≤ 2 := by
          match j, hx with
          | 0, hx => exact ⟨1, (Option.some.inj hx).symm, by decide, by decide⟩
          | 1, hx => exact ⟨2, (Option.some.inj hx).symm, by decide, by decide⟩
          | k + 2, hx => simp at hx
        have j2 : j < 2 := (List.getElem?_eq_some_iff.mp hx).1
        refine ⟨_, rfl, _, rfl, _, rfl, g, 12, _, rfl, by decide, by decide, G2, by omega, fun r H3 r0 r1 G3 k3 => ?_⟩
        obtain ⟨m, rfl⟩ := Int.eq_ofNat_of_zero_le r0
        refine ⟨_, _, rfl, rfl, g, pl, 1 + m, _, (by rw [Int.natCast_add]; rfl), p1, p2, by omega, G3, by omega, fun a ks H4 b4 G4 na LLk N4 pc lk => ?_⟩
        have but4 : But g HL H4 := fun c o e hc => b4 c o (by rw [k3 c hc]; exact but2 c o e hc) hc
        refine ⟨⟨_, rfl⟩, _, rfl, a, rfl, ⟨_, SqL.of LLk.1⟩, fun D nD => ?_⟩
        refine lc_list (K := K) (a := a) (xs := ks.map fun q => V.ref q.1) (fun k H' => (∃ ys : List Str, H' D = some (.lst (ys.map V.str)) ∧ ys.length = k ∧ ∀ y ∈ ys, Tx 4 y) ∧ Same H4 H') ⟨⟨[], upd_same, rfl, fun y (h : y ∈ []) => (nomatch h)⟩, upd_same_as nD⟩ (fun k H' _ ⟨_, s⟩ => SqL.of (s _ _ LLk.1)) ?_ ?_
        · rintro k x H5 hx ⟨⟨ys, hD, yl, yt⟩, s5⟩
          rw [List.getElem?_map] at hx
          obtain ⟨qq, hq, rfl⟩ : ∃ qq, ks[k]? = some qq ∧ x = V.ref qq.1 := by
            cases e : ks[k]? with
            | none =>
              rw [e] at hx
              cases hx
            | some y =>
              rw [e] at hx
              exact ⟨y, rfl, (Option.some.inj hx).symm⟩
          have kl : k < ks.length := (List.getElem?_eq_some_iff.mp hq).1
          have hqq := LLk.2 qq (List.mem_of_getElem? hq)
          refine ⟨rfl, lc_yes2 ⟨⟨_, rfl⟩, _, rfl, _, rfl, by omega, by omega, fun D2 nD2 => ?_⟩⟩
          refine lc_range (lo := 0) (n := pl) (fun j H' => (∃ zs : List Str, H' D2 = some (.lst (zs.map V.str)) ∧ zs.length = j ∧ ∀ z ∈ zs, Tx 1 z) ∧ Same H5 H') ⟨⟨[], upd_same, rfl, fun y (h : y ∈ []) => (nomatch h)⟩, upd_same_as nD2⟩ ?_ ?_
          · rintro j2 H6 hj2 ⟨⟨zs, hD2, zl, zt⟩, s6⟩
            have hfl : (qq.2.map V.int).all flatV = true := by
              rw [List.all_map]
              exact List.all_eq_true.mpr fun _ _ => rfl
            refine ⟨rfl, lc_yes2 ⟨_, rfl, _, rfl, qq.1, _, rfl, .inl (SqL.of (s6 _ _ (s5 _ _ hqq))), rfl, hfl, .inr ⟨_, rfl, ?_⟩⟩⟩
            obtain ⟨c, hc, oc⟩ : ∃ c, atI ((".o" : Str).cps.toList) (b2i (inV (V.int (0 + (j2 : Int))) (qq.2.map V.int))) = some c ∧ c < 1114112 := by
              cases inV (V.int (0 + (j2 : Int))) (qq.2.map V.int) with
              | true => exact ⟨111, by decide +kernel, by decide⟩
              | false => exact ⟨46, by decide +kernel, by decide⟩
            refine ⟨_, _, c, rfl, rfl, by decide +kernel, hc, zs.map V.str, hD2, by rw [List.length_map, sizeLine_eq]; omega, ⟨zs ++ [⟨#[c]⟩], by rw [upd_same, List.map_append] <;> rfl, by rw [List.length_append, zl] <;> rfl, fun z hz => ?_⟩, more_same s6 nD2⟩
            rcases List.mem_append.mp hz with hz | hz
            · exact zt z hz
            · rw [List.mem_singleton.mp hz]
              refine ⟨Nat.le_refl 1, ok_iff.mpr fun c' hc' => ?_⟩
              have hc' : c' ∈ [c] := hc'
              rw [List.mem_singleton.mp hc']
              exact oc
          · rintro H6 ⟨⟨zs, hD2, zl, zt⟩, s6⟩
            have zl2 : zs.length ≤ 2 := by omega
            have tz := tx_join te zt
            refine ⟨_, D2, zs, rfl, rfl, .inl (SqL.of hD2), join_fit te zt (by omega), ?_⟩
            refine ⟨ys.map V.str, s6 _ _ hD, by rw [List.length_map, sizeLine_eq]; omega, ⟨ys ++ [_], by rw [upd_same, List.map_append] <;> rfl, by rw [List.length_append, yl] <;> rfl, fun y hy => ?_⟩, more_same (s5.trans s6) nD⟩
            rcases List.mem_append.mp hy with hy | hy
            · exact yt y hy
            · rw [List.mem_singleton.mp hy]
              exact tz.up (by omega)
        rintro H5 ⟨⟨ys, hD, yl, yt⟩, s5⟩
        rw [List.length_map, lk] at yl
        have tt := tx_join tb yt
        refine ⟨_, D, ys, rfl, rfl, .inl (SqL.of hD), join_fit tb yt (by omega), ?_⟩
        have G5 := Gsm G4 s5
        have but5 := but4.same s5
        have t100 : Tx 100 (Txt.join (" " : Str) ys) := tt.up (by omega)
        refine ⟨_, rfl, _, rfl, g, _, _, rfl, t100, G5, by omega, fun b vs H6 b6 G6 nb hb vl as6 => ?_⟩
        refine ⟨b, rfl, ⟨_, SqL.of hb⟩, ?_⟩
        refine for_list (K := K) (a := b) (xs := vs) (fun k σ H' => ∃ c6 : Option V, σ = [some (.ref sa), some (.int (0 + (i : Int))), some (.ref g), some (.int pl), some (.ref a), some (.str (Txt.join (" " : Str) ys)), c6, b7, b8, b9] ∧ Same H6 H')
          ⟨_, rfl, Same.refl _⟩ (fun k σ H' _ ⟨_, _, s⟩ => SqL.of (s _ _ hb)) ?_ ?_
        · rintro k x σ H7 hx ⟨c6, rfl, s7⟩
          obtain ⟨y, rfl, ty⟩ := as6 x (List.mem_of_getElem? hx)
          refine ⟨_, rfl, y, 1, rfl, by decide, by decide, right2 ty (by decide), ty.2, fun H8 s8 => ⟨_, rfl, iteF ?_⟩⟩
          exact ⟨_, rfl, y, 2, rfl, by decide, by decide, right2 ty (by decide), ty.2, fun H9 s9 => ⟨_, rfl, iteF ⟨_, rfl, s7.trans (s8.trans s9)⟩⟩⟩
        · rintro σ H7 ⟨c6, rfl, s7⟩
          exact ⟨_, _, _, _, _, _, _, rfl, Gmono (Gsm G6 s7) (by omega), fun c o e hc => s7 _ _ (b6 c o (but5 c o e hc) hc)⟩
      · rintro σ H2 ⟨b3, b4, b5, b6, b7, b8, b9, rfl, G2, but2⟩
        refine ⟨_, _, _, _, _, _, _, _, _, rfl, fun c o e => but2 c o (sL _ _ (sm _ _ e)) (ne_of_none (sm _ _ e) ng)⟩
    · rintro σ H1 ⟨a1, a2, a3, a4, a5, a6, a7, a8, a9, rfl, sm⟩
      refine ⟨(by show 15 ≤ sizeLine; decide), fun l1 n1 => ?_⟩
      refine ⟨_, rfl, (by show 4 ≤ sizeLine; decide), fun l2 n2 => ?_⟩
      refine ⟨l1, l2, _, _, rfl, rfl, upd_same_as n2 _ _ upd_same, upd_same, (by show 19 ≤ sizeLine; decide), fun l3 n3 => ?_⟩
      refine ⟨l3, rfl, ⟨_, SqL.of upd_same⟩, ?_⟩
      obtain ⟨vs, evs⟩ : ∃ vs, vs = ([V.str "", V.str " ", V.str "\n", V.str "o", V.str "o.", V.str "o. o", V.str ". .", V.str "..\n.", V.str "o o o", V.str "oOo", V.str "o\to", V.str "o.o.o", V.str "0", V.str "o-", V.str "[0]"] ++ [V.str "o. .o o", V.str " oo\n\n..", V.str "\n.\n", V.str "OO"]) := ⟨_, rfl⟩
      have as3 : AllS 20 vs := by
        rw [evs]
        exact texts19
      rw [← evs]
      have h3 := upd_same (H := upd (upd H1 l1 (.lst [V.str "", V.str " ", V.str "\n", V.str "o", V.str "o.", V.str "o. o", V.str ". .", V.str "..\n.", V.str "o o o", V.str "oOo", V.str "o\to", V.str "o.o.o", V.str "0", V.str "o-", V.str "[0]"])) l2 (.lst [V.str "o. .o o", V.str " oo\n\n..", V.str "\n.\n", V.str "OO"])) (a := l3) (o := .lst vs)
      generalize upd (upd (upd H1 l1 (.lst [V.str "", V.str " ", V.str "\n", V.str "o", V.str "o.", V.str "o. o", V.str ". .", V.str "..\n.", V.str "o o o", V.str "oOo", V.str "o\to", V.str "o.o.o", V.str "0", V.str "o-", V.str "[0]"])) l2 (.lst [V.str "o. .o o", V.str " oo\n\n..", V.str "\n.\n", V.str "OO"])) l3 (.lst vs) = H3 at h3 ⊢
      refine for_list (K := K) (a := l3) (xs := vs) (fun k σ H' => ∃ b1 b2 b3 b4 b5 b6 b7 b8 b9 : Option V, σ = [some (.ref sa), b1, b2, b3, b4, b5, b6, b7, b8, b9] ∧ Same H3 H')
        ⟨_, _, _, _, _, _, _, _, _, rfl, Same.refl _⟩ (fun k σ H' _ ⟨_, _, _, _, _, _, _, _, _, _, s⟩ => SqL.of (s _ _ h3)) ?_ ?_
      · rintro k x σ H7 hx ⟨b1, b2, b3, b4, b5, b6, b7, b8, b9, rfl, s7⟩
        obtain ⟨y, rfl, ty⟩ := as3 x (List.mem_of_getElem? hx)
        refine ⟨_, rfl, y, 1, rfl, by decide, by decide, right2 ty (by decide), ty.2, fun H8 s8 => ⟨_, rfl, iteF ?_⟩⟩
        exact ⟨_, rfl, y, 2, rfl, by decide, by decide, right2 ty (by decide), ty.2, fun H9 s9 => ⟨_, rfl, iteF ⟨_, _, _, _, _, _, _, _, _, rfl, s7.trans (s8.trans s9)⟩⟩⟩
      · rintro σ H7 ⟨b1, b2, b3, b4, b5, b6, b7, b8, b9, rfl, s7⟩
        exact ⟨rfl, fun H8 _ => q H8⟩
end
end Kx
/-! The head: facts by names, the run. -/
namespace Kx
open PySem PySem.Spec PyProof.Rows L2 Xa Xb Xc Xd Xs Xp Xm Xq Ya Yb Yc Yd Ye Yf Yg Yh
abbrev sXN : Stmt := inClass (top 2) 0
abbrev sXT : Stmt := inClass (top 3) 0
def dTop (x : Str) (st : Stmt) : He.DefD := ⟨(x, none), x, x, defArgs st, defBody st, defScope st, [], []⟩
def dMet (c m q : Str) (st : Stmt) (dfl : List He.Dv) (kwd : List (Str × He.Dv)) : He.DefD := ⟨(c, some m), m, q, defArgs st, defBody st, defScope st, dfl, kwd⟩
def dfs : List He.DefD := [dMet "InvalidNumber" "__init__" "InvalidNumber.__init__" sXN [.non] [], dMet "InvalidText" "__init__" "InvalidText.__init__" sXT [.non] [], dTop "is_whole" sWhole, dTop "is_between" sBetween, dTop "check_places" sCkPlaces, dTop "words_of" sWordsOf, dTop "is_word" sIsWord, dTop "piece_of" sPieceOf, dTop "read_plan" sRead, dTop "_law_cell" sCell, dTop "_law_hash" sHash, dTop "_law_generator" sGener, dTop "_law_random" sRandom, dTop "_law_any_plan" sAnyPlan, dTop "_law_due" sDue, dTop "_law_right" sRight, dTop "_law_bent" sBent, dTop "_law_other_values_right" sOther, dTop "law" sLaw]
def fas : List He.Fa := [.glo "WatchError", .glo "InvalidNumber", .glo "InvalidText", .glo "is_whole", .glo "is_between", .glo "check_places", .glo "words_of", .glo "is_word", .glo "piece_of", .glo "read_plan", .glo "_law_cell", .glo "_law_hash", .glo "_law_generator", .glo "_law_random", .glo "_law_any_plan", .glo "_law_due", .glo "_law_right", .glo "_law_bent", .glo "_law_other_values_right", .glo "law", .free "len", .free "int", .free "max", .free "range", .free "isinstance", .free "bool", .free "str", .free "all", .free "enumerate", .free "repr", .int "MOST_PLACES" 2, .str "TAKEN_SIGNS" "oO", .str "SIGNS" "oO."]
/-- WatchError's own reads -/
def wbB (K : PySem.W.Frag) : Bool := PySem.W.readsIn K (He.ga K "WatchError") (.type "type") && (He.eqO (PySem.W.specialIn K (.ref (He.ga K "WatchError")) "__getattribute__") (some (some (.builtin "type.__getattribute__"))) &&
  (match PySem.W.findCls K (.ref (He.ga K "WatchError")) (.type "type") "__init__" with
  | some (.val (.builtin n)) => n == "ValueError.__init__"
  | _ => false))
/-- an error class and its __init__ -/
def xmB (K : PySem.W.Frag) (x f : Str) : Bool := xclsB K (He.ga K x) f && (He.eqO (PySem.W.findIn K (.ref (He.ga K x)) "__init__") (some (some (.ref (He.ma K (He.ga K x) "__init__")))) && decide (PySem.W.typeIn K (.ref (He.ma K (He.ga K x) "__init__")) = some (.type "function")))
def kitE (K : PySem.W.Frag) (x y : Str) (b : Bool) : Bool := decide (PySem.W.kitOne K (.ref (He.ga K x)) (.ref (He.ga K y)) = some b)
def exB (K : PySem.W.Frag) : Bool := wbB K && (xmB K "InvalidNumber" "value" && (xmB K "InvalidText" "value" &&
  (kitE K "InvalidNumber" "InvalidNumber" true && (kitE K "InvalidNumber" "InvalidText" false && (kitE K "InvalidText" "InvalidNumber" false && (kitE K "InvalidText" "InvalidText" true &&
  (decide (PySem.W.exmOne K (.ref (He.ga K "InvalidNumber")) (.ref (He.ga K "WatchError")) = some true) && decide (PySem.W.exmOne K (.ref (He.ga K "InvalidText")) (.ref (He.ga K "WatchError")) = some true))))))))
abbrev RR : PySem.W.OpenRow := PySem.W.OpenLaw.row PySem.Challenge.rw_hearunlike_k31_texts_of_no_plan
/-- the part of the heap that is looked at -/
def frY (g : Addr → Option Obj) : PySem.W.Frag := He.frG g (cStatics :: He.asD g 6)
def obY (g : Addr → Option Obj) : He.AlD × Bool := (He.obsD fas dfs (frY g), exB (frY g))
/-- what is told of it -/
structure Says (K : PySem.W.Frag) (h : Heap) : Prop where
  inn : K.In h
  dd : He.SaysD fas dfs K
  ex : exB K = true
def hkX : PySem.W.Hook where
  α := He.AlD × Bool
  obs := fun s => obY s.heap.get?
  val := fun _ => (He.valD dfs, true)
  says := fun _ h => ∃ K : PySem.W.Frag, Says K h
  of := fun _ _ e => ⟨_, He.frG_in, congrArg (fun z : He.AlD × Bool => z.1) e, congrArg (fun z : He.AlD × Bool => z.2) e⟩
  keeps := fun _ _ _ ⟨K, c⟩ k => ⟨K, PySem.W.Frag.In.keeps c.inn k, c.dd, c.ex⟩
def obX (s : PySem.W.SharedT) : He.AlD × Bool := obY (HandSHeadRun.getT s)
theorem obX_eq (s : PySem.W.SharedT) : obX s = hkX.obs s.abs := by
  show obY (HandSHeadRun.getT s) = obY s.abs.heap.get?
  rw [show HandSHeadRun.getT s = s.abs.heap.get? from funext (HandSHeadRun.getT_eq s)]
def loose : List Str := ["WatchError", "InvalidNumber", "InvalidText", "MOST_PLACES", "TAKEN_SIGNS", "SIGNS", "is_whole", "is_between", "check_places", "words_of", "is_word", "piece_of", "read_plan", "_law_cell", "_law_hash", "_law_generator", "_law_random", "_law_any_plan", "_law_due", "_law_right", "_law_bent", "_law_other_values_right"]
theorem runX (w : World) : HandSHeadRun.RunEq RR (PySem.W.view RR.prog [26]) hkX obX 12000 loose w := by
  intro os
  kernel_rfl
end Kx
/-! The facts joined. -/
namespace Kx
open PySem PySem.Spec PyProof.Rows L2 Xa Xb Xc Xd Xs Xp Xm Xq Ya Yb Yc Yd Ye Yf Yg Yh
section
variable {P : Program} {w : World} {K : PySem.W.Frag} {mg : Str → Option Value} {base h : Heap}
theorem dfnAt (c : Says K h) (G : h.Ns mainGlobals mg) (i j : Nat) {x : Str} {st : Stmt} (hd : dfs[i]? = some (dTop x st) := by rfl) (hf : fas[j]? = some (.glo x) := by rfl) : Dfn K mg x st :=
  ⟨let ⟨fd, F⟩ := c.dd.def_ i hd; ⟨_, fd, F, He.glo_ok c.inn G (c.dd.fact j hf)⟩⟩
theorem gloAt (c : Says K h) (G : h.Ns mainGlobals mg) (j : Nat) {x : Str} (hf : fas[j]? = some (.glo x) := by rfl) : mg x = some (.ref (He.ga K x)) := He.glo_ok c.inn G (c.dd.fact j hf)
theorem freeAt (c : Says K h) (G : h.Ns mainGlobals mg) (j : Nat) {x : Str} (hf : fas[j]? = some (.free x) := by rfl) : mg x = none := He.free_ok c.inn G (c.dd.fact j hf)
theorem bi2 (c : Says K h) (G : h.Ns mainGlobals mg) : Bi2 mg := ⟨⟨freeAt c G 20, freeAt c G 21, freeAt c G 22, freeAt c G 23⟩, freeAt c G 24, freeAt c G 25, freeAt c G 26, freeAt c G 27, freeAt c G 28, freeAt c G 29⟩
/-- what exB tells -/
structure Ex (K : PySem.W.Frag) : Prop where
  wb : wbB K = true
  xn : xmB K "InvalidNumber" "value" = true
  xt : xmB K "InvalidText" "value" = true
  k1 : kitE K "InvalidNumber" "InvalidNumber" true = true
  k2 : kitE K "InvalidNumber" "InvalidText" false = true
  k3 : kitE K "InvalidText" "InvalidNumber" false = true
  k4 : kitE K "InvalidText" "InvalidText" true = true
  e1 : PySem.W.exmOne K (.ref (He.ga K "InvalidNumber")) (.ref (He.ga K "WatchError")) = some true
  e2 : PySem.W.exmOne K (.ref (He.ga K "InvalidText")) (.ref (He.ga K "WatchError")) = some true
theorem ex_of (c : exB K = true) : Ex K := by
  obtain ⟨a1, c⟩ := He.ba c
  obtain ⟨a2, c⟩ := He.ba c
  obtain ⟨a3, c⟩ := He.ba c
  obtain ⟨a5, c⟩ := He.ba c
  obtain ⟨a6, c⟩ := He.ba c
  obtain ⟨a7, c⟩ := He.ba c
  obtain ⟨a8, c⟩ := He.ba c
  obtain ⟨a9, a0⟩ := He.ba c
  exact ⟨a1, a2, a3, a5, a6, a7, a8, of_decide_eq_true a9, of_decide_eq_true a0⟩
theorem wbase (c : Says K h) (G : h.Ns mainGlobals mg) (e : Ex K) : WBase K mg "WatchError" := by
  obtain ⟨a1, c2⟩ := He.ba e.wb
  obtain ⟨a2, a3⟩ := He.ba c2
  refine ⟨He.ga K "WatchError", .type "type", gloAt c G 0, a1, He.eqO_ok a2, ?_⟩
  split at a3
  · rename_i n q
    rw [q, beq_iff_eq.mp a3]
  · cases a3
theorem bindsX {x qual : Str} {params : Arguments} {body : List Stmt} {scope : Scope} {f : Addr} {fd : FuncData} {ps : List Str} (F : FunD K x qual params body scope [.non] [] f fd) (hn : ps.length = 2)
    (hb : ∀ (T : Addr) (kV doc pm : Value) (an : Option Addr) (cdv ct : Value) (us its : List Value), us.length = 2 → its.length = 1 →
      ∃ k, bindArgs (PySem.W.fnOf x qual params body scope (.ref T) kV doc pm an cdv ct) ⟨us, []⟩ = seqItems? (.ref T) >>= k ∧ k (some its.toArray) = pure (ps.zip (us ++ its.drop 1))) : Binds K fd ps [] := by
  obtain ⟨ds, r, b⟩ := F.binds1 (ps := ps) 2 1 (by simp) (by rw [hn] <;> rfl) hb
  cases r
  exact b
theorem scXN : FnScope ["self", "value"] ["self", "value"] (defScope sXN) := ⟨rfl, rfl, rfl, by decide +kernel, rfl, by decide +kernel, by decide +kernel⟩
theorem scXT : FnScope ["self", "value"] ["self", "value"] (defScope sXT) := ⟨rfl, rfl, rfl, by decide +kernel, rfl, by decide +kernel, by decide +kernel⟩
theorem makeN (c : Says K h) (G : h.Ns mainGlobals mg) (e : Ex K) : XMake P w K mg base "InvalidNumber" (He.ga K "InvalidNumber") "value" := by
  obtain ⟨a1, c2⟩ := He.ba e.xn
  obtain ⟨a2, a3⟩ := He.ba c2
  obtain ⟨fd, F⟩ := c.dd.def_ 0 (d := dMet "InvalidNumber" "__init__" "InvalidNumber.__init__" sXN [.non] []) rfl
  have T := xcls_ok a1
  exact ⟨T, gloAt c G 1, _, fd, He.eqO_ok a2, of_decide_eq_true a3, ok_xi (f := "value") F scXN T (wbase c G e) rfl rfl rfl (fun _ _ _ => ⟨_, rfl⟩) (by decide) (by decide), bindsX F rfl fun T kV doc pm an cdv ct us its h1 h2 => match us, its, h1, h2 with | [_, _], [_], _, _ => ⟨_, rfl, rfl⟩⟩
theorem makeT (c : Says K h) (G : h.Ns mainGlobals mg) (e : Ex K) : XMake P w K mg base "InvalidText" (He.ga K "InvalidText") "value" := by
  obtain ⟨a1, c2⟩ := He.ba e.xt
  obtain ⟨a2, a3⟩ := He.ba c2
  obtain ⟨fd, F⟩ := c.dd.def_ 1 (d := dMet "InvalidText" "__init__" "InvalidText.__init__" sXT [.non] []) rfl
  have T := xcls_ok a1
  exact ⟨T, gloAt c G 2, _, fd, He.eqO_ok a2, of_decide_eq_true a3, ok_xi (f := "value") F scXT T (wbase c G e) rfl rfl rfl (fun _ _ _ => ⟨_, rfl⟩) (by decide) (by decide), bindsX F rfl fun T kV doc pm an cdv ct us its h1 h2 => match us, its, h1, h2 with | [_, _], [_], _, _ => ⟨_, rfl, rfl⟩⟩
theorem errF (c : Says K h) (G : h.Ns mainGlobals mg) (e : Ex K) : ErrF K mg (He.ga K "WatchError") (He.ga K "InvalidNumber") (He.ga K "InvalidText") :=
  ⟨gloAt c G 0, gloAt c G 1, gloAt c G 2, of_decide_eq_true e.k1, of_decide_eq_true e.k2, of_decide_eq_true e.k3, of_decide_eq_true e.k4, e.e1, e.e2, xcls_ok (He.ba e.xn).1, xcls_ok (He.ba e.xt).1⟩
theorem lawF (c : Says K h) (G : h.Ns mainGlobals mg) (e : Ex K) : LawF P w K mg base := by
  have B := bi2 c G
  obtain ⟨tm, gM⟩ := He.int_ok c.inn G (c.dd.fact 30 (f := .int "MOST_PLACES" 2) rfl)
  obtain ⟨tO, gO⟩ := He.str_ok c.inn G (c.dd.fact 31 (f := .str "TAKEN_SIGNS" "oO") rfl)
  obtain ⟨tS, gS⟩ := He.str_ok c.inn G (c.dd.fact 32 (f := .str "SIGNS" "oO.") rfl)
  have cW := can_whole (P := P) (w := w) (base := base) (dfnAt c G 2 3) B
  have cB := can_between (dfnAt c G 3 4) cW
  have cC := can_ckplaces (dfnAt c G 4 5) gM (makeN c G e) cB
  have cWo := can_wordsof (P := P) (w := w) (base := base) (dfnAt c G 5 6)
  have cI := can_isword (P := P) (w := w) (base := base) (dfnAt c G 6 7) B gS
  have cP := can_pieceof (P := P) (w := w) (base := base) (dfnAt c G 7 8) B gO
  have cR := can_read (ts := tS) (dfnAt c G 8 9) B (makeT c G e) cC cWo cI cP
  obtain ⟨fC, fdC, FC, gC⟩ := ((dfnAt c G 9 10) : Dfn K mg "_law_cell" sCell).at_
  obtain ⟨fH, fdH, FH, gH⟩ := ((dfnAt c G 10 11) : Dfn K mg "_law_hash" sHash).at_
  obtain ⟨fG, fdG, FG, gG⟩ := ((dfnAt c G 11 12) : Dfn K mg "_law_generator" sGener).at_
  obtain ⟨fR, fdR, FR, gR⟩ := ((dfnAt c G 12 13) : Dfn K mg "_law_random" sRandom).at_
  exact ⟨FnG.can (ok_gener FG B.toBi FC gC) FG gG fun _ _ _ _ _ _ us hl => match us, hl with | [_, _], _ => rfl,
    FnG.can (ok_random FR B.toBi FH gH) FR gR fun _ _ _ _ _ _ us hl => match us, hl with | [_, _], _ => rfl,
    can_anyplan (dfnAt c G 13 14) B FR gR FH gH,
    can_bent (dfnAt c G 16 17) B FR gR FH gH,
    can_right (dfnAt c G 15 16) B (errF c G e) (can_due (dfnAt c G 14 15) B) cR,
    can_other (dfnAt c G 17 18) B (errF c G e) cR⟩
end
end Kx
open PySem PySem.W PySem.Calls PyProof.Rows
theorem PySem.Challenge.cw_hearunlike_k31_texts_of_no_plan_holds : PySem.Challenge.rw_hearunlike_k31_texts_of_no_plan.Holds := by
  w_on; o_law
  refine HandSHeadRun.head_any (r := Kx.RR) (q := view Kx.RR.prog [26]) (H := Kx.hkX) (ob := Kx.obX) (M := 12000) (loose := Kx.loose) (d := HandSHeadRun.topDef Kx.RR.prog 26) (kwd := []) Kx.obX_eq
    (by kernel_rfl) (fun s => by kernel_rfl) Kx.runX (by kernel_rfl) (by kernel_rfl) (by kernel_rfl) (by rfl) (by first | assumption | decide +kernel) (by decide +kernel) ⟨rfl, rfl, rfl, rfl, rfl, by decide +kernel⟩ ?hw ?hc
  case hw => w_witness2
  case hc =>
    refine Xh.walkG (l := PySem.Challenge.rw_hearunlike_k31_texts_of_no_plan) (n := 63) (k := 6) (x := "script") rfl (by decide) (by kernel_rfl) ⟨rfl, by decide, by decide⟩ rfl ?F
    intro w mg fa h Y G hmg0
    obtain ⟨K, c⟩ := Y
    have hmg : mg ("law" : PySem.Str) = some (.ref fa) := by
      have e : (HandSHeadRun.topDef Kx.RR.prog 26).name = ("law" : PySem.Str) := by kernel_rfl
      rw [← e]
      exact hmg0
    obtain ⟨fd, F⟩ := c.dd.def_ 18 (d := Kx.dTop "law" Kx.sLaw) rfl
    have e := hmg.symm.trans (Kx.gloAt c G 19)
    cases e
    have ex := Kx.ex_of c.ex
    have b := L2.FunD.bindsA (ps := ["script"]) F fun _ _ _ _ _ _ us hl => match us, hl with | [_], _ => rfl
    exact ⟨K, fd, Kx.spLaw K, c.inn, fun s v => b s [v] rfl, fun H a ns hS => ⟨a, ns, rfl, hS, fun _ => rfl⟩, fun base => Kx.fn_law F (Kx.bi2 c G) (Kx.lawF c G ex)⟩
