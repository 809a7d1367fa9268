import PyProof.Rows.All
import Wide.All
import OpenK.AllK
import Wide.FinOn
import PyProof.ReprRoads
import HandS.ForMost
import HandS.Exc
import HandS.ExcOwn
import HandS.ExcInit
import HandS.ExcIs
import HandS.ExcField
import HandS.IsInst
import HandS.Defaults
import HandS.WordsExc
import KE.KExcIs
import HandS.TryOnly
import HandS.HeadHook4
import HandS.ExcValue
import HandS.TupSets
import HandS.Strs
import KE.SortData
import HandS.MakeKw
import HandS.Ends
import HandS.HeadEnd
import PyProof.FitsInt
import PyProof.ReprLen
import HandS.ReplaceLit
import HandS.ReplaceDef
import PyProof.Draws
import PyProof.WalksEnum
import PyProof.EnumMake
import HandS.Walk
import HandS.Wide
import HandS.WideBits
import HandS.Codes
import HandS.Style
import PyProof.StrOps2
import Lean
import HandS.More
import HandS.Head0
import HandS.Head1
import HandS.Head2
import HandS.HeadHook1
import HandS.HeadHook2
import PySem.Challenge.RW_hearunlike_k30_plans_written_and_read
set_option Elab.async false
set_option linter.all false
set_option maxRecDepth 100000
set_option maxHeartbeats 0
/-! Own ground, part A: defs that know that no repr is under way; repr of data. -/
namespace Xa
open PySem PySem.Spec PyProof.Rows L2

/-! ### no repr is under way -/
def NoRep (A : Around) : Prop := A.guards = some []
theorem NoRep.deeper {A : Around} (n : NoRep A) (en : Env) : NoRep (A.deeper en) := n

/-- a def's promise where no repr is under way and nothing leaves it -/
structure FnG (P : Program) (w : World) (K : PySem.W.Frag) (mg : Str → Option Value) (base : Heap) (lev : Nat) (at_ : Addr) (fd : FuncData) (ps : List Str) (pr : Sp) : Prop where
  size : ∀ xs H Q E, pr xs H Q E → xs.length = ps.length
  go : ∀ (A : Around) (out : List Env) (st : Shared) (H : Hp) (ar : Args) (us : List Value) (xs : List V) (Q : VK) (E : XK), Room lev A → NoRep A →
    Env0 P w K mg base A out st H → BindsTo st fd ar (ps.zip us) → Vals xs us → pr xs H Q E → codeAny (model P w) A (.call (.ref at_) ar) (CR CX0 out P w H st Q E) st

section
variable {P : Program} {w : World} {K : PySem.W.Frag} {mg : Str → Option Value} {base : Heap} {x qual : Str} {params : Arguments} {body : List Stmt} {scope : Scope} {dvs : List V} {kws : List (Str × V)} {at_ : Addr} {fd : FuncData}
theorem okG {N ps : List Str} {lev : Nat} {pr : Sp} (F : FunD K x qual params body scope dvs kws at_ fd) (S : FnScope N ps scope) (size : ∀ xs H Q E, pr xs H Q E → xs.length = ps.length)
    (hb : ∀ (cdv : Value) (A : Around) (out : List Env) (st : Shared) (H : Hp) (xs : List V) (Q : VK) (E : XK), Room lev (A.deeper (envOfC qual scope st.heap.objs.size at_ cdv)) → NoRep (A.deeper (envOfC qual scope st.heap.objs.size at_ cdv)) → pr xs H Q E →
      ∃ t, PSs (cxOf CX0 P w K mg base N qual scope at_ cdv A out st H E).nox body t ∧ t { nx := fun _ H' => Q .non H', rt := Q } (start N xs) H) : FnG P w K mg base (lev + 1) at_ fd ps pr := by
  obtain ⟨oc, od, dV, kV, doc, pm, an, cdv, ct, osl, rfl, lk, hcd, _, _⟩ := F.ex
  refine ⟨size, fun A out st H ar us xs Q E hr hn e0 bnd rel hp => ?_⟩
  have sz := size _ _ _ _ hp
  have inK : K.In st.heap := e0.mod.kin.keeps fun b o z => (e0.bs b o z).1
  have noLim : st.heap.NoLimit := e0.mod.nolimit.keeps fun b o z => (e0.bs b o z).1
  refine codeAny_call_function hr.depth (inK _ _ lk) rfl S.co S.gen rfl (PySem.W.codeRec_of inK hcd) (bnd _ _ _ _ ?_)
  refine wpAny_newFunctionEnv_cells S.kind (fun ⟨n, v⟩ hy => ?_) fun env he s1 ic => ?_
  · exact (S.par n (List.of_mem_zip hy).1).elim .inl fun z => .inr ⟨z, PySem.W.cellsFrom_some _ _ _ (.inl z)⟩
  subst he
  refine ⟨noLim.keeps ic.toInCall.keep, codeAny_func ?_⟩
  obtain ⟨t, ht, hq⟩ := hb cdv A out st H xs Q E (hr.deeper _) (hn.deeper _) hp
  have I : Inv (cxOf CX0 P w K mg base N qual scope at_ cdv A out st H E) [] (start N xs) H s1 := inv_start S hr.hd e0 sz rel ic
  refine wpAny_mono (ht.nox.run [] s1 (start N xs) H _ I hq) (fun fl s2 hs => ?_) fun e s2 hs => hs
  cases fl with
  | ret u => exact let ⟨v, _, H', J, rv, q⟩ := hs; ⟨v, H', J.os, J.bare, J.base, J.hok, rv, q⟩
  | next => exact let ⟨_, H', J, q⟩ := hs; ⟨V.non, H', J.os, J.bare, J.base, J.hok, rfl, q⟩
  | brk => exact let ⟨_, _, _, q⟩ := hs; False.elim q
  | cont => exact let ⟨_, _, _, q⟩ := hs; False.elim q
theorem FnG.up {ps : List Str} {i j : Nat} {pr : Sp} (G : FnG P w K mg base i at_ fd ps pr) (h : i ≤ j) : FnG P w K mg base j at_ fd ps pr :=
  ⟨G.size, fun A out st H ar us xs Q E hr => G.go A out st H ar us xs Q E (hr.mono h)⟩
end

section
variable {X : Cx} {lev : Nat} {at_ : Addr} {fd : FuncData} {ps : List Str} {pr : Sp} {x : Str} {p pos : Pos} {e : Expr} {es : List Expr} {ta : TA}
theorem run_G {pins : List (Addr × Obj)} {σ : L2.St} {H : Hp} {st : Shared} {Q : VK} {us : List Value} {xs : List V} (G : FnG X.prog X.w X.K X.mg X.base lev at_ fd ps pr) (hr : Room lev X.A) (hn : NoRep X.A) (hb : Binds X.K fd ps [])
    (I : Inv X pins σ H st) (rel : Vals xs us) (hp : pr xs H Q E0) : wpAny (model X.prog X.w) X.A (call (.ref at_) us) (EP X pins σ Q) X.xe st := by
  have sz : us.length = ps.length := by rw [← rel.length]; exact G.size _ _ _ _ hp
  have bnd := hb st us I.kIn (by rw [List.append_nil]; exact sz)
  rw [List.append_nil] at bnd
  refine wpAny_call (codeAny_mono (G.go X.A X.stack st H ⟨us, []⟩ us xs Q E0 hr hn I.env0 bnd rel hp) fun r s2 hq => ?_)
  cases r with
  | error er => exact False.elim hq
  | ok fl =>
    cases fl with
    | ret u => exact I.after hq
    | next => exact False.elim hq
    | brk => exact False.elim hq
    | cont => exact False.elim hq
/-- f(e, ..) of such a def -/
theorem pe_callG (G : FnG X.prog X.w X.K X.mg X.base lev at_ fd ps pr) (hr : Room lev X.A) (hn : NoRep X.A) (hg : Gl X x) (hm : X.mg x = some (.ref at_)) (kp : PySem.W.keepIn X.K (.ref at_) = true) (hb : Binds X.K fd ps [])
    (ha : PA X (e :: es) ta) (hdb : (x == ("__debug__" : Str)) = false := by decide) (he : starEach (e :: es) X.env = (false, eval e X.env) :: starEach es X.env := by rfl)
    (hpl : (backTo pos (starEach es X.env)).any (·.1) = false := by rfl) : PE X (.Call (.Name x p) (e :: es) [] pos) (tCall pr [] E0 ta) := by
  refine ⟨fun pins st σ H Q I h => wpAny_Call_Name_kw (ld_glob I hg hm ?_ hdb)⟩
  refine PySem.W.callWith_K (h₀ := X.base) I.ok.mod.kin kp (thn (ha.run pos pins st σ H _ I h) fun us s1 ⟨xs, H1, I1, rel, q⟩ => ⟨I1.kIn, ?_⟩) he hpl
  exact run_G G hr hn hb I1 rel (by rw [← List.append_nil xs]; exact q)
theorem pe_callG0 (G : FnG X.prog X.w X.K X.mg X.base lev at_ fd ps pr) (hr : Room lev X.A) (hn : NoRep X.A) (hg : Gl X x) (hm : X.mg x = some (.ref at_)) (kp : PySem.W.keepIn X.K (.ref at_) = true) (hb : Binds X.K fd ps [])
    (hdb : (x == ("__debug__" : Str)) = false := by decide) : PE X (.Call (.Name x p) [] [] pos) (tCall pr [] E0 tNil) := by
  refine ⟨fun pins st σ H Q I h => wpAny_Call_Name_kw (ld_glob I hg hm ?_ hdb)⟩
  exact PySem.W.callWith_K0 I.kIn kp (run_G (us := []) (xs := []) G hr hn hb I .nil h)
end

/-! ### repr of data -/
mutual
/-- v is the datum d, met through the lists at ls: as Dp, and dicts with int and text keys -/
inductive Dq (K : PySem.W.Frag) (H : Hp) : V → PyData → List Addr → Prop
  | non : Dq K H .non .none []
  | bl (b : Bool) : Dq K H (.bl b) (.bool b) []
  | int (i : Int) : Dq K H (.int i) (.int i) []
  | str (z : Str) : Dq K H (.str z) (.str z) []
  | lst {a : Addr} {xs : List V} {ds : List PyData} {ls : List Addr} : SqL K H a xs → Dqs K H xs ds ls → Dq K H (.ref a) (.list ds) (a :: ls)
  | tup {a : Addr} {xs : List V} {ds : List PyData} {ls : List Addr} : SqT K H a xs → Dqs K H xs ds ls → Dq K H (.ref a) (.tuple ds) ls
  | dic {a : Addr} {kvs : List (Key × V)} {ds : List (PyData × PyData)} {l1 l2 : List Addr} : H a = some (.dK kvs) → Dqs K H (kvs.map fun p => kV p.1) (ds.map (·.1)) l1 → Dqs K H (kvs.map (·.2)) (ds.map (·.2)) l2 → Dq K H (.ref a) (.dict ds) (l1 ++ l2)
inductive Dqs (K : PySem.W.Frag) (H : Hp) : List V → List PyData → List Addr → Prop
  | nil : Dqs K H [] [] []
  | cons {v : V} {vs : List V} {d : PyData} {ds : List PyData} {l1 l2 : List Addr} : Dq K H v d l1 → Dqs K H vs ds l2 → Dqs K H (v :: vs) (d :: ds) (l1 ++ l2)
end
theorem kv_vals : ∀ {kvs : List (Key × V)} {us : List (Key × Value)} {P : Program} {w : World} {es : List DictEntry}, KV kvs us → Pairs (mixKind P w) es us → Vals (kvs.map (·.2)) (es.map (·.val)) ∧ Vals (kvs.map fun p => kV p.1) (es.map (·.key))
  | [], _, _, _, _, .nil, .nil => ⟨.nil, .nil⟩
  | (k, v) :: r, _, _, _, _, .cons (b := (k', u)) h t, .cons (e := e) he hv q => by
    obtain ⟨r1, r2⟩ := kv_vals t q
    obtain ⟨e1, e2⟩ := h
    have e1' : k = k' := e1
    subst e1'
    refine ⟨.cons (show RelV v e.val from by rw [hv]; exact e2) r1, .cons ?_ r2⟩
    rcases keyIs_shape (show keyIs k e.key = true from he) with ⟨i, t, rfl, z⟩ | ⟨x, t, rfl, z⟩
    · exact ⟨t, z⟩
    · exact ⟨t, z⟩
section
variable {X : Cx} {pins : List (Addr × Obj)} {σ : L2.St} {H : Hp} {st : Shared}
/-- what stands behind such a datum, as the library reads it -/
def Sees (h : Heap) (u : Value) (d : PyData) (ls : List Addr) : Prop := ∃ as, Reads h u d as ∧ ∀ a ∈ as, a ∈ ls ∨ (a == sysModules) = false
def SeesAll (h : Heap) (us : List Value) (ds : List PyData) (ls : List Addr) : Prop := ∃ as, ReadsAll h us ds as ∧ ∀ a ∈ as, a ∈ ls ∨ (a == sysModules) = false
mutual
theorem Dq.sees (I : Inv X pins σ H st) : ∀ (v : V) (d : PyData) (ls : List Addr) (u : Value), Dq X.K H v d ls → RelV v u → Sees st.heap u d ls
  | _, _, _, _, .non, r => by
    cases r
    exact ⟨_, .none, fun _ z => nomatch z⟩
  | _, _, _, _, .bl b, r => by
    cases r
    exact ⟨_, .bool b, fun _ z => nomatch z⟩
  | _, _, _, _, .int i, r => by
    obtain ⟨t, rfl⟩ := r
    exact ⟨_, .int i t, fun _ z => nomatch z⟩
  | _, _, _, _, .str z, r => by
    obtain ⟨t, rfl⟩ := r
    exact ⟨_, .str z t, fun _ z => nomatch z⟩
  | _, _, _, _, .lst (a := a) hq hs, r => by
    obtain rfl := (show _ = Value.ref a from r)
    obtain ⟨its, rv, ⟨o, n, ho, hc, _, hd⟩, _⟩ := I.list hq
    obtain ⟨as, ra, ha⟩ := Dqs.sees I _ _ _ _ hs rv
    exact ⟨_, .list ho hc hd ra, fun b hb => (List.mem_cons.mp hb).elim (fun z => .inl (z ▸ List.mem_cons_self)) fun z => (ha b z).imp (List.mem_cons_of_mem _) id⟩
  | _, _, _, _, .tup (a := a) hq hs, r => by
    obtain rfl := (show _ = Value.ref a from r)
    obtain ⟨its, rv, ⟨o, ho, hc, n, hd⟩, _⟩ := I.tuple hq
    obtain ⟨as, ra, ha⟩ := Dqs.sees I _ _ _ _ hs rv
    exact ⟨_, .tuple ho hc hd ra, ha⟩
  | _, _, _, _, .dic (a := a) (kvs := kvs) ha hk hv, r => by
    obtain rfl := (show _ = Value.ref a from r)
    obtain ⟨_, hm, us, kv, o, es, ep, ho, hx, hd, _, hp, _⟩ := (show ObjOk X.prog X.w H st.heap a (.dK kvs) from I.hok a _ ha)
    obtain ⟨rv, rk⟩ := kv_vals kv hp
    obtain ⟨as, r1, h1⟩ := Dqs.sees I _ _ _ _ hk rk
    obtain ⟨bs, r2, h2⟩ := Dqs.sees I _ _ _ _ hv rv
    refine ⟨_, .dict ho hx.1 hd r1 r2, fun b hb => ?_⟩
    rcases List.mem_append.mp hb with hb | hb
    · rcases List.mem_cons.mp hb with rfl | hb
      · exact .inr hm
      · exact (h1 b hb).imp (List.mem_append_left _) id
    · exact (h2 b hb).imp (List.mem_append_right _) id
theorem Dqs.sees (I : Inv X pins σ H st) : ∀ (vs : List V) (ds : List PyData) (ls : List Addr) (us : List Value), Dqs X.K H vs ds ls → Vals vs us → SeesAll st.heap us ds ls
  | _, _, _, _, .nil, .nil => ⟨_, .nil, fun _ z => nomatch z⟩
  | _, _, _, _, .cons h t, .cons r rs => by
    obtain ⟨as, r1, h1⟩ := Dq.sees I _ _ _ _ h r
    obtain ⟨bs, r2, h2⟩ := Dqs.sees I _ _ _ _ t rs
    refine ⟨_, .cons r1 r2, fun b hb => ?_⟩
    rcases List.mem_append.mp hb with hb | hb
    · exact (h1 b hb).imp (List.mem_append_left _) id
    · exact (h2 b hb).imp (List.mem_append_right _) id
end
end
section
variable {X : Cx}
/-- repr(v), v a datum -/
def rRepr (K : PySem.W.Frag) : List V → Hp → VK → Prop := fun xs H Q => ∃ (v : V) (d : PyData) (ls : List Addr), xs = [v] ∧ Dq K H v d ls ∧ (d.hasDict = true → sysModules ∉ ls) ∧ d.showable = true ∧ d.depth ≤ 60 ∧ d.shown.length ≤ sizeLine ∧ Q (.str d.shown) H
theorem call_repr (hn : NoRep X.A) (hu : X.A.units + 64 < cLine) : CallR X (.builtin "repr") (rRepr X.K) := by
  intro pins st σ H xs us Q I r h
  obtain ⟨v, d, ls, rfl, hd, hs, sh, dp, sz, q⟩ := h
  obtain ⟨u, rfl, ru⟩ := vals1 r
  obtain ⟨as, rd, ha⟩ := Dq.sees I v d ls u hd ru
  have no : d.hasDict = true → sysModules ∉ as := fun z hm => by
    rcases ha _ hm with k | k
    · exact hs z k
    · exact absurd (beq_self_eq_true sysModules) (by rw [k]; exact Bool.false_ne_true)
  have fin : ∀ {tk tk2 : Nat} {h' : Heap}, (∀ b o, st.heap.get? b = some o → h'.get? b = some o) → EP X pins σ Q (.str d.shown tk) { st with heap := h', toks := tk2 } := fun k => ⟨.str _, H, I.kept k, ⟨_, rfl⟩, q⟩
  cases hd with
  | non =>
    obtain rfl := (show u = Value.none from ru)
    exact PySem.P.repr_of_none (fin (h' := st.heap) fun _ _ z => z)
  | bl b =>
    obtain rfl := (show u = Value.bool b from ru)
    exact PySem.P.repr_of_bool (fin (h' := st.heap) fun _ _ z => z)
  | int i =>
    obtain ⟨t, rfl⟩ := (show ∃ t, u = Value.int i t from ru)
    exact PySem.P.repr_of_int (of_decide_eq_true sh) (fin (h' := st.heap) fun _ _ z => z)
  | str z =>
    obtain ⟨t, rfl⟩ := (show ∃ t, u = Value.str z t from ru)
    exact PySem.P.repr_of_str (fin (h' := st.heap) fun _ _ z => z) sz
  | lst hq hx =>
    obtain rfl := (show u = Value.ref _ from ru)
    exact repr_of_reads' rd sh no hn (by omega) (fun _ _ z => z) (fun h' _ _ k => fin k) sz
  | tup hq hx =>
    obtain rfl := (show u = Value.ref _ from ru)
    exact repr_of_reads' rd sh no hn (by omega) (fun _ _ z => z) (fun h' _ _ k => fin k) sz
  | dic hq hk hv =>
    obtain rfl := (show u = Value.ref _ from ru)
    exact repr_of_reads' rd sh no hn (by omega) (fun _ _ z => z) (fun h' _ _ k => fin k) sz
end
end Xa
/-! Own ground, part B: exceptions of own classes over an own WatchError: made, raised, caught and kept, their field, isinstance. -/
namespace Xb
open PySem PySem.Spec PyProof.Rows L2 Xa

/-! ### what the text says of a class -/
/-- C is such a class: its instances' field is called f -/
structure XCls (K : PySem.W.Frag) (C : Addr) (f : Str) : Prop where
  oex : OexC K C
  xf : XfC K C
  isx : ExcC K C
  nof : PySem.W.findIn K (.ref C) f = some none
def ocB (K : PySem.W.Frag) (C : Addr) : Bool := match K.lookup C with
  | some ⟨.type "type", _, .cls ⟨_, _, .ref C2 :: bm, _, _, true, _, _, _, _, false⟩, ⟨[_, _, _, _, some (.builtin n), _]⟩⟩ => C2 == C && (n == "ValueError.__new__" && HandSPX.refsVE bm)
  | _ => false
theorem ocB_ok {K : PySem.W.Frag} {C : Addr} (h : ocB K C = true) : ∃ nm q N bs bm sn sub ab col dd k0 k1 k2 k3 k5, K.lookup C = some (excClassObj nm q C N bs bm true sn sub ab col dd k0 k1 k2 k3 k5 "ValueError.__new__") ∧ HandSPX.refsVE bm = true := by
  unfold ocB at h
  split at h
  · rename_i e
    obtain ⟨h1, h2⟩ := He.ba h
    obtain ⟨h3, h4⟩ := He.ba h2
    have e1 := beq_iff_eq.mp h1
    have e2 := beq_iff_eq.mp h3
    subst e1 e2
    exact ⟨_, _, _, _, _, _, _, _, _, _, _, _, _, _, _, e, h4⟩
  · cases h
def vEq (a b : Option (Option Value)) : Bool := decide (a = b)
def xclsB (K : PySem.W.Frag) (C : Addr) (f : Str) : Bool := ocB K C && (He.eqO (PySem.W.findIn K (.ref C) "__setattr__") (some (some (.builtin "object.__setattr__"))) && (decide (PySem.W.subIn K (.ref C) (.type "BaseException") = some true) &&
  (decide (PySem.W.typeIn K (.ref C) = some (.type "type")) && (PySem.W.keepIn K (.ref C) && (xfB K C && (He.eqO (PySem.W.findIn K (.ref C) "__class__") (some (some (.builtin "object.__class__"))) &&
  (He.eqO (PySem.W.specialIn K (.builtin "object.__class__") "__get__") (some (some (.builtin "getset_descriptor.__get__"))) && (decide (PySem.W.takesIn K (.builtin "object.__class__") = some true) && (decide (PySem.W.mroIn K C (.type "object") = some true) &&
  He.eqO (PySem.W.findIn K (.ref C) f) (some none))))))))))
theorem xcls_ok {K : PySem.W.Frag} {C : Addr} {f : Str} (h : xclsB K C f = true) : XCls K C f := by
  obtain ⟨h1, h⟩ := He.ba h
  obtain ⟨h2, h⟩ := He.ba h
  obtain ⟨h3, h⟩ := He.ba h
  obtain ⟨h4, h⟩ := He.ba h
  obtain ⟨h5, h⟩ := He.ba h
  obtain ⟨h6, h⟩ := He.ba h
  obtain ⟨h7, h⟩ := He.ba h
  obtain ⟨h8, h⟩ := He.ba h
  obtain ⟨h9, h⟩ := He.ba h
  obtain ⟨h10, h11⟩ := He.ba h
  have x := xfB_ok h6
  exact ⟨⟨ocB_ok h1, He.eqO_ok h2, of_decide_eq_true h3, of_decide_eq_true h4, h5⟩, x, ⟨x.ga, x.gg, x.exC, x.hdC, He.eqO_ok h7, He.eqO_ok h8, of_decide_eq_true h9, of_decide_eq_true h10⟩, He.eqO_ok h11⟩

/-! ### an exception as a tracked thing -/
/-- at a: an exception of the class at C, its own dict at d -/
def xob (a C d : Addr) : HO := .ext fun h => ∃ (oe : Obj) (vs : Array Value), h.get? a = some oe ∧ oe.cls = .ref C ∧ oe.dict = some d ∧ oe.data = .fields vs
theorem xob_ok {P : Program} {w : World} {H : Hp} {h : Heap} {a C d : Addr} {oe : Obj} (e : h.get? a = some oe) (c : oe.cls = .ref C) (hd : oe.dict = some d) (hf : ∃ vs, oe.data = .fields vs) : ObjOk P w H h a (xob a C d) := by
  obtain ⟨vs, hf⟩ := hf
  exact ⟨⟨oe, vs, e, c, hd, hf⟩, ⟨oe, e⟩, fun _ _ z k => let ⟨o, v, q, r⟩ := z; ⟨o, v, k o q, r⟩⟩
section
variable {X : Cx} {pins : List (Addr × Obj)} {σ : L2.St} {H : Hp} {st : Shared}
theorem xob_inst {a C d : Addr} {fs : List (Str × V)} (I : Inv X pins σ H st) (ha : H a = some (xob a C d)) (hd : H d = some (.xd fs)) :
    ∃ (ox od : Obj) (mA : Str → Option Value), PySem.W.InstAt st.heap a ox C (some od) ∧ (∀ n, PySem.W.lookIn n od = some (mA n)) ∧ ∀ n, RelO (fs.lookup n) (mA n) := by
  obtain ⟨⟨oe, vs, e, c, ed, ef⟩, _⟩ := (show ObjOk X.prog X.w H st.heap a (xob a C d) from I.hok a _ ha)
  obtain ⟨mA, hns, hr⟩ := (show ObjOk X.prog X.w H st.heap d (.xd fs) from I.hok d _ hd)
  obtain ⟨od, ho, hl⟩ := lookIn_ns hns
  exact ⟨oe, od, mA, ⟨e, c, by unfold PySem.W.notCls; rw [ef] <;> rfl, by rw [ed]; exact ho⟩, hl, hr⟩
end
/-- e.f, an exception's field -/
def tXv (K : PySem.W.Frag) (f : Str) (te : TE) : TE := fun σ H Q => te σ H fun x H1 => ∃ (a C d : Addr) (fs : List (Str × V)) (v : V), x = .ref a ∧ H1 a = some (xob a C d) ∧ H1 d = some (.xd fs) ∧ XCls K C f ∧ fs.lookup f = some v ∧ Q v H1
/-- isinstance(e, c), e such an exception -/
def rIsx (K : PySem.W.Frag) : List V → Hp → VK → Prop := fun xs H Q => ∃ (a C d : Addr) (fs : List (Str × V)) (c : V) (cv : Value) (b : Bool), xs = [.ref a, c] ∧ H a = some (xob a C d) ∧ H d = some (.xd fs) ∧ ExcC K C ∧ ClsV c cv ∧ PySem.W.kitOne K (.ref C) cv = some b ∧ Q (.bl b) H
section
variable {X : Cx} {e : Expr} {te : TE} {pos : Pos} {f : Str}
theorem pe_xv (he : PE X e te) (hb : attributeBase e f X.env (eval e X.env) = eval e X.env := by rfl) : PE X (.Attribute e f pos) (tXv X.K f te) := by
  refine ⟨fun pins st σ H Q I h => attr_of hb (thn (he.run pins st σ H _ I h) fun u s1 ⟨x, H1, I1, rx, a, C, d, fs, v, ex, ea, ed, T, l, q⟩ => ?_)⟩
  subst ex
  obtain rfl : u = Value.ref a := rx
  obtain ⟨ox, od, mA, J, hl, hr⟩ := xob_inst I1 ea ed
  obtain ⟨u, hu, ru⟩ := RelO.some_of (v := v) (o := mA f) (by rw [← l]; exact hr f)
  exact HandSPX.exc_get I1.kIn J T.xf.ga T.xf.gg T.xf.exC (PySem.W.findObj_own T.xf.hdC T.nof rfl (by rw [hl, hu])) (handed_of ru) ⟨v, H1, I1.tok _, ru, q⟩
theorem call_isx : CallR X (.builtin "isinstance") (rIsx X.K) := by
  intro pins st σ H xs us Q I r h
  obtain ⟨a, C, d, fs, c, cv, b, rfl, ha, hd, T, k, e, q⟩ := h
  obtain ⟨u1, u2, rfl, r1, r2⟩ := vals2 r
  have e2 := k.eq r2
  subst e2
  obtain rfl := (show u1 = Value.ref a from r1)
  obtain ⟨ox, od, mA, J, _, _⟩ := xob_inst I ha hd
  have hc : (PySem.W.clsIn X.K C).isSome = true := by
    obtain ⟨cd, hcd, _⟩ := PySem.W.any_some T.hd
    rw [hcd]
    rfl
  exact PySem.W.kia_one (PySem.W.kitx_exc hc T.hg T.hk T.hs T.ha T.hn T.ht T.hm) I.kIn J e (fun z => nomatch z) fun tk => ⟨.bl b, H, I.tok tk, rfl, q⟩
end

/-! ### WatchError.__init__(self, ..), within the __init__ of a class over it -/
structure WBase (K : PySem.W.Frag) (mg : Str → Option Value) (wn : Str) : Prop where
  ex : ∃ (W : Addr) (mc : Value), mg wn = some (.ref W) ∧ PySem.W.readsIn K W mc = true ∧ PySem.W.specialIn K (.ref W) "__getattribute__" = some (some (.builtin "type.__getattribute__")) ∧
    PySem.W.findCls K (.ref W) mc "__init__" = some (.val (.builtin "ValueError.__init__"))
section
variable {X : Cx} {e : Expr} {es : List Expr} {ta : TA} {wn : Str} {p1 p2 pos : Pos}
theorem pe_winit {pl : Sem Bool} (hg : Gl X wn) (T : WBase X.K X.mg wn) (ha : PA X (e :: es) ta) (hdb : (wn == ("__debug__" : Str)) = false := by decide)
    (hc : eval (.Call (.Attribute (.Name wn p1) "__init__" p2) (e :: es) [] pos) X.env = (do
      let ov ← eval (.Name wn p1) X.env
      standAt p2.atName
      let (g, fst) ← holding [ov] (getMethod ov "__init__" pl)
      callWith pos g fst (backTo pos (starEach (e :: es) X.env)) (backToKw pos (keywordEach [] X.env))) := by rfl)
    (he : starEach (e :: es) X.env = (false, eval e X.env) :: starEach es X.env := by rfl) (hpl : (backTo pos (starEach es X.env)).any (·.1) = false := by rfl) :
    PE X (.Call (.Attribute (.Name wn p1) "__init__" p2) (e :: es) [] pos) (tVeI X.K ta) := by
  obtain ⟨W, mc, gW, rd, ga, fc⟩ := T.ex
  refine ⟨fun pins st σ H Q I h => PySem.W.methodCall_KW (ld_glob I hg gW ?_ hdb) hc⟩
  refine PySem.W.method_cls I.kIn ga (PySem.W.cls_value I.kIn rd fc rfl ?_)
  show wpAny _ _ (callWith pos (Value.builtin "ValueError.__init__") [] (backTo pos (starEach (e :: es) X.env)) []) _ _ _
  refine PyProof.Rows.callWith_method1 (thn (ha.run pos pins _ σ H _ (I.tok _) h) fun us s1 ⟨xs, H1, I1, rel, a, C, ws, ev, hl, Tc, ea, q⟩ => ?_) he hpl
  subst ev
  cases rel with
  | @cons _ u0 _ ur ra rw' =>
    obtain rfl : u0 = Value.ref a := ra
    have hlen : ur.length ≤ sizeLine := by
      rw [← Paired.length rw', sizeLine_eq]
      omega
    exact oinit_ok Tc I1 ea hlen fun s2 J => ⟨.non, H1, J, rfl, q⟩
end
end Xb
/-! Own ground, part C: such exceptions raised, caught and kept. -/
namespace Xc
open PySem PySem.Spec PyProof.Rows L2 Xa Xb

/-- a reading closed under weaker wishes -/
def tUp (te : TE) : TE := fun σ H Q => ∃ Q0 : VK, te σ H Q0 ∧ ∀ v H1, Q0 v H1 → Q v H1
theorem pe_up {X : Cx} {e : Expr} {te : TE} (he : PE X e te) : PE X e (tUp te) :=
  ⟨fun pins st σ H Q I ⟨Q0, h, k⟩ => thn (he.run pins st σ H Q0 I h) fun _ _ ⟨v, H1, I1, r, q⟩ => ⟨v, H1, I1, r, k v H1 q⟩⟩

/-! ### __init__ -/
/-- what __init__ of such a class promises -/
def spXi (C : Addr) (f : Str) : Sp := fun xs H Q _ => ∃ (a : Addr) (v : V), xs = [.ref a, v] ∧ H a = some (exo a C none) ∧ ∀ dx, H dx = none → dx ≠ a → Q .non (upd (upd H dx (exd dx [(f, v)])) a (exo a C (some dx)))
def xiBody (msg f : Str) (k : Nat) (p1 p2 p3 p4 p5 p6 p7 p8 p9 p10 : Pos) : List Stmt :=
  [.Expr (.Call (.Attribute (.Name "WatchError" p1) "__init__" p2) [.Name "self" p3, .Constant (.str msg) k p4] [] p5) p6, .Assign [.Attribute (.Name "self" p7) f p8] (.Name f p9) p10]
/-- how the call of WatchError.__init__ is run there (rfl at each class) -/
def XiRun (qual : Str) (scope : Scope) (msg : Str) (k : Nat) (p1 p2 p3 p4 p5 : Pos) : Prop := ∀ (n g : Addr) (cdv : Value), ∃ pl : Sem Bool,
  eval (.Call (.Attribute (.Name "WatchError" p1) "__init__" p2) [.Name "self" p3, .Constant (.str msg) k p4] [] p5) (envOfC qual scope n g cdv) = (do
    let ov ← eval (.Name "WatchError" p1) (envOfC qual scope n g cdv)
    standAt p2.atName
    let (m, fst) ← holding [ov] (getMethod ov "__init__" pl)
    callWith p5 m fst (backTo p5 (starEach [.Name "self" p3, .Constant (.str msg) k p4] (envOfC qual scope n g cdv))) (backToKw p5 (keywordEach [] (envOfC qual scope n g cdv))))
theorem ok_xi {P : Program} {w : World} {K : PySem.W.Frag} {mg : Str → Option Value} {base : Heap} {C fI : Addr} {fd : FuncData} {qual msg f : Str} {params : Arguments} {scope : Scope} {dvs : List V} {k : Nat} {p1 p2 p3 p4 p5 p6 p7 p8 p9 p10 : Pos}
    (F : FunD K "__init__" qual params (xiBody msg f k p1 p2 p3 p4 p5 p6 p7 p8 p9 p10) scope dvs [] fI fd) (S : FnScope ["self", f] ["self", f] scope) (T : XCls K C f) (B : WBase K mg "WatchError")
    (hs : scope.names.lookup ("self" : Str) = some .local) (hf : scope.names.lookup f = some .local) (hw : scope.names.lookup ("WatchError" : Str) = some .globalImplicit) (run : XiRun qual scope msg k p1 p2 p3 p4 p5) (f1 : (f == ("__debug__" : Str)) = false) (f2 : (f == ("__classdict__" : Str)) = false) :
    FnOk P w K mg base CX0 1 fI fd ["self", f] (spXi C f) := by
  refine F.ok S (fun xs H Q E h => ?_) (fun cdv A outer s H vs Q E hr h => ?_)
  · obtain ⟨a, v, rfl, _⟩ := h
    rfl
  · obtain ⟨a, v, rfl, ha, q⟩ := h
    obtain ⟨pl, hc⟩ := run s.heap.objs.size fI cdv
    refine ⟨_, PSs.nox (pss_cons (ps_expr (pe_winit (pl := pl) hw B (pa_cons (pe_var (i := 0) rfl (.inl hs)) (pa_cons pe_str pa_nil)) (by decide) hc)) (pss_one (ps_ost (pe_var (i := 0) rfl (.inl hs)) (pe_var (i := 1) rfl (.inl hf) f1 f2)))), ?_⟩
    refine ⟨_, rfl, a, C, [.str msg], rfl, (by show 1 ≤ 1000; decide), T.oex, ha, ?_⟩
    exact ⟨_, rfl, _, rfl, a, C, rfl, T.oex, T.nof, .inl ⟨ha, fun dx n ne => q dx n ne⟩⟩

/-! ### raise C(e) -/
/-- the class is known by the name x, its __init__ stands at fI -/
structure XMake (P : Program) (w : World) (K : PySem.W.Frag) (mg : Str → Option Value) (base : Heap) (x : Str) (C : Addr) (f : Str) : Prop where
  cls : XCls K C f
  glo : mg x = some (.ref C)
  ini : ∃ (fI : Addr) (fd : FuncData), PySem.W.findIn K (.ref C) "__init__" = some (some (.ref fI)) ∧ PySem.W.typeIn K (.ref fI) = some (.type "function") ∧ FnOk P w K mg base CX0 1 fI fd ["self", f] (spXi C f) ∧ Binds K fd ["self", f] []
def tRz (C : Addr) (f : Str) (W : WX) (te : TE) : TS := fun _ σ H => te σ H fun v H1 => ∀ d, H1 d = none → W (.ref C) (some d) σ (upd H1 d (.xd [(f, v)]))
theorem new_heap {H : Hp} {a C d : Addr} {f : Str} {v : V} (ha : H a = none) (hd : d ≠ a) :
    upd (del (upd (upd (upd H a (exo a C none)) d (exd d [(f, v)])) a (exo a C (some d))) a) d (.xd [(f, v)]) = upd H d (.xd [(f, v)]) := by
  funext b
  by_cases h1 : b = d
  · rw [h1, upd_same, upd_same]
  · rw [upd_ne h1, upd_ne h1]
    by_cases h2 : b = a
    · rw [h2, del_same, ha]
    · rw [del_ne h2, upd_ne h2, upd_ne h1, upd_ne h2]
theorem ps_rz {X : Cx} {x f : Str} {C : Addr} {W : WX} {e : Expr} {te : TE} {p pos pos2 : Pos} (hc : X.calm = true) (M : XMake X.prog X.w X.K X.mg X.base x C f) (hr : Room 2 X.A) (tk : Takes X W) (hg : Gl X x) (he : PE X e te)
    (hdb : (x == ("__debug__" : Str)) = false := by decide) (hst : starEach [e] X.env = (false, eval e X.env) :: starEach [] X.env := by rfl) (hpl : (backTo pos (starEach [] X.env)).any (·.1) = false := by rfl) :
    PS X (.Raise (some (.Call (.Name x p) [e] [] pos)) none pos2) (tRz C f W te) := by
  obtain ⟨fI, fd, i1, i2, F, b⟩ := M.ini
  have R := ps_raise (pos := pos2) hc tk (pmk_oex (p := p) (pos := pos) (k := 1) M.cls.oex i1 i2 F hr b .nil pass0 hg M.glo (pa_cons (pe_up he) pa_nil hst) hdb hst hpl)
  refine ⟨fun pins st σ H D I h => R.run pins st σ H D I ⟨_, h, fun v H1 q => ⟨(by show 1 ≤ 1000; decide), fun a na => ⟨a, v, rfl, upd_same, fun dx ndx ne => ⟨rfl, dx, [(f, v)], upd_same, ?_, ?_, ?_⟩⟩⟩⟩⟩
  · rw [upd_ne ne, upd_same]
  · rw [upd_ne ne] at ndx
    exact ndx
  · rw [new_heap na ne]
    rw [upd_ne ne] at ndx
    exact q dx ndx
end Xc
/-! Own ground, part D: try: body / except X as n: c = n, the exception kept and tracked. -/
namespace Xd
open PySem PySem.Spec PyProof.Rows L2 Xa Xb Xc

section
variable {X : Cx} {pins : List (Addr × Obj)} {σ : L2.St} {H : Hp} {st : Shared} {a C d : Addr} {oe : Obj}
/-- a pinned exception, new since the entry, is tracked from here on -/
theorem track (I : Inv X ((a, oe) :: pins) σ H st) (n0 : X.s_0.heap.get? a = none) (np : ∀ p ∈ X.pn ++ pins, p.1 ≠ a) (hc : oe.cls = .ref C) (hd : oe.dict = some d) (hf : ∃ vs, oe.data = .fields vs) : Inv X pins σ (upd H a (xob a C d)) st := by
  obtain ⟨ha, hn, hL, hF, hcell⟩ := I.pin (a, oe) (List.mem_append_right _ List.mem_cons_self)
  have n1 : ∀ b o, X.s_0.heap.get? b = some o → b ≠ a := fun b o z q => by rw [q, n0] at z; cases z
  refine ⟨I.ok, I.os, I.bare, ⟨I.base.keep, I.base.slot, fun b o z n hx => ?_, I.base.there, fun b xs z => ?_, fun b o u z => ?_, fun b ps z => ?_⟩, I.loc, I.cell, ?_, fun x c z => ?_, fun p hp => ?_, ?_, I.len⟩
  · rw [upd_ne (n1 b o z)]
    exact I.base.free b o z n hx
  · have q := I.base.tups b xs z
    rw [upd_ne (ne_of_none q hn)]
    exact q
  · have q := I.base.frzs b o u z
    rw [upd_ne (ne_of_none q hn)]
    exact q
  · obtain ⟨m, q⟩ := I.base.tbls b ps z
    exact ⟨m, by rw [upd_ne (ne_of_none q hn)]; exact q⟩
  · rw [upd_ne (Ne.symm hL)]
    exact I.free
  · have q : c ≠ a := fun e => by
      obtain ⟨v, o, ho, hv⟩ := I.cell x c z
      rw [e, ha] at ho
      exact hcell v (by rw [Option.some.inj ho]; exact hv)
    rw [upd_ne q]
    exact I.freeC x c z
  · have q : p ∈ X.pn ++ (a, oe) :: pins := by
      rcases List.mem_append.mp hp with z | z
      · exact List.mem_append_left _ z
      · exact List.mem_append_right _ (List.mem_cons_of_mem _ z)
    obtain ⟨k1, k2, k3⟩ := I.pin p q
    exact ⟨k1, by rw [upd_ne (np p hp)]; exact k2, k3⟩
  · exact I.hok.laidN (fun _ _ z => z) hn (xob_ok ha hc hd hf)
end

/-- what the clause wishes of an exception of the body: n stands in slot i, c in slot j -/
def wKeep (K : PySem.W.Frag) (cv : Value) (i j : Nat) (D : Ends) : WX := fun cls d σ H => ∃ C dx : Addr, cls = .ref C ∧ d = some dx ∧ PySem.W.exmOne K cls cv = some true ∧ ∀ a, H a = none → D.nx (((σ.set i (some (.ref a))).set j (some (.ref a))).set i none) (upd H a (xob a C dx))
section
variable {X : Cx} {x n : Str} {cv : Value} {i j : Nat} {body : List Stmt} {keep : Stmt} {np hp pos : Pos} {tb : WX → TS}
theorem ps_keep (hs : X.stack = X.env :: X.outer) (hf : X.env.frame = some X.env.locals) (hex : X.ex = []) (nd : X.N.Nodup) (hi : X.N[i]? = some n) (hln : X.env.kindOf n = some .local) (hlen : i < X.N.length) (hc : Names X x cv)
    (hb : ∀ (W : WX) (pn : List (Addr × Obj)) (xe : Value → Shared → Prop), Takes (X.tr pn xe) W → PassesOwn (model X.prog X.w) X.A X.env xe → PSs (X.tr pn xe) body (tb W))
    (hk : ∀ (a : Addr) (pn : List (Addr × Obj)), PSs (X.suite a pn) [keep] (tAsg (tVar i) (gName j))) :
    PS X (.Try body [.ExceptHandler (some (.Name x np)) (some n) [keep] hp] [] [] pos) (fun D σ H => tb (wKeep X.K cv i j D) D σ H) := by
  refine ⟨fun pins st σ H D I h => ?_⟩
  have ok := I.ok
  have frm : X.A.frames = some (X.env :: X.outer) := by rw [ok.frames, hs]
  refine wpAny_Try_except ?_
  refine wpAny_mono ((hb (wKeep X.K cv i j D) (X.pn ++ pins) (fun u t1 => wpAny (model X.prog X.w) X.A (noteFrame u X.env) (fun _ t2 => wpAny (model X.prog X.w) X.A (setFlight u none) (fun _ t3 =>
    wpAny (model X.prog X.w) X.A (handleBy u X.env [.ExceptHandler (some (.Name x np)) (some n) [keep] hp]) (SP X pins D) X.xe t3) X.xe t2) X.xe t1) (fun u s2 air => ?_) PassesOwn.looking).run [] st σ H D (I.toTry _) h) (fun fl s1 sp => ?_) (fun _ _ z => z)
  · obtain ⟨a, B, sI, pins2, σ2, H2, cls, d, rfl, J0, nb, up, sky, na, os, ag, C, dx, ec, ed, em, go⟩ := air
    subst ec ed
    have J : Inv X pins σ2 H2 sI := J0.ofTry ok
    have sky2 : Sky B (X.env :: X.outer) a (Zc (.ref C) (some dx)) X.env.locals s2.heap := by rw [← hs]; exact sky
    show wpAny (model X.prog X.w) X.A (noteFrame (.ref a) X.env) _ _ _
    refine Sky.land Zc.steady frm hf sky2 fun h3 fl3 up3 => ?_
    have J3 : Inv X pins σ2 H2 { s2 with heap := h3 } := J.landed nb fl3.1 (up.trans up3) os ag
    obtain ⟨o3, v3, g3, z3, d3⟩ := fl3.there
    have off : a ∉ frs (X.env :: X.outer) := fun hm => by
      obtain ⟨_, o', e', hnf⟩ := fl3.2.2.1.mem hm
      rw [g3] at e'
      cases e'
      exact hnf _ d3
    have nL : a ≠ X.env.locals := fun z => off (List.mem_filterMap.mpr ⟨X.env, List.mem_cons_self, by rw [hf, z]⟩)
    have nF : a ∉ X.fs := fun hm => by
      obtain ⟨e, he, q⟩ := List.mem_filterMap.mp hm
      exact off (List.mem_filterMap.mpr ⟨e, List.mem_cons_of_mem _ he, q⟩)
    have offS : ∀ b, b ≠ X.env.locals → b ∉ X.fs → b ∉ frs X.stack := fun b h1 h2 hm => (List.mem_cons.mp (J.stkSub b hm)).elim h1 h2
    have inB : ∀ b o, b ≠ X.env.locals → b ∉ X.fs → sI.heap.get? b = some o → b ≠ a := fun b o h1 h2 z q => by
      have y := nb b o z (offS b h1 h2)
      rw [q, fl3.2.1] at y
      cases y
    have n0 : X.s_0.heap.get? a = none := by
      cases z : X.s_0.heap.get? a with
      | none => rfl
      | some o =>
        obtain ⟨o', y⟩ := J.base.there a o z (by rw [hex]; exact fun k => nomatch k)
        exact absurd rfl (inB a o' nL nF y)
    have npin : ∀ p ∈ X.pn ++ pins, p.1 ≠ a := fun p hp => by
      obtain ⟨k1, _, k3, k4, _⟩ := J.pin p hp
      exact inB p.1 p.2 k3 k4 k1
    have S3 := J3.suite g3 d3 na nL nF
    refine wpAny_handleBy_cons (codeAny_handlers_test ?_) (by intro q; cases q)
    have LT : PySem.W.Looks (model X.prog X.w) h3 (typeOf (.ref a)) (.ref C) := fun _ _ _ _ k q => wpAny_typeOf_ref (k _ _ g3) (by rw [z3.1]; exact q)
    have LM := PySem.W.exm_one (M := model X.prog X.w) (J3.kIn) LT em
    have named : ∀ {Q : Value → Shared → Prop} {E : Value → Shared → Prop}, Q cv { s2 with heap := h3 } → wpAny (model X.prog X.w) (X.A.mark (some (.ref a))) (eval (.Name x np) X.env) Q E { s2 with heap := h3 } := fun {Q E} q => by
      obtain ⟨hg, hdbg, hm | ⟨hm, hv, hnn⟩⟩ := hc
      · exact ld_glob (X := X.suite a ((a, o3) :: (X.pn ++ pins))) S3 hg hm q hdbg
      · exact ld_blt (X := X.suite a ((a, o3) :: (X.pn ++ pins))) S3 hg hm hv q hnn hdbg
    refine named (LM.here ?_)
    refine codeAny_handlers_suite_as ?_
    refine HandSPX.lands_againZ fl3 fun h4 fl4 up4 => ?_
    have J4 : Inv X pins σ2 H2 { s2 with heap := h4 } := J.landed nb fl4.1 ((up.trans up3).trans up4) os ag
    obtain ⟨o4, v4, g4, z4, d4⟩ := fl4.there
    have S4 := J4.suite g4 d4 na nL nF
    refine store_ok (X := X.suite a ((a, o4) :: (X.pn ++ pins))) (v := .ref a) S4 nd hi (.inl hln) rfl (fun s5 S5 => ?_) (.inr hln)
    have hl5 : i < σ2.length := by rw [J.len]; exact hlen
    refine wpAny_mono ((hk a ((a, o4) :: (X.pn ++ pins))).run [] s5 _ H2 { nx := fun σ6 H6 => σ6 = (σ2.set i (some (.ref a))).set j (some (.ref a)) ∧ H6 = H2, rt := fun _ _ => False } S5
      ⟨.ref a, by rw [List.getElem?_set_self hl5], rfl, rfl⟩) (fun fl s6 sp6 => ?_) (fun _ _ z => False.elim z)
    cases fl with
    | next =>
      obtain ⟨σ6, H6, S6, e1, e2⟩ := sp6
      subst e1 e2
      have P6 : Inv X ((a, o4) :: pins) _ H6 s6 := ⟨ok, S6.os, S6.bare, S6.base, S6.loc, S6.cell, S6.free, S6.freeC, fun p hp => S6.pin p (by
        rw [List.append_nil]
        rcases List.mem_append.mp hp with z | z
        · exact List.mem_cons_of_mem _ (List.mem_append_left _ z)
        · rcases List.mem_cons.mp z with z | z
          · rw [z]
            exact List.mem_cons_self
          · exact List.mem_cons_of_mem _ (List.mem_append_right _ z)), S6.hok, S6.len⟩
      exact gone_ok P6 nd hi hln fun s7 J7 => ⟨_, _, track J7 n0 npin z4.1 z4.2 ⟨_, d4⟩, go a na⟩
    | brk => exact let ⟨_, _, _, q⟩ := sp6; False.elim q
    | cont => exact let ⟨_, _, _, q⟩ := sp6; False.elim q
    | ret u => exact let ⟨_, _, _, _, _, q⟩ := sp6; False.elim q
  · cases fl with
    | next => exact let ⟨σ2, H2, J2, q⟩ := sp; wpAny_execs_nil ⟨σ2, H2, J2.ofTry ok, q⟩
    | brk => exact let ⟨σ2, H2, J2, q⟩ := sp; ⟨σ2, H2, J2.ofTry ok, q⟩
    | cont => exact let ⟨σ2, H2, J2, q⟩ := sp; ⟨σ2, H2, J2.ofTry ok, q⟩
    | ret u => exact let ⟨v, σ2, H2, J2, r, q⟩ := sp; ⟨v, σ2, H2, J2.ofTry ok, r, q⟩
end
end Xd
/-! Own ground, part S: sets of tuples of ints that grow: set(), add, in. -/
namespace Xs
open PySem PySem.Spec PyProof.Rows L2 Xa Xb Xc

section
variable {P : Program} {w : World} {A : Around} {E : Value → Shared → Prop} {s : Shared} {a : Addr} {L : List (Addr × List Int)} {es : Array (Int × Value)} {ep : Nat} {t : SetTable}
/-- the c-th place that is looked at -/
abbrev prb (t : SetTable) (h : Int) (c : Nat) : SetTable.Probe := nth t.mask (runAt t.mask (SetTable.bits h % (t.mask + 1)) (SetTable.bits h)) c
theorem prb_clean (t : SetTable) (h : Int) (c : Nat) : (prb t h c).dummy = none := by
  have go : ∀ (n : Nat) (p : SetTable.Probe), p.dummy = none → (nth t.mask p n).dummy = none := fun n => by
    induction n with
    | zero => exact fun _ z => z
    | succ n ih =>
      refine fun p z => ih (adv t.mask p) ?_
      unfold adv
      split <;> exact z
  exact go c _ rfl
theorem prb_on (t : SetTable) (h : Int) (c q : Nat) : nth t.mask (prb t h c) q = prb t h (c + q) := (nth_add t.mask c _ q).symm
/-- what is looked for stands (or doesn't) among the tuples of L: the search of in -/
theorem seek (R : SetTR P w s.heap a L es ep t) {x : Addr} {k : List Int} (hx : IsT P w s.heap k x) (hu : A.units < cLine) {z : Nat} (z1 : z < 10 * SetTable.turns t.mask) (z2 : way t.mask (thash P w k) z ∉ t.place.toList)
    (z3 : ∀ c, c < z → way t.mask (thash P w k) c ∈ t.place.toList) {Q : SetFound → Shared → Prop} (yes : ∀ i, k ∈ L.map (·.2) → Q (.there (some i)) s) (no : k ∉ L.map (·.2) → Q (.free (way t.mask (thash P w k) z) false) s) :
    ∀ (f c : Nat) (at_ : Option SetTable.Probe), at_.getD (t.probeStart (thash P w k)) = prb t (thash P w k) c → c ≤ z → z - c < f →
      (∀ (i : Nat) p, L[i]? = some p → p.2 = k → ∃ c', c ≤ c' ∧ c' < z ∧ t.place.toList[i]? = some (way t.mask (thash P w k) c')) →
      wpAny (model P w) A (setSearchFrom a (.ref x) (thash P w k) false f at_) Q E s := by
  obtain ⟨o, ho, _, hd⟩ := R.ob
  intro f
  induction f with
  | zero => exact fun c _ _ _ hf => absurd hf (Nat.not_lt_zero _)
  | succ f ih =>
    intro c at_ hat hc hf ahead
    rw [setSearchFrom_succ]
    refine wpAny_bind (wpAny_setState_of ho hd R.fits ?_)
    dsimp only
    refine wp_if_neg R.gw ?_
    try refine wpAny_bind (wpAny_pure ?_)
    have go := go_spec t R.tab.ris R.tab.dm (fun i => (es[i]?.map (·.1)).getD 0) (thash P w k) (10 * SetTable.turns t.mask) (z - c) _ (prb_clean t (thash P w k) c) (by omega)
      (fun q hq => by rw [prb_on]; exact z3 (c + q) (by omega)) (by rw [prb_on, show c + (z - c) = z by omega]; exact z2)
    have hash_of : ∀ (i : Nat) p, L[i]? = some p → (es[i]?.map (·.1)).getD 0 = thash P w p.2 := fun i p hp => by rw [R.entry hp] <;> rfl
    rcases go with ⟨q, i, hq, hi, hh, before, met⟩ | ⟨before, met⟩
    · rw [hat, show t.probe _ (thash P w k) (prb t (thash P w k) c) = _ from met]
      dsimp only
      rw [prb_on] at hi
      have hil : i < L.length := by
        have y1 := (List.getElem?_eq_some_iff.mp hi).1
        have y2 := R.tab.sz
        rw [List.length_map] at y2
        rw [Array.length_toList] at y1
        omega
      obtain ⟨p, hp⟩ : ∃ p, L[i]? = some p := ⟨_, List.getElem?_eq_getElem hil⟩
      have pin := List.mem_of_getElem? hp
      have live : t.slot (way t.mask (thash P w k) (c + q)) = .live i := slot_live R.tab.ris hi
      have behind : wpAny (model P w) A (searchRest a (.ref x) (thash P w k) false f es t (way t.mask (thash P w k) (c + q)) i (prb t (thash P w k) (c + (q + 1)))) Q E s := by
        unfold searchRest
        rw [R.entry hp]
        dsimp only
        refine wpAny_bind (wpAny_holding (wpAny_eqBool_tuple hu (R.tup p pin) hx ?_))
        refine wpAny_bind (wpAny_setState_of ho hd R.fits ?_)
        dsimp only
        refine wp_if_neg (by simp) ?_
        try refine wpAny_bind (wpAny_pure ?_)
        rw [sameMem]
        dsimp only
        simp only [if_true, live, R.entry hp]
        refine wpAny_bind (wpAny_isSame_ref_self (wpAny_bind (wpAny_pure ?_)))
        simp only [if_true]
        by_cases e : p.2 = k
        · refine wp_if_pos (by simp [e]) (wpAny_pure (yes i (List.mem_map.mpr ⟨p, pin, e⟩)))
        · refine wp_if_neg (by simp [e]) (ih (c + (q + 1)) _ rfl (by omega) (by omega) fun j r hj hr => ?_)
          obtain ⟨c', y1, y2, y3⟩ := ahead j r hj hr
          refine ⟨c', ?_, y2, y3⟩
          rcases Nat.lt_trichotomy c' (c + q) with y | y | y
          · exact absurd ((hash_of j r hj).trans (congrArg (thash P w) hr)) (before (c' - c) j (by omega) (by rw [prb_on, show c + (c' - c) = c' by omega]; exact y3))
          · rw [y] at y3
            have l2 := slot_live R.tab.ris y3
            rw [live] at l2
            injection l2 with l2
            rw [← l2, hp] at hj
            exact absurd ((congrArg Prod.snd (Option.some.inj hj)).trans hr) e
          · omega
      have nxt : nth t.mask (prb t (thash P w k) c) (q + 1) = prb t (thash P w k) (c + (q + 1)) := prb_on ..
      have plc : (nth t.mask (prb t (thash P w k) c) q).j = way t.mask (thash P w k) (c + q) := congrArg SetTable.Probe.j (prb_on t (thash P w k) c q)
      rw [nxt, plc]
      by_cases led : t.led = true
      · refine wp_if_neg (by simp [led]) ?_
        try refine wpAny_bind (wpAny_pure ?_)
        exact behind
      · refine wp_if_pos (by simp [led]) (wpAny_bind (seen_tup hx (fun y hy => ?_) (wp_if_neg (by decide) ?_)))
        · obtain ⟨e, he, rfl⟩ := List.mem_map.mp hy
          have e1 : e ∈ es.toList := by
            have e2 : e ∈ es ∧ e.1 = thash P w k := by simpa using he
            simpa using e2.1
          rw [R.rows] at e1
          obtain ⟨p2, hp2, rfl⟩ := List.mem_map.mp e1
          exact ⟨p2.2, p2.1, rfl, R.tup p2 hp2⟩
        · try refine wpAny_bind (wpAny_pure ?_)
          exact behind
    · have plc : (nth t.mask (prb t (thash P w k) c) (z - c)).j = way t.mask (thash P w k) z := by
        rw [prb_on, show c + (z - c) = z by omega]
      rw [hat, show t.probe _ (thash P w k) (prb t (thash P w k) c) = _ from met]
      dsimp only
      rw [plc]
      refine wpAny_pure (no fun hm => ?_)
      obtain ⟨p, hp, hk⟩ := List.mem_map.mp hm
      obtain ⟨i, hi, rfl⟩ := List.getElem_of_mem hp
      have hi2 := List.getElem?_eq_getElem hi
      obtain ⟨c', y1, y2, y3⟩ := ahead i _ hi2 hk
      exact before (c' - c) i (by omega) (by rw [prb_on, show c + (c' - c) = c' by omega]; exact y3) ((hash_of i _ hi2).trans (congrArg (thash P w) hk))
theorem seek_all (R : SetTR P w s.heap a L es ep t) {x : Addr} {k : List Int} (hx : IsT P w s.heap k x) (hu : A.units < cLine) {Q : Option Nat → Shared → Prop} (h : ∀ r, r.isSome = decide (k ∈ L.map (·.2)) → Q r s) :
    wpAny (model P w) A (setFind a (.ref x) (thash P w k)) Q E s := by
  obtain ⟨o, ho, _, hd⟩ := R.ob
  have room := R.room
  obtain ⟨z, z1, z2, z3⟩ := R.tab.first (by rw [List.length_map]; omega) (thash P w k)
  have zb : z < 100000 := by
    have : 10 * SetTable.turns t.mask ≤ 1420 := by
      unfold SetTable.turns
      rcases R.tab.mok with e | e | e <;> omega
    omega
  unfold setFind
  rw [show (100000 : Nat) = 99999 + 1 from rfl]
  unfold setFindIn
  refine wpAny_bind (wpAny_setState_of ho hd R.fits ?_)
  dsimp only
  refine wp_if_neg (by simp [byScan, Value.scannable]) ?_
  try refine wpAny_bind (wpAny_pure ?_)
  unfold setSearch
  refine wpAny_bind (seek R hx hu z1 z2 z3 (fun i m => ?_) (fun m => ?_) 100000 0 none rfl (Nat.zero_le _) (by omega) fun i p hp hk => ?_)
  · dsimp only
    exact wpAny_pure (h (some i) (by rw [decide_eq_true m] <;> rfl))
  · dsimp only
    exact wpAny_pure (h none (by rw [decide_eq_false m] <;> rfl))
  · have y1 : (L.map fun p => thash P w p.2)[i]? = some (thash P w k) := by rw [List.getElem?_map, hp, ← hk] <;> rfl
    have y2 : i < t.place.toList.length := by
      have e1 := (List.getElem?_eq_some_iff.mp hp).1
      have e2 := R.tab.sz
      rw [List.length_map] at e2
      rw [Array.length_toList]
      omega
    have y3 := List.getElem?_eq_getElem y2
    obtain ⟨c, hc, e⟩ := R.tab.before z2 y1 y3
    exact ⟨c, Nat.zero_le _, hc, by rw [y3, e]⟩
/-- x in a -/
theorem in_tups (R : SetTR P w s.heap a L es ep t) {x : Addr} {k : List Int} (hx : IsT P w s.heap k x) (hu : A.units + 8 < cLine) {Q : Value → Shared → Prop} (h : ∀ tk, Q (.bool (decide (k ∈ L.map (·.2)))) { s with toks := tk }) :
    wpAny (model P w) A (compareOp .In (.ref x) (.ref a)) Q E s := by
  obtain ⟨o, ho, hex, hd⟩ := R.ob
  have hT : s.TypeIs (.ref a) "set" := ⟨o, ho, hex.1⟩
  show wpAny _ _ (contains (.ref a) (.ref x) >>= fun b => pure (.bool b)) Q E s
  refine wpAny_bind ?_
  unfold contains
  try with_reducible refine wpAny_holding ?_
  refine wpAny_bind (wpAny_specialOf hT F.slot_set_contains.lookup ?_)
  show wpAny _ _ (if (some (Value.builtin "set.__contains__") == some Value.none) = true then _ else _) _ E s
  rw [if_neg (by rw [beq_builtin_none]; exact Bool.false_ne_true)]
  refine wpAny_bind (wpAny_callSpecialUnlessNone?_slot (name := Str.ofString "__contains__") hT F.slot_set_contains (wpAny_call_entry F.slot_set_contains hT entry_set_contains ?_ (F.args_set_contains_2 _ _)))
  unfold Builtin.«frozenset.__contains__» Builtin.Frozenset.oneOther
  simp only [List.isEmpty_nil, bind_assoc]
  unfold Builtin.Frozenset.addrOf Builtin.Frozenset.withSetAsKey setContains
  refine wpAny_bind (wpAny_pure ?_)
  try dsimp only
  refine wpAny_bind (wpAny_pure ?_)
  try dsimp only
  refine wpAny_bind (wpAny_tryCatch ?_)
  refine wpAny_holding ?_
  refine wpAny_bind (wpAny_pyHash_tuple ?_ hx ?_)
  · show A.units + 1 < cLine
    omega
  refine wpAny_bind ?_
  refine seek_all (s := { s with toks := s.toks + (k.length + 1) }) R hx ?_ fun r hr => ?_
  · show A.units + 1 < cLine
    omega
  refine wpAny_pure ?_
  show wpAny _ _ (ret (Value.bool r.isSome)) _ _ _
  rw [hr]
  exact wpAny_pure ⟨_, rfl, wpAny_truthy_bool (wpAny_pure (h _))⟩
/-- a.add(x) -/
theorem add_tups (R : SetTR P w s.heap a L es ep t) {x : Addr} {k : List Int} (hx : IsT P w s.heap k x) (hu : A.units + 8 < cLine) (few : L.length + 1 < 64) {Q : Value → Shared → Prop}
    (h : ∀ h' tk L' es' ep' t', Heap.SameBut a s.heap h' → SetTR P w h' a L' es' ep' t' → (k ∈ L.map (·.2) → L' = L) → (k ∉ L.map (·.2) → L'.Perm ((x, k) :: L)) → Q .none { s with heap := h', toks := tk }) :
    wpAny (model P w) A (call (.builtin "set.add") [.ref a, .ref x]) Q E s := by
  obtain ⟨o, ho, hex, hd⟩ := R.ob
  have hT : s.TypeIs (.ref a) "set" := ⟨o, ho, hex.1⟩
  refine wpAny_call_entry F.slot_set_add hT F.entry_set_add ?_ (F.args_set_add_2 _ _)
  unfold Builtin.«set.add» Builtin.Frozenset.oneOther
  simp only [List.isEmpty_nil, bind_assoc]
  unfold Builtin.Frozenset.addrOf setAdd
  refine wpAny_bind (wpAny_pure ?_)
  try dsimp only
  refine wpAny_bind (wpAny_pure ?_)
  try dsimp only
  refine wpAny_bind (wpAny_holding ?_)
  refine wpAny_bind (wpAny_pyHash_tuple ?_ hx ?_)
  · show A.units + 1 < cLine
    omega
  refine add_at (s := { s with toks := s.toks + (k.length + 1) }) R hx ?_ few fun b h' L' es' ep' t' sb R' i1 i2 => ?_
  · show A.units + 1 < cLine
    omega
  show wpAny _ _ (ret Value.none) _ _ _
  exact wpAny_pure ⟨_, rfl, h h' _ L' es' ep' t' sb R' i1 i2⟩
end

/-! ### rules -/
section
variable {X : Cx}
theorem setTO_full {pins : List (Addr × Obj)} {σ : L2.St} {H : Hp} {s : Shared} {a : Addr} {L : List (Addr × List Int)} (I : Inv X pins σ H s) (ha : H a = some (SetTO X.prog X.w a L)) (hl : ∀ p ∈ L, SqT X.K H p.1 (p.2.map V.int)) :
    ∃ es ep t, SetTR X.prog X.w s.heap a L es ep t := ((show ObjOk X.prog X.w H s.heap a (SetTO X.prog X.w a L) from I.hok a _ ha).1).full fun p hp => I.isT (hl p hp)
/-- set() -/
def rSetT0 (P : Program) (w : World) : List V → Hp → VK → Prop := fun xs H Q => xs = [] ∧ ∀ p, H p = none → Q (.ref p) (upd H p (SetTO P w p []))
theorem cr_setT0 : CallR X (.type "set") (rSetT0 X.prog X.w) := by
  intro pins s σ H xs us Q I r h
  obtain ⟨rfl, q⟩ := h
  cases r
  refine setR_new fun _ => ?_
  refine ⟨.ref _, upd H s.heap.objs.size (SetTO X.prog X.w s.heap.objs.size []), I.laid (t' := s.toks) (fun b u e => Heap.get?_push_of_some _ e) (Nat.le_refl _) (setTO_new ?_), rfl, q _ (I.hok.fresh (Nat.le_refl _))⟩
  exact (setTR_fresh (w := X.w) (P := X.prog) (Heap.get?_push_size _ rfl)).t0
/-- x in a, x not in a -/
def rInT (K : PySem.W.Frag) (P : Program) (w : World) (neg : Bool) : R2 := fun x y H Q => ∃ (p a : Addr) (k : List Int) (L : List (Addr × List Int)), x = .ref p ∧ y = .ref a ∧ SqT K H p (k.map V.int) ∧ H a = some (SetTO P w a L) ∧ (∀ q ∈ L, SqT K H q.1 (q.2.map V.int)) ∧
  Q (.bl (if neg then !decide (k ∈ L.map (·.2)) else decide (k ∈ L.map (·.2)))) H
theorem op_inT (hu : X.A.units + 64 < cLine) : OpR X (compareOp .In) (rInT X.K X.prog X.w false) := by
  rintro pins s σ H x y v u Q I rx ry ⟨p, a, k, L, rfl, rfl, hp, ha, hl, q⟩
  obtain rfl := (show v = Value.ref p from rx)
  obtain rfl := (show u = Value.ref a from ry)
  obtain ⟨es, ep, t, R⟩ := setTO_full I ha hl
  exact in_tups R (I.isT hp) (by omega) fun tk => ⟨.bl _, H, I.tok tk, rfl, q⟩
/-- a.add(x) -/
def tAddT (K : PySem.W.Frag) (P : Program) (w : World) (to te : TE) : TE := fun σ H Q => to σ H fun x H1 => (∃ a L, x = V.ref a ∧ H1 a = some (SetTO P w a L) ∧ ∀ q ∈ L, SqT K H1 q.1 (q.2.map V.int)) ∧ tCons te tNil σ H1 fun ys H2 => ∃ (a p : Addr) (k : List Int) (L : List (Addr × List Int)),
  x = V.ref a ∧ ys = [V.ref p] ∧ H2 a = some (SetTO P w a L) ∧ (∀ q ∈ L, SqT K H2 q.1 (q.2.map V.int)) ∧ SqT K H2 p (k.map V.int) ∧ L.length + 1 < 64 ∧
  ∀ L', (k ∈ L.map (·.2) → L' = L) → (k ∉ L.map (·.2) → L'.Perm ((p, k) :: L)) → Q .non (upd H2 a (SetTO P w a L'))
theorem pe_addT {o e : Expr} {to te : TE} {apos cpos : Pos} (hu : X.A.units + 64 < cLine) (ho : PE X o to) (he : PE X e te)
    (hbase : attributeBase o "add" X.env (eval o X.env) = eval o X.env := by rfl)
    (hfew : ((backTo cpos (starEach [e] X.env)).all (fun x => !x.1) && (backToKw cpos (keywordEach [] X.env)).all (fun x => x.1.isSome)
      && decide ([e].length + ([] : List Keyword).length + (if ([] : List Keyword).isEmpty then 0 else 1) < 30)) = true := by rfl)
    (hline : (apos.endLine == cpos.line) = true := by rfl) (hs : starEach [e] X.env = (false, eval e X.env) :: starEach [] X.env := by rfl) (hpl : (backTo cpos (starEach [] X.env)).any (·.1) = false := by rfl) :
    PE X (.Call (.Attribute o "add" apos) [e] [] cpos) (tAddT X.K X.prog X.w to te) := by
  refine ⟨fun pins s σ H Q I h => ?_⟩
  refine wpAny_Call_method_late hbase hfew hline rfl (thn (ho.run pins s σ H _ I h) fun v s1 ⟨x, H1, I1, r1, ⟨a0, L0, e0, ha0, hl0⟩, q1⟩ => ?_)
  subst e0
  obtain rfl := (show v = Value.ref a0 from r1)
  obtain ⟨es, ep, t, R0⟩ := setTO_full I1 ha0 hl0
  obtain ⟨o0, ho0, hex0, _⟩ := R0.ob
  refine ⟨"set", "set.add", F.plainAttrs_set, F.slot_set_add, F.type_set_add, ⟨o0, ho0, hex0.1⟩, ?_, ?_⟩
  · intro b eb
    cases eb
    exact ⟨o0, ho0, hex0.2.1⟩
  · have hA := (pa_cons he pa_nil hs).run cpos pins s1 σ H1 _ I1 q1
    rw [hs] at hA ⊢
    refine Calls.callWith_builtin (by show (false || (backTo cpos (starEach [] X.env)).any (·.1)) = false; rw [hpl] <;> rfl) (Calls.evalArgs_plain ?_)
    refine thn hA fun us s2 ⟨ys, H2, I2, r2, a, p, k, L, ea, ep2, ha, hl, hp, few, q⟩ => ?_
    subst ep2
    cases ea
    rw [Vals.ref1 r2]
    obtain ⟨es, ep, t, R⟩ := setTO_full I2 ha hl
    refine add_tups R (I2.isT hp) (by omega) few fun h' tk L' es' ep' t' sb R' i1 i2 => ?_
    have old : ∃ u, h'.get? a0 = some u := by
      obtain ⟨o1, g1, _⟩ := R'.ob
      exact ⟨o1, g1⟩
    exact ⟨.non, _, I2.write (e := a0) (t' := tk) (by rw [ha]; trivial) (.inl rfl) (fun b u hb z => (sb.2 b hb).trans z) old (setTO_new R'.t0), rfl, q L' i1 i2⟩
end
end Xs

namespace Xs
open PySem PySem.Spec PyProof.Rows L2 Xa Xb Xc
/-! ### sorted(xs), xs a list of tuples of ints of one length -/
def encT (p : Addr × List Int) : PyData := .tuple (p.2.map .int)
/-- the list in order -/
def srt (ks : List (Addr × List Int)) : List (Addr × List Int) := ks.mergeSort (PySem.W.dataLe false encT)
theorem srt_perm (ks : List (Addr × List Int)) : (srt ks).Perm ks := List.mergeSort_perm _ _
/-- sorted(xs) -/
def rSortL (K : PySem.W.Frag) : List V → Hp → VK → Prop := fun vs H Q => ∃ (a : Addr) (ks : List (Addr × List Int)) (d : Nat), vs = [V.ref a] ∧ SqL K H a (ks.map fun p => V.ref p.1) ∧ (∀ p ∈ ks, SqT K H p.1 (p.2.map V.int)) ∧ (∀ p ∈ ks, p.2.length = d + 1) ∧
  ∀ p, H p = none → Q (.ref p) (upd H p (.lst ((srt ks).map fun q => V.ref q.1)))
theorem alike_ints : ∀ (xs ys : List Int), PySem.W.alikeAll (xs.map .int) (ys.map .int) = true
  | [], [] => by simp [PySem.W.alikeAll]
  | [], _ :: _ => by simp [PySem.W.alikeAll]
  | _ :: _, [] => by simp [PySem.W.alikeAll]
  | x :: xs, y :: ys => by
    have := alike_ints xs ys
    simp [PySem.W.alikeAll, PySem.W.alike, this]
theorem depth_ints : ∀ xs : List Int, PyData.depthAll (xs.map .int) ≤ 1
  | [] => by simp [PyData.depthAll]
  | x :: xs => by
    have := depth_ints xs
    simp only [List.map_cons, PyData.depthAll, PyData.depth]
    omega
theorem each_refs {R : Value → (Addr × List Int) → Prop} : ∀ {ks : List (Addr × List Int)}, (∀ p ∈ ks, R (.ref p.1) p) → PySem.W.EachIs R (ks.map fun p => Value.ref p.1) ks
  | [], _ => .nil
  | p :: ks, h => .cons (h p List.mem_cons_self) (each_refs fun q hq => h q (List.mem_cons_of_mem _ hq))
theorem refs_each : ∀ {ks : List (Addr × List Int)} {vs : List Value}, PySem.W.EachIs (fun v (p : Addr × List Int) => v = .ref p.1) vs ks → Vals (ks.map fun p => V.ref p.1) vs
  | _, _, .nil => .nil
  | _, _, .cons e t => .cons e (refs_each t)
section
variable {X : Cx}
theorem isT_reads {P : Program} {w : World} {h : Heap} {b : Addr} {k : List Int} (x : IsT P w h k b) : ∃ as, Reads h (.ref b) (.tuple (k.map .int)) as := by
  obtain ⟨o, its, n, ho, hc, hd, hi⟩ := x
  have all : ∀ {k : List Int} {us : List Value}, IntsAre us k → ∃ as, ReadsAll h us (k.map .int) as := by
    intro k us r
    induction r with
    | nil => exact ⟨_, .nil⟩
    | cons n t _ ih =>
      obtain ⟨as, q⟩ := ih
      exact ⟨_, .cons (.int n t) q⟩
  obtain ⟨as, q⟩ := all (ints_of_items hi)
  exact ⟨as, .tuple ho hc hd q⟩
theorem cr_sortL (hc : X.calm = true) (hu : X.A.units + 64 < cLine) : CallR X (.builtin "sorted") (rSortL X.K) := by
  intro pins s σ H vs us Q I r h
  obtain ⟨a, ks, d, rfl, hl, ht, hd, q⟩ := h
  rw [Vals.ref1 r]
  obtain ⟨its, rv, pl, hz⟩ := I.list hl
  have e0 : its = ks.map fun p => Value.ref p.1 := refs_of_vals rv
  subst e0
  have hn : H (s.heap.objs.size + 1) = none := I.hok.fresh (Nat.le_succ _)
  rw [List.length_map] at hz
  refine PySem.W.sorted_data (bs := ks) (enc := encT) (R := fun v (p : Addr × List Int) => v = .ref p.1) pl.isList (each_refs fun p _ => rfl) (each_refs fun p hp => isT_reads (P := X.prog) (w := X.w) (I.isT (ht p hp))) ?_ (.inl fun e he => ?_) hz (fun p hp => ?_) fun out lo eo => ?_
  · intro e he e' he'
    obtain ⟨p, hp, rfl⟩ := List.mem_map.mp he
    obtain ⟨p', hp', rfl⟩ := List.mem_map.mp he'
    simp only [encT, PySem.W.alike, alike_ints]
  · obtain ⟨p, hp, rfl⟩ := List.mem_map.mp he
    have := hd p hp
    obtain ⟨b, l⟩ := p
    cases l with
    | nil => simp at this
    | cons x l => exact ⟨.int x, l.map .int, rfl⟩
  · have := depth_ints p.2
    show X.A.units + 2 + (PyData.tuple (p.2.map .int)).depth < cLine
    simp only [PyData.depth]
    omega
  · obtain ⟨c, hc2⟩ := PyProof.Rows.sortedAll_at s.heap (ks.map fun p => Value.ref p.1) out.toArray
    have hv := refs_each eo
    have hlen : ((srt ks).map fun q => V.ref q.1).length ≤ sizeLine := by rw [List.length_map, (srt_perm ks).length_eq]; exact hz
    refine ⟨.ref (s.heap.objs.size + 1), upd H (s.heap.objs.size + 1) (.lst ((srt ks).map fun q => V.ref q.1)), I.laid (a := s.heap.objs.size + 1) (o := .lst ((srt ks).map fun q => V.ref q.1)) (t' := s.toks) (fun b u e => PyProof.Rows.sortedAll_old e) (Nat.le_succ _) ⟨hlen, out, c, hv, hc2⟩, rfl, q _ hn⟩
end
end Xs
/-! Own ground, part P: defs that can be called by name; what kind a value is. -/
namespace Xp
open PySem PySem.Spec PyProof.Rows L2 Xa Xb Xc

/-! ### defs that can be called by their names -/
def Can (P : Program) (w : World) (K : PySem.W.Frag) (mg : Str → Option Value) (base : Heap) (C : CXT) (lev : Nat) (x : Str) (ps : List Str) (pr : Sp) : Prop :=
  ∃ (f : Addr) (fd : FuncData), FnOk P w K mg base C lev f fd ps pr ∧ mg x = some (.ref f) ∧ PySem.W.keepIn K (.ref f) = true ∧ Binds K fd ps []
def CanG (P : Program) (w : World) (K : PySem.W.Frag) (mg : Str → Option Value) (base : Heap) (lev : Nat) (x : Str) (ps : List Str) (pr : Sp) : Prop :=
  ∃ (f : Addr) (fd : FuncData), FnG P w K mg base lev f fd ps pr ∧ mg x = some (.ref f) ∧ PySem.W.keepIn K (.ref f) = true ∧ Binds K fd ps []
section
variable {X : Cx} {C : CXT} {lev : Nat} {x : Str} {ps : List Str} {pr : Sp} {E : XK} {p pos : Pos} {e : Expr} {es : List Expr} {t : TA}
theorem pe_can (c : Can X.prog X.w X.K X.mg X.base C lev x ps pr) (hr : Room lev X.A) (hx : Passes C X E) (ha : PA X (e :: es) t) (hg : Gl X x := by rfl) (hdb : (x == ("__debug__" : Str)) = false := by decide)
    (he : starEach (e :: es) X.env = (false, eval e X.env) :: starEach es X.env := by rfl) (hpl : (backTo pos (starEach es X.env)).any (·.1) = false := by rfl) : PE X (.Call (.Name x p) (e :: es) [] pos) (tCall pr [] E t) := by
  obtain ⟨f, fd, F, g, k, b⟩ := c
  exact pe_call F hr hg g k b .nil hx ha hdb he hpl
theorem pe_canG (c : CanG X.prog X.w X.K X.mg X.base lev x ps pr) (hr : Room lev X.A) (hn : NoRep X.A) (ha : PA X (e :: es) t) (hg : Gl X x := by rfl) (hdb : (x == ("__debug__" : Str)) = false := by decide)
    (he : starEach (e :: es) X.env = (false, eval e X.env) :: starEach es X.env := by rfl) (hpl : (backTo pos (starEach es X.env)).any (·.1) = false := by rfl) : PE X (.Call (.Name x p) (e :: es) [] pos) (tCall pr [] E0 t) := by
  obtain ⟨f, fd, F, g, k, b⟩ := c
  exact pe_callG F hr hn hg g k b ha hdb he hpl
theorem pe_canG0 (c : CanG X.prog X.w X.K X.mg X.base lev x ps pr) (hr : Room lev X.A) (hn : NoRep X.A) (hg : Gl X x := by rfl) (hdb : (x == ("__debug__" : Str)) = false := by decide) : PE X (.Call (.Name x p) [] [] pos) (tCall pr [] E0 tNil) := by
  obtain ⟨f, fd, F, g, k, b⟩ := c
  exact pe_callG0 F hr hn hg g k b hdb
theorem pa1 (he : PE X e te) (hs : starEach (e :: []) X.env = (false, eval e X.env) :: starEach [] X.env := by rfl) : PA X [e] (tCons te tNil) := pa_cons he pa_nil hs
/-- a built-in function by its name -/
theorem pe_bi {id : String} {r : List V → Hp → VK → Prop} (hc : CallR X (.builtin id) r) (hm : X.mg x = none) (ha : PA X (e :: es) t) (hg : Gl X x := by rfl) (hv : bootBuiltins x = some (.builtin id) := by decide +kernel) (hn : x ≠ "__name__" := by decide)
    (hdb : (x == ("__debug__" : Str)) = false := by decide) (he : starEach (e :: es) X.env = (false, eval e X.env) :: starEach es X.env := by rfl) (hpl : (backTo pos (starEach es X.env)).any (·.1) = false := by rfl) : PE X (.Call (.Name x p) (e :: es) [] pos) (tCB r t) :=
  pe_callB hc hg hm hv ha hn hdb he hpl
/-- a built-in type, called -/
theorem pe_ty {T : String} {r : List V → Hp → VK → Prop} (hc : CallR X (.type T) r) (hm : X.mg x = none) (ha : PA X (e :: es) t) (hg : Gl X x := by rfl) (hv : bootBuiltins x = some (.type T) := by decide +kernel) (hn : x ≠ "__name__" := by decide)
    (hdb : (x == ("__debug__" : Str)) = false := by decide) (he : starEach (e :: es) X.env = (false, eval e X.env) :: starEach es X.env := by rfl) (hpl : (backTo pos (starEach es X.env)).any (·.1) = false := by rfl) : PE X (.Call (.Name x p) (e :: es) [] pos) (tCB r t) :=
  pe_callTy hc hg hm hv ha hn hdb he hpl
/-- a built-in type as a value -/
theorem pe_tyv (T : String) (hm : X.mg x = none) (hg : Gl X x := by rfl) (hv : bootBuiltins x = some (.type T) := by decide +kernel) (hn : x ≠ "__name__" := by decide) (hdb : (x == ("__debug__" : Str)) = false := by decide) : PE X (.Name x p) (tC (.ty T)) :=
  pe_bltn hg hm hv rfl hn hdb
end
section
variable {K : PySem.W.Frag} {x qual : Str} {params : Arguments} {body : List Stmt} {scope : Scope} {f : Addr} {fd : FuncData} {P : Program} {w : World} {mg : Str → Option Value} {base : Heap} {C : CXT} {lev : Nat} {ps : List Str} {pr : Sp}
theorem FnOk.can (F : FnOk P w K mg base C lev f fd ps pr) (D : FunD K x qual params body scope [] [] f fd) (g : mg x = some (.ref f))
    (b : ∀ (kV doc pm : Value) (an : Option Addr) (cdv ct : Value) (us : List Value), us.length = ps.length → bindArgs (PySem.W.fnOf x qual params body scope .none kV doc pm an cdv ct) ⟨us, []⟩ = pure (ps.zip us)) : Can P w K mg base C lev x ps pr := ⟨f, fd, F, g, D.kp, D.bindsN b⟩
theorem FnG.can (F : FnG P w K mg base lev f fd ps pr) (D : FunD K x qual params body scope [] [] f fd) (g : mg x = some (.ref f))
    (b : ∀ (kV doc pm : Value) (an : Option Addr) (cdv ct : Value) (us : List Value), us.length = ps.length → bindArgs (PySem.W.fnOf x qual params body scope .none kV doc pm an cdv ct) ⟨us, []⟩ = pure (ps.zip us)) : CanG P w K mg base lev x ps pr := ⟨f, fd, F, g, D.kp, D.bindsN b⟩
end

/-! ### what kind a value is -/
/-- v's built-in type -/
def Kd (K : PySem.W.Frag) (H : Hp) (v : V) (T : String) : Prop := TyX K H v (.type T)
/-- whether v is a whole number -/
def Whl (K : PySem.W.Frag) (H : Hp) (v : V) (b : Bool) : Prop := ∃ (T : String) (b1 b2 : Bool), Kd K H v T ∧ kitB T "int" = some b1 ∧ kitB T "bool" = some b2 ∧ b = (b1 && !b2)
section
variable {K : PySem.W.Frag} {H : Hp}
theorem whl_int (i : Int) : Whl K H (.int i) true := ⟨"int", true, false, .base (.int i), by decide +kernel, by decide +kernel, rfl⟩
theorem whl_non : Whl K H .non false := ⟨"NoneType", false, false, .base .non, by decide +kernel, by decide +kernel, rfl⟩
theorem whl_bl (b : Bool) : Whl K H (.bl b) false := ⟨"bool", true, true, .base (.bl b), by decide +kernel, by decide +kernel, rfl⟩
theorem whl_str (z : Str) : Whl K H (.str z) false := ⟨"str", false, false, .base (.str z), by decide +kernel, by decide +kernel, rfl⟩
theorem whl_lst {a : Addr} {xs : List V} (e : H a = some (.lst xs)) : Whl K H (.ref a) false := ⟨"list", false, false, .base (.lst e), by decide +kernel, by decide +kernel, rfl⟩
theorem whl_tup {a : Addr} {xs : List V} (e : H a = some (.tup xs)) : Whl K H (.ref a) false := ⟨"tuple", false, false, .base (.tup e), by decide +kernel, by decide +kernel, rfl⟩
theorem whl_dic {a : Addr} {kvs : List (Key × V)} (e : H a = some (.dK kvs)) : Whl K H (.ref a) false := ⟨"dict", false, false, .base (.dK e), by decide +kernel, by decide +kernel, rfl⟩
end
/-- v as a number, if it is one -/
inductive Num (K : PySem.W.Frag) (H : Hp) : V → Option Int → Prop
  | is (i : Int) : Num K H (.int i) (some i)
  | no {v : V} (h : Whl K H v false) : Num K H v none
theorem Num.whl {K : PySem.W.Frag} {H : Hp} {v : V} {o : Option Int} : Num K H v o → Whl K H v o.isSome
  | .is i => whl_int i
  | .no h => h
def inR (o : Option Int) (lo hi : Int) : Bool := match o with
  | some i => decide (lo ≤ i) && decide (i ≤ hi)
  | none => false
/-- v is of a kind, T2 is asked -/
def IsK (K : PySem.W.Frag) (H : Hp) (v : V) (T2 : String) (b : Bool) : Prop := ∃ T, Kd K H v T ∧ kitB T T2 = some b
section
variable {K : PySem.W.Frag} {H : Hp}
theorem isk_non (T : String) {b : Bool} (h : kitB "NoneType" T = some b) : IsK K H .non T b := ⟨_, .base .non, h⟩
theorem isk_bl (x : Bool) (T : String) {b : Bool} (h : kitB "bool" T = some b) : IsK K H (.bl x) T b := ⟨_, .base (.bl x), h⟩
theorem isk_int (i : Int) (T : String) {b : Bool} (h : kitB "int" T = some b) : IsK K H (.int i) T b := ⟨_, .base (.int i), h⟩
theorem isk_str (z : Str) (T : String) {b : Bool} (h : kitB "str" T = some b) : IsK K H (.str z) T b := ⟨_, .base (.str z), h⟩
theorem isk_lst {a : Addr} {xs : List V} (e : H a = some (.lst xs)) (T : String) {b : Bool} (h : kitB "list" T = some b) : IsK K H (.ref a) T b := ⟨_, .base (.lst e), h⟩
theorem isk_tup {a : Addr} {xs : List V} (e : H a = some (.tup xs)) (T : String) {b : Bool} (h : kitB "tuple" T = some b) : IsK K H (.ref a) T b := ⟨_, .base (.tup e), h⟩
theorem isk_dic {a : Addr} {kvs : List (Key × V)} (e : H a = some (.dK kvs)) (T : String) {b : Bool} (h : kitB "dict" T = some b) : IsK K H (.ref a) T b := ⟨_, .base (.dK e), h⟩
end
/-- isinstance(v, T), v of a built-in kind -/
def rKd (K : PySem.W.Frag) : List V → Hp → VK → Prop := fun xs H Q => ∃ (v : V) (T : String) (b : Bool), xs = [v, .ty T] ∧ IsK K H v T b ∧ Q (.bl b) H
theorem call_kd {X : Cx} : CallR X (.builtin "isinstance") (rKd X.K) := by
  intro pins s σ H xs us Q I r h
  obtain ⟨v, T, b, rfl, ⟨T1, k, e⟩, q⟩ := h
  exact call_isi pins s σ H [v, .ty T] us Q I r ⟨v, .ty T, .type T1, .type T, b, rfl, .ty T, k, kit_ty e, q⟩
end Xp

namespace Xp
open PySem PySem.Spec PyProof.Rows L2 Xa Xb Xc
/-! ### FARTHEST[places]: a written dict of two ints -/
def farB (K : PySem.W.Frag) (F : Addr) : Bool := match K.lookup F with
  | some ⟨.type "dict", none, .dict ⟨[⟨h1, .int a _, .int b _⟩, ⟨h2, .int c _, .int d _⟩]⟩ _, ⟨[]⟩⟩ => decide (h1 = hashInt 1) && (decide (h2 = hashInt 2) && (decide (a = 1) && (decide (b = 2) && (decide (c = 2) && decide (d = 1)))))
  | _ => false
def rFar (K : PySem.W.Frag) : R2 := fun x y H Q => ∃ F, x = .ref F ∧ farB K F = true ∧ ((y = .int 1 ∧ Q (.int 2) H) ∨ (y = .int 2 ∧ Q (.int 1) H))
theorem far_ok {K : PySem.W.Frag} {F : Addr} (h : farB K F = true) : ∃ n t1 t2 t3 t4, K.lookup F = some ⟨.type "dict", none, .dict #[⟨hashInt 1, .int 1 t1, .int 2 t2⟩, ⟨hashInt 2, .int 2 t3, .int 1 t4⟩] n, #[]⟩ := by
  unfold farB at h
  split at h
  · rename_i e
    obtain ⟨e1, h⟩ := He.ba h
    obtain ⟨e2, h⟩ := He.ba h
    obtain ⟨e3, h⟩ := He.ba h
    obtain ⟨e4, h⟩ := He.ba h
    obtain ⟨e5, e6⟩ := He.ba h
    have e1 := of_decide_eq_true e1
    have e2 := of_decide_eq_true e2
    have e3 := of_decide_eq_true e3
    have e4 := of_decide_eq_true e4
    have e5 := of_decide_eq_true e5
    have e6 := of_decide_eq_true e6
    subst e1 e2 e3 e4 e5 e6
    exact ⟨_, _, _, _, _, e⟩
  · cases h
theorem ix_far {X : Cx} : IxR X (rFar X.K) := by
  intro value slice pins s σ H x y v u Q I rx ry h hs
  obtain ⟨F, rfl, hf, q⟩ := h
  obtain rfl : v = Value.ref F := rx
  obtain ⟨n, t1, t2, t3, t4, lk⟩ := far_ok hf
  have ho := I.kIn _ _ lk
  have hm : s.heap.MapOf (PySem.intKind X.prog X.w) F (findBy (PySem.intKind X.prog X.w).is #[⟨hashInt 1, .int 1 t1, .int 2 t2⟩, ⟨hashInt 2, .int 2 t3, .int 1 t4⟩]) := by
    refine ⟨_, _, _, ho, ⟨rfl, rfl, rfl⟩, rfl, fun e he => ?_, fun k => rfl⟩
    have he : e = ⟨hashInt 1, .int 1 t1, .int 2 t2⟩ ∨ e = ⟨hashInt 2, .int 2 t3, .int 1 t4⟩ := by simpa using he
    rcases he with rfl | rfl
    · exact ⟨1, PySem.intKind_is _ _ _ _, rfl⟩
    · exact ⟨2, PySem.intKind_is _ _ _ _, rfl⟩
  have is_ : ∀ (a b : Int) (t : Tok), (PySem.intKind X.prog X.w).is a (.int b t) = decide (a = b) := fun a b t => by
    show Value.isInt a (.int b t) = _
    unfold Value.isInt
    by_cases e : a = b
    · subst e
      simp
    · rw [decide_eq_false e]
      first | exact beq_false_of_ne (Ne.symm e) | exact beq_false_of_ne e
  rcases q with ⟨rfl, q⟩ | ⟨rfl, q⟩
  · obtain ⟨t, rfl⟩ := ry
    exact tail_any hm.typeIs slot_dict_getitem.lookup (wpAny_getItem_of (PySem.intKind_is X.prog X.w 1 t) hm (v := .int 2 t2) (by simp [findBy, is_]) ⟨.int 2, H, I.tok _, ⟨_, rfl⟩, q⟩) hs
  · obtain ⟨t, rfl⟩ := ry
    exact tail_any hm.typeIs slot_dict_getitem.lookup (wpAny_getItem_of (PySem.intKind_is X.prog X.w 2 t) hm (v := .int 1 t4) (by simp [findBy, is_]) ⟨.int 1, H, I.tok _, ⟨_, rfl⟩, q⟩) hs
end Xp
/-! Own ground, part H: the law called from outside, for defs that know that no repr is under way. -/
namespace Xh
open PySem PySem.Spec PyProof.Rows L2 Xa
/-- what can be tracked at the law's call: at most the script, and that as it stands -/
structure Track (P : Program) (w : World) (K : PySem.W.Frag) (h : Heap) (a : Addr) (ns : List Int) (H : Hp) : Prop where
  only : Only H
  seq : SqL K H a (ns.map V.int)
  hok : HOk P w H h
  just : ∀ b, H b ≠ none → b = a
  notK : H a ≠ none → K.lookup a = none
theorem track_ex {P : Program} {w : World} {K : PySem.W.Frag} {h : Heap} {a : Addr} {vs : List Value} {ns : List Int} (KX : K.In h) (ha : h.get? a = some { cls := .type "list", data := .seq vs.toArray }) (hi : IntsAre vs ns) (hl : ns.length ≤ sizeLine) : ∃ H, Track P w K h a ns H := by
  have rv := vals_ints hi
  have hlen : (ns.map V.int).length ≤ sizeLine := by rw [List.length_map] <;> exact hl
  by_cases hk : K.lookup a = none
  · refine ⟨upd (fun _ => none) a (.frz { cls := .type "list", data := .seq vs.toArray } (.lst (ns.map V.int))), fun b => ?_, .inl (.inr ⟨_, upd_same⟩), fun b u e => ?_, fun b nb => ?_, fun _ => hk⟩
    · by_cases e : b = a
      · rw [e, upd_same]
        exact .inr ⟨_, _, rfl⟩
      · rw [upd_ne e]
        exact .inl rfl
    · by_cases q : b = a
      · rw [q, upd_same] at e
        rw [← Option.some.inj e, q]
        exact ⟨ha, hlen, vs, _, rv, ha⟩
      · rw [upd_ne q] at e
        cases e
    · by_cases e : b = a
      · exact e
      · rw [upd_ne e] at nb
        exact absurd rfl nb
  · obtain ⟨o, ho⟩ := Option.ne_none_iff_exists'.mp hk
    have e := KX a o ho
    rw [ha] at e
    have eo := Option.some.inj e
    subst eo
    exact ⟨fun _ => none, fun _ => .inl rfl, .inr ⟨_, vs.toArray, _, ho, rfl, rfl, rfl, by rw [List.size_toArray, hi.length]; exact hl, by simpa using rv⟩, fun b u z => (nomatch z), fun b z => absurd rfl z, fun z => absurd rfl z⟩
/-- the call -/
theorem lawG {P : Program} {w : World} {K : PySem.W.Frag} {mg mb : Str → Option Value} {k : Nat} {fa a : Addr} {fd : FuncData} {x : Str} {sp : Sp} {s : Shared} {vs : List Value} {ns : List Int} (KX : K.In s.heap) (hns : s.heap.Ns mainGlobals mg) (hb : s.heap.Ns builtinsNs mb)
    (hbb : ∀ x : Str, x ≠ "__name__" → mb x = bootBuiltins x) (hlim : s.heap.NoLimit) (hg : s.gens = #[]) (ha : s.heap.get? a = some { cls := .type "list", data := .seq vs.toArray }) (hi : IntsAre vs ns) (hl : ns.length ≤ sizeLine) (hr : Room k callerA) (hn : NoRep callerA)
    (F : ∀ base : Heap, FnG P w K mg base k fa fd [x] sp) (hbind : ∀ (s : Shared) (u : Value), BindsTo s fd ⟨[u], []⟩ [(x, u)]) (hsp : ∀ H : Hp, SqL K H a (ns.map V.int) → sp [.ref a] H (fun v _ => v = .bl true) E0) :
    codeAny (model P w) callerA (.call (.ref fa) ⟨[.ref a], []⟩) (fun r s' => r = .ok (.ret (.bool true)) ∧ OldK s.heap s'.heap ∧ s'.os = s.os ∧ AllBare s'.gens) s := by
  obtain ⟨H, T⟩ := track_ex (P := P) (w := w) KX ha hi hl
  have free : ∀ {b : Addr} {o : Obj}, s.heap.get? b = some o → (∀ vs n, o.data ≠ .seq vs n) → H b = none := fun {b o} e ne => by
    cases q : H b with
    | none => rfl
    | some u =>
      have eb := T.just b (by rw [q]; simp)
      rw [eb, ha] at e
      have eo := Option.some.inj e
      subst eo
      exact absurd rfl (ne _ _)
  have names : ∀ {b : Addr} {m : Str → Option Value}, s.heap.Ns b m → (hidT s.heap H).Ns b m := fun ⟨o, es, ep, e, d, r⟩ => ⟨o, es, ep, hidT_get e (free e fun vs n z => by rw [d] at z; cases z), d, r⟩
  have kin : K.In (hidT s.heap H) := fun b o e => hidT_get (KX b o e) (by
    cases q : H b with
    | none => rfl
    | some u =>
      have eb := T.just b (by rw [q]; simp)
      have nk := T.notK (by rw [← eb, q]; simp)
      rw [eb, nk] at e
      cases e)
  have md : Mod K mg (hidT s.heap H) := ⟨kin, names hns, ⟨mb, names hb, hbb⟩, let ⟨mc, h1, h2⟩ := hlim; ⟨mc, names h1, h2⟩⟩
  have e0 : Env0 P w K mg (hidT s.heap H) callerA [] s H := ⟨rfl, md, fun b o e => of_hidT e, Nat.le_of_eq (hidT_size _ _), trivial, fun b z => absurd (show b ∈ ([] : List Addr) from z) List.not_mem_nil, T.hok, .of_eq hg⟩
  refine codeAny_mono ((F (hidT s.heap H)).go callerA [] s H ⟨[.ref a], []⟩ [.ref a] [.ref a] _ _ hr hn e0 (hbind s (.ref a)) (.cons rfl .nil) (hsp H T.seq)) fun r s' h => ?_
  cases r with
  | error e => exact False.elim h
  | ok fl =>
    cases fl with
    | next => exact False.elim h
    | brk => exact False.elim h
    | cont => exact False.elim h
    | ret u =>
      obtain ⟨v, H', os, bare, un, hok', r', q⟩ := h
      obtain rfl : v = .bl true := q
      obtain rfl : u = Value.bool true := r'
      refine ⟨rfl, OldK.of_keep fun b o e => ?_, os, bare⟩
      rcases T.only b with z | ⟨ob, xs, z⟩
      · exact un.keep b o e z (fun q => absurd (show b ∈ ([] : List Addr) from q) List.not_mem_nil) List.not_mem_nil
      · obtain ⟨e1, _⟩ := T.hok b _ z
        obtain ⟨e2, _⟩ := hok' b _ (un.frzs b ob _ z)
        rw [← Option.some.inj (e1.symm.trans e)]
        exact e2
/-- the walk behind the head -/
theorem walkG {l : PySem.W.OpenLaw} {n k : Nat} {q : Program} {loose : List Str} {XP : (Str → Option Value) → Heap → Prop} {YP : World → Heap → Prop} {d : DefRec} {x : Str} (hm : l.most = some n) (hn2 : n ≤ sizeLine) (hdf : d.params.defaults = []) (hr : Room k callerA) (hn : NoRep callerA)
    (F : ∀ (w : World) (mg : Str → Option Value) (fa : Addr) (h : Heap), YP w h → h.Ns mainGlobals mg → mg d.name = some (.ref fa) →
      ∃ (K : PySem.W.Frag) (fd : FuncData) (sp : Sp), K.In h ∧ (∀ (s : Shared) (u : Value), BindsTo s fd ⟨[u], []⟩ [(x, u)]) ∧ (∀ (H : Hp) (a : Addr) (ns : List Int), SqL K H a (ns.map V.int) → sp [.ref a] H (fun v _ => v = .bl true) E0) ∧ ∀ base : Heap, FnG l.prog w K mg base k fa fd [x] sp) :
    PySem.W.WalkO q loose XP YP l.row.toRowW d [] (fun f vs => PySem.call f vs) := by
  refine Att.attach_call hm hdf fun w s₀ s₁ mg mb fa o pm cd doc a vs ns G Y ho hd hcd hmg hobj hints hlen hg => ?_
  obtain ⟨K, fd, sp, KX, hb, hsp, hF⟩ := F w mg fa _ Y G.T.g hmg
  exact lawG KX G.T.g G.T.b G.T.builtins G.T.nolimit hg hobj hints (Nat.le_trans hlen hn2) hr hn hF hb fun H hS => hsp H a ns hS
end Xh
/-! Own ground, part M: methods called with keywords; what leaves them may be taken by a try. -/
namespace Xm
open PySem PySem.Spec PyProof.Rows L2 Xa Xb Xc Xp
/-- keywords for keyword-only parameters, no defaults ahead of these -/
theorem kb0 {K : PySem.W.Frag} {x qual : Str} {params : Arguments} {body : List Stmt} {scope : Scope} {kws : List (Str × V)} {f : Addr} {fd : FuncData} {ps : List Str} (F : FunD K x qual params body scope [] kws f fd) (n : Nat) (ks : List Str)
    (h : ∀ (kV doc pm : Value) (an : Option Addr) (cdv ct : Value) (us ws : List Value), us.length = n → ws.length = ks.length → bindArgs (PySem.W.fnOf x qual params body scope .none kV doc pm an cdv ct) ⟨us, ks.zip ws⟩ = pure (ps.zip (us ++ ws))) :
    KBn K fd ps n ks (fun us ws => us ++ ws) (fun vs zs => vs ++ zs) := by
  obtain ⟨oc, od, dV, kV, doc, pm, an, cdv, ct, osl, rfl, lk, hcd, hD, hK⟩ := F.ex
  rcases hD with ⟨_, rfl⟩ | ⟨e, _⟩
  · exact ⟨fun s us ws _ l1 l2 => .of_eq (h kV doc pm an cdv ct us ws l1 l2), fun r1 r2 => r1.append r2⟩
  · exact absurd rfl e
/-- nothing leaves -/
theorem passAt0 {X : Cx} (σ : L2.St) : PassesAt (L2.CX X.prog X.w) X σ E0 := fun _ _ _ _ _ _ ⟨_, _, _, _, _, _, _, _, _, _, _, _, q⟩ => False.elim q
/-- o.m(e, .., k = v, ..) -/
def tMethN (C : Addr) (m : Str) (n j : Nat) (sp : Sp) (gV : List V → List V → List V) (E : L2.St → XK) (ta : TE) (t tk : TA) : TE := fun σ H Q => ta σ H fun x H1 => ∃ a dx fs, x = .ref a ∧ H1 a = some (.ins C dx fs) ∧ fs.lookup m = none ∧
  t σ H1 fun vs H2 => tk σ H2 fun zs H3 => (x :: vs).length = n ∧ zs.length = j ∧ sp (gV (x :: vs) zs) H3 Q (E σ)
/-- o.m(e, ..) -/
def tMethD (C : Addr) (m : Str) (sp : Sp) (dvs : List V) (E : L2.St → XK) (ta : TE) (t : TA) : TE := fun σ H Q => ta σ H fun x H1 => ∃ a dx fs, x = .ref a ∧ H1 a = some (.ins C dx fs) ∧ fs.lookup m = none ∧ t σ H1 fun vs H2 => sp (x :: (vs ++ dvs)) H2 Q (E σ)
section
variable {X : Cx} {CX : CXT} {k n : Nat} {f C : Addr} {fd : FuncData} {ps ks : List Str} {sp : Sp} {E : L2.St → XK} {m : Str} {p pos apos : Pos} {o e : Expr} {es : List Expr} {kws : List Keyword} {ta : TE} {t tk : TA} {g : List Value → List Value → List Value} {gV : List V → List V → List V} {ds : List Value} {dvs : List V}
theorem fin_call {pins : List (Addr × Obj)} {σ : L2.St} {H : Hp} {s : Shared} {Q : VK} {ar : Args} {us : List Value} {vs : List V} (F : FnOk X.prog X.w X.K X.mg X.base CX k f fd ps sp) (hr : Room k X.A) (hx : PassesAt CX X σ (E σ)) (I : Inv X pins σ H s)
    (hb : BindsTo s fd ar (ps.zip us)) (r : Vals vs us) (h : sp vs H Q (E σ)) : wpAny (model X.prog X.w) X.A (call (.ref f) ar.pos ar.kw) (EP X pins σ Q) X.xe s := by
  refine wpAny_call (codeAny_mono (F.run X.A X.stack s H ar us vs Q (E σ) hr I.env0 hb r h) fun r s' hq => ?_)
  cases r with
  | error e => exact hx pins H s e s' I hq
  | ok fl =>
    cases fl with
    | ret u => exact I.after hq
    | next => exact False.elim hq
    | brk => exact False.elim hq
    | cont => exact False.elim hq
theorem pe_methN {pl : Sem Bool} (he : PE X o ta) (c : Cls X.K C) (hm : Meth X.K C m f) (F : FnOk X.prog X.w X.K X.mg X.base CX k f fd ps sp) (hr : Room k X.A) (hb : KBn X.K fd ps n ks g gV) (hx : ∀ σ, PassesAt CX X σ (E σ)) (ha : PA X (e :: es) t) (hkw : PK X kws tk)
    (hall : (backToKw pos (keywordEach kws X.env)).all (·.1.isSome) = true := by rfl) (hks : (backToKw pos (keywordEach kws X.env)).filterMap (·.1) = ks := by rfl)
    (hst : starEach (e :: es) X.env = (false, eval e X.env) :: starEach es X.env := by rfl) (hpl : ((backTo pos (starEach (e :: es) X.env)).any (·.1) || (backToKw pos (keywordEach kws X.env)).any (·.1.isNone)) = false := by rfl)
    (ht : eval (.Call (.Attribute o m apos) (e :: es) kws pos) X.env = (do
      let ov ← eval o X.env
      standAt apos.atName
      let (f, first) ← holding [ov] (getMethod ov m pl)
      callWith pos f first (backTo pos (starEach (e :: es) X.env)) (backToKw pos (keywordEach kws X.env))) := by rfl) :
    PE X (.Call (.Attribute o m apos) (e :: es) kws pos) (tMethN C m n ks.length sp gV E ta t tk) := by
  refine ⟨fun pins s σ H Q I h => ?_⟩
  refine PySem.W.methodCall_KW (pl := pl) (thn (he.run pins s σ H _ I h) fun u s1 ⟨x, H1, I1, rx, a, dx, fs, ex, ea, l, q⟩ => ?_) ht
  subst ex
  obtain rfl : u = Value.ref a := rx
  refine getmeth_ok I1 ea c hm l ?_
  refine PySem.W.callWith_KW (first := [.ref a]) (h₀ := X.base) I.ok.mod.kin hm.kp hall (thn (ha.run pos pins s1 σ H1 _ I1 q) fun us s2 ⟨vs, H2, I2, r, q2⟩ => ?_) hpl hst
  refine thn (hkw.run pos pins s2 σ H2 _ I2 q2) fun ws s3 ⟨zs, H3, I3, rz, l1, l2, q3⟩ => ⟨I3.kIn, ?_⟩
  rw [hks]
  have r1 : Vals (V.ref a :: vs) (Value.ref a :: us) := .cons rfl r
  exact fin_call (ar := ⟨.ref a :: us, ks.zip ws⟩) F hr (hx σ) I3 (hb.to s3 (.ref a :: us) ws I3.kIn (r1.length.symm.trans l1) (rz.length.symm.trans l2)) (hb.rel r1 rz) q3
theorem pe_methD {pl : Sem Bool} (he : PE X o ta) (c : Cls X.K C) (hm : Meth X.K C m f) (F : FnOk X.prog X.w X.K X.mg X.base CX k f fd ps sp) (hr : Room k X.A) (hb : Binds X.K fd ps ds) (hd : Vals dvs ds) (hx : ∀ σ, PassesAt CX X σ (E σ)) (ha : PA X (e :: es) t)
    (hst : starEach (e :: es) X.env = (false, eval e X.env) :: starEach es X.env := by rfl) (hpl : (backTo pos (starEach es X.env)).any (·.1) = false := by rfl)
    (ht : eval (.Call (.Attribute o m apos) (e :: es) [] pos) X.env = (do
      let ov ← eval o X.env
      standAt apos.atName
      let (f, first) ← holding [ov] (getMethod ov m pl)
      callWith pos f first (backTo pos (starEach (e :: es) X.env)) (backToKw pos (keywordEach [] X.env))) := by rfl) :
    PE X (.Call (.Attribute o m apos) (e :: es) [] pos) (tMethD C m sp dvs E ta t) := by
  refine ⟨fun pins s σ H Q I h => ?_⟩
  refine PySem.W.methodCall_KW (pl := pl) (thn (he.run pins s σ H _ I h) fun u s1 ⟨x, H1, I1, rx, a, dx, fs, ex, ea, l, q⟩ => ?_) ht
  subst ex
  obtain rfl : u = Value.ref a := rx
  refine getmeth_ok I1 ea c hm l ?_
  refine PySem.W.callWith_K (first := [.ref a]) (h₀ := X.base) I.ok.mod.kin hm.kp (thn (ha.run pos pins s1 σ H1 _ I1 q) fun us s2 ⟨vs, H2, I2, r, q2⟩ => ⟨I2.kIn, ?_⟩) hst hpl
  have r2 : Vals (V.ref a :: (vs ++ dvs)) (Value.ref a :: (us ++ ds)) := .cons rfl (r.append hd)
  have hl : (Value.ref a :: (us ++ ds)).length = ps.length := by rw [← r2.length]; exact F.len _ _ _ _ q2
  exact fin_call (ar := ⟨.ref a :: us, []⟩) F hr (hx σ) I2 (hb s2 (.ref a :: us) I2.kIn hl) r2 q2
end
end Xm
/-! Own ground, part R: what can be told by repr; kinds, under growth. -/
namespace Xr
open PySem PySem.Spec PyProof.Rows L2 Xa Xb Xc Xp
section
variable {K : PySem.W.Frag} {H H' : Hp}
theorem sqt_same (e : Same H H') {a : Addr} {xs : List V} (h : SqT K H a xs) : SqT K H' a xs := by
  rcases h with (h | ⟨o, h⟩) | h
  · exact .inl (.inl (e _ _ h))
  · exact .inl (.inr ⟨o, e _ _ h⟩)
  · exact .inr h
mutual
theorem dq_same (e : Same H H') : ∀ {v : V} {d : PyData} {ls : List Addr}, Dq K H v d ls → Dq K H' v d ls
  | _, _, _, .non => .non
  | _, _, _, .bl b => .bl b
  | _, _, _, .int i => .int i
  | _, _, _, .str z => .str z
  | _, _, _, .lst h t => .lst (e.seq h) (dqs_same e t)
  | _, _, _, .tup h t => .tup (sqt_same e h) (dqs_same e t)
  | _, _, _, .dic h t1 t2 => .dic (e _ _ h) (dqs_same e t1) (dqs_same e t2)
theorem dqs_same (e : Same H H') : ∀ {v : List V} {d : List PyData} {ls : List Addr}, Dqs K H v d ls → Dqs K H' v d ls
  | _, _, _, .nil => .nil
  | _, _, _, .cons h t => .cons (dq_same e h) (dqs_same e t)
end
theorem ty_same (e : Same H H') {v : V} {t : Value} (h : TyX K H v t) : TyX K H' v t := by
  cases h with
  | base h =>
    cases h with
    | non => exact .base .non
    | bl x => exact .base (.bl x)
    | int x => exact .base (.int x)
    | str x => exact .base (.str x)
    | flt x => exact .base (.flt x)
    | lst h => exact .base (.lst (e _ _ h))
    | frz h => exact .base (.frz (e _ _ h))
    | tup h => exact .base (.tup (e _ _ h))
    | dK h => exact .base (.dK (e _ _ h))
    | dT h => exact .base (.dT (e _ _ h))
    | ins h a b c d k => exact .base (.ins (e _ _ h) a b c d k)
  | byt b => exact .byt b
  | set h => exact .set (e _ _ h)
  | kList h c => exact .kList h c
  | kTuple h c => exact .kTuple h c
  | kDict h c => exact .kDict h c
  | fTuple h => exact .fTuple (e _ _ h)
  | fDict h => exact .fDict (e _ _ h)
theorem isk_same (e : Same H H') {v : V} {T : String} {b : Bool} (h : IsK K H v T b) : IsK K H' v T b :=
  let ⟨t, k, q⟩ := h
  ⟨t, ty_same e k, q⟩
end
/-- v is told as txt -/
def Rep (K : PySem.W.Frag) (H : Hp) (v : V) (txt : Str) : Prop := ∃ (d : PyData) (ls : List Addr), Dq K H v d ls ∧ (d.hasDict = true → sysModules ∉ ls) ∧ d.showable = true ∧ d.depth ≤ 60 ∧ d.shown.length ≤ sizeLine ∧ PyData.strOk d.shown = true ∧ txt = d.shown
theorem rep_same {K : PySem.W.Frag} {H H' : Hp} (e : Same H H') {v : V} {t : Str} : Rep K H v t → Rep K H' v t := fun ⟨d, ls, h, r⟩ => ⟨d, ls, dq_same e h, r⟩
theorem Rep.ok {K : PySem.W.Frag} {H : Hp} {v : V} {t : Str} : Rep K H v t → PyData.strOk t = true := fun ⟨_, _, _, _, _, _, _, h, e⟩ => by rw [e] <;> exact h
/-- the reading of repr, by Rep -/
theorem rep_r {K : PySem.W.Frag} {H : Hp} {v : V} {t : Str} {Q : VK} (r : Rep K H v t) (q : Q (.str t) H) : rRepr K [v] H Q := by
  obtain ⟨d, ls, h, h1, h2, h3, h4, h5, rfl⟩ := r
  exact ⟨v, d, ls, rfl, h, h1, h2, h3, h4, q⟩
/-- v is told as txt by one who lengthens lists; behind that the heap is the last -/
inductive Res (K : PySem.W.Frag) (H : Hp) : V → Str → Hp → Prop
  | other {v : V} {t : Str} (k : IsK K H v "list" false) (r : Rep K H v t) : Res K H v t H
  | list {a : Addr} {xs : List V} {t : Str} (e : H a = some (.lst xs)) (z : xs.length < 900) (r : Rep K (upd H a (.lst (xs ++ [.str "more"]))) (.ref a) t) : Res K H (.ref a) t (upd H a (.lst (xs ++ [.str "more"])))
theorem Res.rep {K : PySem.W.Frag} {H H2 : Hp} {v : V} {t : Str} : Res K H v t H2 → Rep K H2 v t
  | .other _ r => r
  | .list _ _ r => r
end Xr
/-! Own ground, part L: written data, laid anew. -/
namespace Xl
open PySem PySem.Spec PyProof.Rows L2 Xa Xb Xc Xp Xr
mutual
inductive Lt (H : Hp) : V → PyData → List Addr → Prop
  | non : Lt H .non .none []
  | bl (b : Bool) : Lt H (.bl b) (.bool b) []
  | int (i : Int) : Lt H (.int i) (.int i) []
  | str (z : Str) : Lt H (.str z) (.str z) []
  | lst {a : Addr} {xs : List V} {ds : List PyData} {ls : List Addr} : H a = some (.lst xs) → Lts H xs ds ls → Lt H (.ref a) (.list ds) (a :: ls)
  | tup {a : Addr} {xs : List V} {ds : List PyData} {ls : List Addr} : H a = some (.tup xs) → Lts H xs ds ls → Lt H (.ref a) (.tuple ds) ls
  | dic {a : Addr} : H a = some (.dK []) → Lt H (.ref a) (.dict []) []
inductive Lts (H : Hp) : List V → List PyData → List Addr → Prop
  | nil : Lts H [] [] []
  | cons {v : V} {vs : List V} {d : PyData} {ds : List PyData} {l1 l2 : List Addr} : Lt H v d l1 → Lts H vs ds l2 → Lts H (v :: vs) (d :: ds) (l1 ++ l2)
end
section
variable {H H' : Hp} {K : PySem.W.Frag}
mutual
theorem lt_dq : ∀ {v : V} {d : PyData} {ls : List Addr}, Lt H v d ls → Dq K H v d ls
  | _, _, _, .non => .non
  | _, _, _, .bl b => .bl b
  | _, _, _, .int i => .int i
  | _, _, _, .str z => .str z
  | _, _, _, .lst h t => .lst (SqL.of h) (lts_dq t)
  | _, _, _, .tup h t => .tup (SqT.of h) (lts_dq t)
  | _, _, _, .dic h => .dic (kvs := []) (ds := []) h .nil .nil
theorem lts_dq : ∀ {v : List V} {d : List PyData} {ls : List Addr}, Lts H v d ls → Dqs K H v d ls
  | _, _, _, .nil => .nil
  | _, _, _, .cons h t => .cons (lt_dq h) (lts_dq t)
end
mutual
theorem lt_but {a : Addr} (e : ∀ c o, H c = some o → c ≠ a → H' c = some o) (ha : ∃ xs, H a = some (.lst xs)) : ∀ {v : V} {d : PyData} {ls : List Addr}, Lt H v d ls → a ∉ ls → Lt H' v d ls
  | _, _, _, .non, _ => .non
  | _, _, _, .bl b, _ => .bl b
  | _, _, _, .int i, _ => .int i
  | _, _, _, .str z, _ => .str z
  | _, _, _, .lst h t, n => .lst (e _ _ h fun z => n (by rw [z] <;> exact List.mem_cons_self)) (lts_but e ha t fun z => n (List.mem_cons_of_mem _ z))
  | _, _, _, .tup h t, n => .tup (e _ _ h fun z => by obtain ⟨xs, q⟩ := ha; rw [z, q] at h; cases h) (lts_but e ha t n)
  | _, _, _, .dic h, _ => .dic (e _ _ h fun z => by obtain ⟨xs, q⟩ := ha; rw [z, q] at h; cases h)
theorem lts_but {a : Addr} (e : ∀ c o, H c = some o → c ≠ a → H' c = some o) (ha : ∃ xs, H a = some (.lst xs)) : ∀ {v : List V} {d : List PyData} {ls : List Addr}, Lts H v d ls → a ∉ ls → Lts H' v d ls
  | _, _, _, .nil, _ => .nil
  | _, _, _, .cons h t, n => .cons (lt_but e ha h fun z => n (List.mem_append_left _ z)) (lts_but e ha t fun z => n (List.mem_append_right _ z))
end
mutual
theorem lt_same (e : Same H H') : ∀ {v : V} {d : PyData} {ls : List Addr}, Lt H v d ls → Lt H' v d ls
  | _, _, _, .non => .non
  | _, _, _, .bl b => .bl b
  | _, _, _, .int i => .int i
  | _, _, _, .str z => .str z
  | _, _, _, .lst h t => .lst (e _ _ h) (lts_same e t)
  | _, _, _, .tup h t => .tup (e _ _ h) (lts_same e t)
  | _, _, _, .dic h => .dic (e _ _ h)
theorem lts_same (e : Same H H') : ∀ {v : List V} {d : List PyData} {ls : List Addr}, Lts H v d ls → Lts H' v d ls
  | _, _, _, .nil => .nil
  | _, _, _, .cons h t => .cons (lt_same e h) (lts_same e t)
end
mutual
theorem lt_at : ∀ {v : V} {d : PyData} {ls : List Addr}, Lt H v d ls → ∀ a ∈ ls, ∃ xs, H a = some (.lst xs)
  | _, _, _, .non, _, z => nomatch z
  | _, _, _, .bl b, _, z => nomatch z
  | _, _, _, .int i, _, z => nomatch z
  | _, _, _, .str s, _, z => nomatch z
  | _, _, _, .lst h t, b, z => (List.mem_cons.mp z).elim (fun q => ⟨_, (congrArg H q).trans h⟩) fun q => lts_at t b q
  | _, _, _, .tup h t, b, z => lts_at t b z
  | _, _, _, .dic h, _, z => nomatch z
theorem lts_at : ∀ {v : List V} {d : List PyData} {ls : List Addr}, Lts H v d ls → ∀ a ∈ ls, ∃ xs, H a = some (.lst xs)
  | _, _, _, .nil, _, z => nomatch z
  | _, _, _, .cons h t, b, z => (List.mem_append.mp z).elim (lt_at h b) (lts_at t b)
end
theorem lts_app : ∀ {vs vs' : List V} {ds ds' : List PyData} {ls ls' : List Addr}, Lts H vs ds ls → Lts H vs' ds' ls' → Lts H (vs ++ vs') (ds ++ ds') (ls ++ ls')
  | _, _, _, _, _, _, .nil, t => t
  | _, _, _, _, _, _, .cons (l1 := l1) (l2 := l2) h t, t' => by
    rw [List.append_assoc]
    exact .cons h (lts_app t t')
theorem lts_len : ∀ {vs : List V} {ds : List PyData} {ls : List Addr}, Lts H vs ds ls → vs.length = ds.length
  | _, _, _, .nil => rfl
  | _, _, _, .cons _ t => congrArg Nat.succ (lts_len t)
theorem lts_get : ∀ {vs : List V} {ds : List PyData} {ls : List Addr}, Lts H vs ds ls → ∀ (i : Nat) (v : V), vs[i]? = some v → ∃ d l, ds[i]? = some d ∧ Lt H v d l ∧ ∀ a ∈ l, a ∈ ls
  | _, _, _, .nil, i, v, h => by simp at h
  | _, _, _, .cons (d := d) (l1 := l1) h t, 0, v, e => by
    obtain rfl := Option.some.inj e
    exact ⟨d, l1, rfl, h, fun a z => List.mem_append_left _ z⟩
  | _, _, _, .cons h t, i + 1, v, e => by
    obtain ⟨d, l, e1, e2, e3⟩ := lts_get t i v e
    exact ⟨d, l, e1, e2, fun a z => List.mem_append_right _ (e3 a z)⟩
/-- a list of the data at the top: it is met in no other one -/
theorem lts_sep : ∀ {vs : List V} {ds : List PyData} {ls : List Addr}, Lts H vs ds ls → ls.Nodup → ∀ (j : Nat) (v : V), vs[j]? = some v → ∃ d l, ds[j]? = some d ∧ Lt H v d l ∧ (∀ a ∈ l, a ∈ ls) ∧
    ∀ (i : Nat) (x : V), i ≠ j → vs[i]? = some x → ∃ d' l', ds[i]? = some d' ∧ Lt H x d' l' ∧ ∀ a ∈ l, a ∉ l'
  | _, _, _, .nil, _, i, v, h => by simp at h
  | _, _, _, .cons (d := d) (l1 := l1) (l2 := l2) h t, nd, 0, v, e => by
    obtain rfl := Option.some.inj e
    refine ⟨d, l1, rfl, h, fun a z => List.mem_append_left _ z, fun i x ne ex => ?_⟩
    cases i with
    | zero => exact absurd rfl ne
    | succ i =>
      obtain ⟨d', l', e1, e2, e3⟩ := lts_get t i x ex
      exact ⟨d', l', e1, e2, fun a z z' => (List.nodup_append.mp nd).2.2 a z a (e3 a z') rfl⟩
  | _, _, _, .cons (d := d) (l1 := l1) (l2 := l2) h t, nd, j + 1, v, e => by
    obtain ⟨d1, l, e1, e2, e3, e4⟩ := lts_sep t (List.nodup_append.mp nd).2.1 j v e
    refine ⟨d1, l, e1, e2, fun a z => List.mem_append_right _ (e3 a z), fun i x ne ex => ?_⟩
    cases i with
    | zero =>
      obtain rfl := Option.some.inj ex
      exact ⟨d, l1, rfl, h, fun a z z' => (List.nodup_append.mp nd).2.2 a z' a (e3 a z) rfl⟩
    | succ i => exact e4 i x (fun z => ne (by rw [z])) ex
end
/-! ### kinds of data -/
def numD : PyData → Option Int
  | .int i => some i
  | _ => none
def kindD : PyData → String
  | .none => "NoneType"
  | .bool _ => "bool"
  | .int _ => "int"
  | .str _ => "str"
  | .list _ => "list"
  | .tuple _ => "tuple"
  | .dict _ => "dict"
mutual
def nol : PyData → Bool
  | .list _ => false
  | .tuple ds => nols ds
  | .dict _ => true
  | _ => true
def nols : List PyData → Bool
  | [] => true
  | d :: ds => nol d && nols ds
end
section
variable {H : Hp} {K : PySem.W.Frag}
theorem lt_num {v : V} {d : PyData} {ls : List Addr} (h : Lt H v d ls) : Num K H v (numD d) := by
  cases h with
  | non => exact .no whl_non
  | bl b => exact .no (whl_bl b)
  | int i => exact .is i
  | str z => exact .no (whl_str z)
  | lst h t => exact .no (whl_lst h)
  | tup h t => exact .no (whl_tup h)
  | dic h => exact .no (whl_dic h)
theorem lt_isk {v : V} {d : PyData} {ls : List Addr} {T : String} {b : Bool} (h : Lt H v d ls) (e : kitB (kindD d) T = some b) : IsK K H v T b := by
  cases h with
  | non => exact isk_non _ e
  | bl b => exact isk_bl b _ e
  | int i => exact isk_int i _ e
  | str z => exact isk_str z _ e
  | lst h t => exact isk_lst h _ e
  | tup h t => exact isk_tup h _ e
  | dic h => exact isk_dic h _ e
mutual
theorem lt_nol : ∀ {v : V} {d : PyData} {ls : List Addr}, Lt H v d ls → nol d = true → ls = []
  | _, _, _, .non, _ => rfl
  | _, _, _, .bl b, _ => rfl
  | _, _, _, .int i, _ => rfl
  | _, _, _, .str z, _ => rfl
  | _, _, _, .lst h t, e => by simp [nol] at e
  | _, _, _, .tup h t, e => lts_nol t (by simpa [nol] using e)
  | _, _, _, .dic h, _ => rfl
theorem lts_nol : ∀ {v : List V} {d : List PyData} {ls : List Addr}, Lts H v d ls → nols d = true → ls = []
  | _, _, _, .nil, _ => rfl
  | _, _, _, .cons h t, e => by
    have e2 := Bool.and_eq_true_iff.mp (by simpa [nols] using e)
    rw [lt_nol h e2.1, lts_nol t e2.2] <;> rfl
end
end
/-- such a datum is told by repr -/
def okD (d : PyData) : Bool := (nol d || !d.hasDict) && (d.showable && (decide (d.depth ≤ 60) && (decide (d.shown.length ≤ sizeLine) && PyData.strOk d.shown)))
theorem lt_rep {H : Hp} {K : PySem.W.Frag} {v : V} {d : PyData} {ls : List Addr} (h : Lt H v d ls) (e : okD d = true) : Rep K H v d.shown := by
  obtain ⟨e1, e⟩ := He.ba e
  obtain ⟨e2, e⟩ := He.ba e
  obtain ⟨e3, e⟩ := He.ba e
  obtain ⟨e4, e5⟩ := He.ba e
  refine ⟨d, ls, lt_dq h, fun z => ?_, e2, of_decide_eq_true e3, of_decide_eq_true e4, e5, rfl⟩
  rw [z] at e1
  rw [lt_nol h (by simpa using e1)]
  exact List.not_mem_nil
/-! ### displays -/
def tLit (S : L2.St → Prop) (d : PyData) : TE := fun σ H Q => S σ ∧ ∀ v H' ls, Same H H' → Lt H' v d ls → ls.Nodup → (∀ a ∈ ls, H a = none) → Q v H'
def tLits (S : L2.St → Prop) (ds : List PyData) : TA := fun σ H Q => S σ ∧ ∀ vs H' ls, Same H H' → Lts H' vs ds ls → ls.Nodup → (∀ a ∈ ls, H a = none) → Q vs H'
theorem upd_same_as {H : Hp} {p : Addr} {o : HO} (n : H p = none) : Same H (upd H p o) := fun c q e => by rw [upd_ne (ne_of_none e n)] <;> exact e
section
variable {X : Cx} {S : L2.St → Prop} {d : PyData} {ds : List PyData} {e : Expr} {es : List Expr} {pos : Pos}
theorem pe_of {te te' : TE} (h : ∀ σ H Q, te' σ H Q → te σ H Q) (p : PE X e te) : PE X e te' := ⟨fun pins s σ H Q I q => p.run pins s σ H Q I (h _ _ _ q)⟩
theorem pa_of {te te' : TA} (h : ∀ σ H Q, te' σ H Q → te σ H Q) (p : PA X es te) : PA X es te' := ⟨fun ps pins s σ H Q I q => p.run ps pins s σ H Q I (h _ _ _ q)⟩
theorem li_non {j : Nat} : PE X (.Constant .none j pos) (tLit S .none) := pe_of (fun σ H Q h => h.2 .non H [] (Same.refl H) .non List.nodup_nil fun _ z => nomatch z) pe_non
theorem li_bl {b : Bool} {j : Nat} : PE X (.Constant (.bool b) j pos) (tLit S (.bool b)) := pe_of (fun σ H Q h => h.2 (.bl b) H [] (Same.refl H) (.bl b) List.nodup_nil fun _ z => nomatch z) pe_bl
theorem li_str {x : Str} {j : Nat} : PE X (.Constant (.str x) j pos) (tLit S (.str x)) := pe_of (fun σ H Q h => h.2 (.str x) H [] (Same.refl H) (.str x) List.nodup_nil fun _ z => nomatch z) pe_str
theorem li_of {te : TE} (i : Int) (h : ∀ σ H Q, S σ → Q (.int i) H → te σ H Q) (p : PE X e te) : PE X e (tLit S (.int i)) := pe_of (fun σ H Q q => h σ H Q q.1 (q.2 (.int i) H [] (Same.refl H) (.int i) List.nodup_nil fun _ z => nomatch z)) p
theorem li_int {i : Int} {j : Nat} : PE X (.Constant (.int i) j pos) (tLit S (.int i)) := li_of i (fun _ _ _ _ q => q) pe_int
theorem li_neg {i : Int} {j : Nat} {pos2 : Pos} : PE X (.UnaryOp .USub (.Constant (.int i) j pos) pos2) (tLit S (.int (-i))) := li_of (-i) (fun _ _ _ _ q => ⟨_, rfl, q⟩) (pe_un un_neg pe_int)
theorem li_dic : PE X (.Dict [] [] pos) (tLit S (.dict [])) := pe_of (fun σ H Q h p np => h.2 (.ref p) _ [] (upd_same_as np) (.dic upd_same) List.nodup_nil fun _ z => nomatch z) pe_dnewK
theorem lis_nil : PA X [] (tLits S []) := pa_of (fun σ H Q h => h.2 [] H [] (Same.refl H) .nil List.nodup_nil fun _ z => nomatch z) pa_nil
theorem lis_cons (h : PE X e (tLit S d)) (t : PA X es (tLits S ds)) (hs : starEach (e :: es) X.env = (false, eval e X.env) :: starEach es X.env := by rfl) : PA X (e :: es) (tLits S (d :: ds)) := by
  refine pa_of (fun σ H Q q => ?_) (pa_cons h t hs)
  refine ⟨q.1, fun v H1 l1 s1 t1 n1 f1 => ⟨q.1, fun vs H2 l2 s2 t2 n2 f2 => q.2 (v :: vs) H2 (l1 ++ l2) (s1.trans s2) (.cons (lt_same s2 t1) t2) ?_ fun a z => ?_⟩⟩
  · refine List.nodup_append.mpr ⟨n1, n2, fun a z b z2 e => ?_⟩
    obtain ⟨xs, y⟩ := lt_at t1 a z
    rw [e, f2 b z2] at y
    cases y
  · rcases List.mem_append.mp z with z | z
    · exact f1 a z
    · exact s1.free (f2 a z)
theorem li_tup {x : Nat} (h : PA X es (tLits S ds)) (z : ds.length ≤ 1000) : PE X (.Tuple es x pos) (tLit S (.tuple ds)) := by
  refine pe_of (fun σ H Q q => ?_) (pe_tup h)
  refine ⟨q.1, fun vs H1 ls s1 t1 n1 f1 => ⟨?_, fun p np => q.2 (.ref p) _ ls (s1.trans (upd_same_as np)) (.tup upd_same (lts_same (upd_same_as np) t1)) n1 f1⟩⟩
  rw [lts_len t1, sizeLine_eq]
  omega
theorem li_lst (h : PA X es (tLits S ds)) (z : ds.length ≤ 1000) : PE X (.List es pos) (tLit S (.list ds)) := by
  refine pe_of (fun σ H Q q => ?_) (pe_lst h)
  refine ⟨q.1, fun vs H1 ls s1 t1 n1 f1 => ⟨?_, fun p np => q.2 (.ref p) _ (p :: ls) (s1.trans (upd_same_as np)) (.lst upd_same (lts_same (upd_same_as np) t1)) (List.nodup_cons.mpr ⟨fun z => ?_, n1⟩) fun a z => ?_⟩⟩
  · rw [lts_len t1, sizeLine_eq]
    omega
  · obtain ⟨xs, y⟩ := lts_at t1 p z
    rw [np] at y
    cases y
  · rcases List.mem_cons.mp z with z | z
    · rw [z]
      exact s1.free np
    · exact f1 a z
end
end Xl
/-! Own ground, part K: written lists gone through, one of whose elements is a list that is lengthened. -/
namespace Xk
open PySem PySem.Spec PyProof.Rows L2 Xa Xb Xc Xp Xr Xl
/-- all but a is as it was -/
def Evo (a : Addr) (H H' : Hp) : Prop := ∀ c o, H c = some o → c ≠ a → H' c = some o
theorem Evo.same {a : Addr} {H H' H2 : Hp} (e : Evo a H H') (s : Same H' H2) : Evo a H H2 := fun c o h n => s c o (e c o h n)
theorem Evo.trans {a : Addr} {H H' H2 : Hp} (e : Evo a H H') (s : Evo a H' H2) : Evo a H H2 := fun c o h n => s c o (e c o h n) n
theorem Evo.of {a : Addr} {H H' : Hp} (s : Same H H') : Evo a H H' := fun c o h _ => s c o h
theorem Evo.all {a : Addr} {H0 H H' : Hp} (s : Same H0 H) (n : H0 a = none) (e : Evo a H H') : Same H0 H' := fun c o h => e c o (s c o h) (ne_of_none h n)
def mores (k : Nat) : List V := List.replicate k (.str "more")
def mored (base : List PyData) (k : Nat) : PyData := .list (base ++ List.replicate k (.str "more"))
structure Pk (H : Hp) (vs : List V) (ds : List PyData) (j : Nat) (base : List PyData) (a : Addr) (xs : List V) : Prop where
  pos : vs[j]? = some (.ref a)
  lst : H a = some (.lst xs)
  els : Lts H xs base []
  oth : ∀ (i : Nat) (x : V), i ≠ j → vs[i]? = some x → ∃ d l, ds[i]? = some d ∧ Lt H x d l ∧ a ∉ l
theorem pick {H : Hp} {vs : List V} {ds : List PyData} {ls : List Addr} {j : Nat} {base : List PyData} (t : Lts H vs ds ls) (nd : ls.Nodup) (hj : ds[j]? = some (.list base)) (nb : nols base = true) : ∃ a xs, Pk H vs ds j base a xs ∧ a ∈ ls := by
  have hl : j < vs.length := by
    rw [lts_len t]
    exact (List.getElem?_eq_some_iff.mp hj).1
  obtain ⟨d, l, e1, e2, e3, e4⟩ := lts_sep t nd j vs[j] (List.getElem?_eq_getElem hl)
  rw [hj] at e1
  obtain rfl := Option.some.inj e1
  generalize hv : vs[j] = v at e2
  cases e2 with
  | lst h t2 =>
    have z := lts_nol t2 nb
    subst z
    exact ⟨_, _, ⟨by rw [List.getElem?_eq_getElem hl, hv], h, t2, fun i x ne ex => let ⟨d', l', q1, q2, q3⟩ := e4 i x ne ex; ⟨d', l', q1, q2, q3 _ List.mem_cons_self⟩⟩, e3 _ List.mem_cons_self⟩
section
variable {H H' : Hp} {vs : List V} {ds : List PyData} {j : Nat} {base : List PyData} {a : Addr} {xs : List V} {i : Nat} {x : V} {K : PySem.W.Frag}
theorem lts_more (k : Nat) : Lts H (mores k) (List.replicate k (.str "more")) [] := by
  induction k with
  | zero => exact .nil
  | succ k ih => exact .cons (.str _) ih
theorem Pk.elem (p : Pk H vs ds j base a xs) (k : Nat) (e : Evo a H H') (hk : i = j → H' a = some (.lst (xs ++ mores k))) (hx : vs[i]? = some x) : ∃ d l, Lt H' x d l ∧ (i ≠ j → ds[i]? = some d) ∧ (i = j → d = mored base k ∧ x = .ref a) := by
  by_cases ij : i = j
  · subst ij
    rw [p.pos] at hx
    obtain rfl := Option.some.inj hx
    have q : Lts H' (xs ++ mores k) (base ++ List.replicate k (.str "more")) ([] ++ []) := lts_app (lts_but e ⟨_, p.lst⟩ p.els (by simp)) (lts_more k)
    exact ⟨_, _, .lst (hk rfl) q, fun z => absurd rfl z, fun _ => ⟨rfl, rfl⟩⟩
  · obtain ⟨d, l, q1, q2, q3⟩ := p.oth i x ij hx
    exact ⟨d, l, lt_but e ⟨_, p.lst⟩ q2 q3, fun _ => q1, fun z => absurd z ij⟩
theorem Pk.res (p : Pk H vs ds j base a xs) (k : Nat) (kz : k < 100) (e : Evo a H H') (hk : i = j → H' a = some (.lst (xs ++ mores k))) (hx : vs[i]? = some x) (bz : base.length < 100)
    (ok : ∀ d, i ≠ j → ds[i]? = some d → okD d = true ∧ kitB (kindD d) "list" = some false) (okm : i = j → okD (mored base (k + 1)) = true) :
    ∃ t H2, Res K H' x t H2 ∧ Evo a H' H2 ∧ (i ≠ j → H2 = H') ∧ (i = j → H2 a = some (.lst (xs ++ mores (k + 1)))) := by
  by_cases ij : i = j
  · have hk2 := hk ij
    have okm2 := okm ij
    subst ij
    rw [p.pos] at hx
    obtain rfl := Option.some.inj hx
    have em : (xs ++ mores k) ++ [V.str "more"] = xs ++ mores (k + 1) := by
      unfold mores
      rw [List.append_assoc, List.replicate_succ']
    have hs : (upd H' a (.lst (xs ++ mores (k + 1)))) a = some (.lst (xs ++ mores (k + 1))) := upd_same
    have ev : Evo a H' (upd H' a (.lst (xs ++ mores (k + 1)))) := fun c o h n => by rw [upd_ne n] <;> exact h
    have q : Lts (upd H' a (.lst (xs ++ mores (k + 1)))) (xs ++ mores (k + 1)) (base ++ List.replicate (k + 1) (.str "more")) ([] ++ []) := lts_app (lts_but (e.trans ev) ⟨_, p.lst⟩ p.els (by simp)) (lts_more (k + 1))
    have r : Rep K (upd H' a (.lst ((xs ++ mores k) ++ [V.str "more"]))) (.ref a) (mored base (k + 1)).shown := by
      rw [em]
      exact lt_rep (.lst hs q) okm2
    have len := lts_len p.els
    have R : Res K H' (.ref a) (mored base (k + 1)).shown (upd H' a (.lst ((xs ++ mores k) ++ [V.str "more"]))) := Res.list hk2 (by rw [List.length_append]; unfold mores; rw [List.length_replicate]; omega) r
    refine ⟨_, _, R, by rw [em] <;> exact ev, fun z => absurd rfl z, fun _ => ?_⟩
    rw [em] <;> exact hs
  · obtain ⟨d, l, q1, q2, q3⟩ := p.oth i x ij hx
    obtain ⟨o1, o2⟩ := ok d ij q1
    have q4 := lt_but e ⟨_, p.lst⟩ q2 q3
    exact ⟨_, H', .other (lt_isk q4 o2) (lt_rep q4 o1), Evo.of (Same.refl _), fun _ => rfl, fun z => absurd z ij⟩
end
/-! ### the told triple -/
def triple (b1 b2 : Bool) (t : Str) : PyData := .list [.bool b1, .bool b2, .str t]
theorem triple_shaped (b1 b2 : Bool) {t : Str} (h : PyData.strOk t = true) : SeqAt.shaped (triple b1 b2 t) = true := by
  simp [h, SeqAt.shaped, triple, PyData.canLay0, PyData.canLayAll0, PyData.depth, PyData.depthAll]
theorem triple_eqv (b1 b2 : Bool) (t : Str) : PyData.eqv (triple b1 b2 t) (triple b1 b2 t) = true := by
  simp [triple, PyData.eqv, PyData.eqvAll]
theorem triple_at {K : PySem.W.Frag} {H : Hp} {r : Addr} {b1 b2 : Bool} {t : Str} (h : H r = some (.lst [.bl b1, .bl b2, .str t])) : Dp K H (.ref r) (triple b1 b2 t) :=
  .lst (SqL.of h) (.cons (.bl _) (.cons (.bl _) (.cons (.str _) .nil)))
end Xk
/-! Own ground, part T: lists of tuples of ints as data. -/
namespace Xt
open PySem PySem.Spec PyProof.Rows L2 Xa Xb Xc Xp Xr Xl Xk
def tupD (l : List Int) : PyData := .tuple (l.map .int)
def lisD (ls : List (List Int)) : PyData := .list (ls.map tupD)
section
theorem ints_lay : ∀ l : List Int, PyData.canLayAll0 (l.map .int) = true
  | [] => by simp [PyData.canLayAll0]
  | x :: l => by simp [PyData.canLayAll0, PyData.canLay0, ints_lay l]
theorem tups_lay : ∀ ls : List (List Int), PyData.canLayAll0 (ls.map tupD) = true
  | [] => by simp [PyData.canLayAll0]
  | x :: l => by simp [PyData.canLayAll0, PyData.canLay0, tupD, ints_lay x, tups_lay l]
theorem ints_depth : ∀ l : List Int, PyData.depthAll (l.map .int) = 0
  | [] => by simp [PyData.depthAll]
  | x :: l => by simp [PyData.depthAll, PyData.depth, ints_depth l]
theorem tups_depth : ∀ ls : List (List Int), PyData.depthAll (ls.map tupD) ≤ 1
  | [] => by simp [PyData.depthAll]
  | x :: l => by
    have := tups_depth l
    simp only [List.map_cons, PyData.depthAll, PyData.depth, tupD, ints_depth]
    omega
theorem lis_depth (ls : List (List Int)) : (lisD ls).depth ≤ 2 := by
  have := tups_depth ls
  simp only [lisD, PyData.depth]
  omega
theorem ints_nodict : ∀ l : List Int, PyData.hasDictAll (l.map .int) = false
  | [] => by simp [PyData.hasDictAll]
  | x :: l => by simp [PyData.hasDictAll, PyData.hasDict, ints_nodict l]
theorem tups_nodict : ∀ ls : List (List Int), PyData.hasDictAll (ls.map tupD) = false
  | [] => by simp [PyData.hasDictAll]
  | x :: l => by simp [PyData.hasDictAll, PyData.hasDict, tupD, ints_nodict x, tups_nodict l]
theorem lis_shaped (ls : List (List Int)) : SeqAt.shaped (lisD ls) = true := by
  have h1 : (lisD ls).canLay0 = true := by simp [lisD, PyData.canLay0, tups_lay]
  have h2 := lis_depth ls
  have h3 : (lisD ls).depth ≤ 64 := by omega
  simp [SeqAt.shaped, h1, h3]
theorem lis_eqv (ls : List (List Int)) : PyData.eqv (lisD ls) (lisD ls) = true := SeqAt.eqv_refl _ (by simp [lisD, PyData.canLay0, tups_lay])
/-- short ones of bounded ints -/
def Short (ls : List (List Int)) : Prop := ls.length < 64 ∧ ∀ l ∈ ls, l.length ≤ 3 ∧ ∀ z ∈ l, z.natAbs < 10 ^ 30
theorem log_lt {z : Int} (h : z.natAbs < 10 ^ 30) : z.natAbs.log2 < 100 := by
  have h1 : z.natAbs < 2 ^ 100 := Nat.lt_of_lt_of_le h (by decide)
  exact PySem.Flt.log2_lt_of (k := 100) (by decide) h1
theorem ints_showable : ∀ l : List Int, (∀ z ∈ l, z.natAbs < 10 ^ 30) → PyData.showableAll (l.map .int) = true
  | [], _ => by simp [PyData.showableAll]
  | x :: l, h => by
    have h1 := log_lt (h x List.mem_cons_self)
    have h2 : x.natAbs.log2 < 1920 := by omega
    simp [PyData.showableAll, PyData.showable, h2, ints_showable l fun z hz => h z (List.mem_cons_of_mem _ hz)]
theorem tups_showable : ∀ ls : List (List Int), (∀ l ∈ ls, ∀ z ∈ l, z.natAbs < 10 ^ 30) → PyData.showableAll (ls.map tupD) = true
  | [], _ => by simp [PyData.showableAll]
  | x :: l, h => by simp [PyData.showableAll, PyData.showable, tupD, ints_showable x (h x List.mem_cons_self), tups_showable l fun z hz => h z (List.mem_cons_of_mem _ hz)]
theorem int_short {z : Int} (h : z.natAbs < 10 ^ 30) : (PyData.int z).shown.length ≤ 32 := by
  have e := int_text_length_le10 (k := 30) (by decide) h
  show (Str.ofString (toString z)).length ≤ 32
  rw [PySem.ofString_length]
  omega
theorem ints_short : ∀ l : List Int, (∀ z ∈ l, z.natAbs < 10 ^ 30) → PyData.leavesShortAll 32 (l.map .int) = true
  | [], _ => by simp [PyData.leavesShortAll]
  | x :: l, h => by simp [PyData.leavesShortAll, PyData.leavesShort, int_short (h x List.mem_cons_self), ints_short l fun z hz => h z (List.mem_cons_of_mem _ hz)]
theorem tups_short : ∀ ls : List (List Int), (∀ l ∈ ls, ∀ z ∈ l, z.natAbs < 10 ^ 30) → PyData.leavesShortAll 32 (ls.map tupD) = true
  | [], _ => by simp [PyData.leavesShortAll]
  | x :: l, h => by simp [PyData.leavesShortAll, PyData.leavesShort, tupD, ints_short x (h x List.mem_cons_self), tups_short l fun z hz => h z (List.mem_cons_of_mem _ hz)]
theorem ints_weight : ∀ l : List Int, (∀ z ∈ l, z.natAbs < 10 ^ 30) → PyData.weightAll (l.map .int) ≤ 101 * l.length
  | [], _ => by simp [PyData.weightAll]
  | x :: l, h => by
    have h1 := log_lt (h x List.mem_cons_self)
    have h2 := ints_weight l fun z hz => h z (List.mem_cons_of_mem _ hz)
    have h3 : PyData.weight (.int x) ≤ 100 := by
      simp only [PyData.weight]
      split <;> omega
    simp only [List.map_cons, PyData.weightAll, List.length_cons]
    omega
theorem tups_weight : ∀ ls : List (List Int), (∀ l ∈ ls, l.length ≤ 3 ∧ ∀ z ∈ l, z.natAbs < 10 ^ 30) → PyData.weightAll (ls.map tupD) ≤ 304 * ls.length
  | [], _ => by simp [PyData.weightAll]
  | x :: l, h => by
    obtain ⟨h1, h4⟩ := h x List.mem_cons_self
    have h2 := tups_weight l fun z hz => h z (List.mem_cons_of_mem _ hz)
    have h3 := ints_weight x h4
    simp only [List.map_cons, PyData.weightAll, List.length_cons, tupD, PyData.weight]
    omega
theorem lis_len {ls : List (List Int)} (h : Short ls) : (lisD ls).shown.length ≤ sizeLine := by
  obtain ⟨h1, h2⟩ := h
  have h3 := tups_short ls fun l hl => (h2 l hl).2
  have h4 := tups_weight ls h2
  have h5 := PyData.shown_le 32 (by decide) (lisD ls) (by simpa [lisD, PyData.leavesShort] using h3)
  have h6 : (lisD ls).weight ≤ 304 * 64 := by
    simp only [lisD, PyData.weight]
    omega
  have h7 : (32 + 2) * (lisD ls).weight ≤ 34 * (304 * 64) := Nat.mul_le_mul (Nat.le_refl _) h6
  rw [sizeLine_eq]
  omega
end
section
variable {K : PySem.W.Frag} {H : Hp}
theorem dqs_ints : ∀ l : List Int, Dqs K H (l.map V.int) (l.map .int) []
  | [] => .nil
  | x :: l => .cons (l1 := []) (.int x) (dqs_ints l)
theorem dqs_tups : ∀ ks : List (Addr × List Int), (∀ q ∈ ks, H q.1 = some (.tup (q.2.map V.int))) → Dqs K H (ks.map fun q => V.ref q.1) ((ks.map (·.2)).map tupD) []
  | [], _ => .nil
  | q :: ks, h => .cons (l1 := []) (.tup (SqT.of (h q List.mem_cons_self)) (dqs_ints q.2)) (dqs_tups ks fun z hz => h z (List.mem_cons_of_mem _ hz))
/-- the reading of repr of such a list -/
theorem rr_lis {u : Addr} {ks : List (Addr × List Int)} {Q : VK} (h : H u = some (.lst (ks.map fun q => V.ref q.1))) (t : ∀ q ∈ ks, H q.1 = some (.tup (q.2.map V.int))) (s : Short (ks.map (·.2))) (q : Q (.str (lisD (ks.map (·.2))).shown) H) : rRepr K [V.ref u] H Q := by
  refine ⟨.ref u, lisD (ks.map (·.2)), [u], rfl, .lst (SqL.of h) (dqs_tups ks t), fun z => ?_, ?_, ?_, lis_len s, q⟩
  · have := tups_nodict (ks.map (·.2))
    simp only [lisD, PyData.hasDict] at z
    rw [this] at z
    cases z
  · simp only [lisD, PyData.showable]
    exact tups_showable _ fun l hl => (s.2 l hl).2
  · have := lis_depth (ks.map (·.2))
    omega
/-- what the reading of repr of such a list asks -/
theorem lis_in {u : Addr} {ks : List (Addr × List Int)} (h : H u = some (.lst (ks.map fun q => V.ref q.1))) (t : ∀ q ∈ ks, H q.1 = some (.tup (q.2.map V.int))) (s : Short (ks.map (·.2))) :
    Dq K H (.ref u) (lisD (ks.map (·.2))) [u] ∧ ((lisD (ks.map (·.2))).hasDict = true → sysModules ∉ [u]) ∧ (lisD (ks.map (·.2))).showable = true ∧ (lisD (ks.map (·.2))).depth ≤ 60 ∧ (lisD (ks.map (·.2))).shown.length ≤ sizeLine := by
  refine ⟨.lst (SqL.of h) (dqs_tups ks t), fun z => ?_, ?_, ?_, lis_len s⟩
  · have := tups_nodict (ks.map (·.2))
    simp only [lisD, PyData.hasDict] at z
    rw [this] at z
    cases z
  · simp only [lisD, PyData.showable]
    exact tups_showable _ fun l hl => (s.2 l hl).2
  · have := lis_depth (ks.map (·.2))
    omega
theorem dp_ints : ∀ l : List Int, DpAll K H (l.map V.int) (l.map .int)
  | [] => .nil
  | x :: l => .cons (.int x) (dp_ints l)
theorem dp_tups : ∀ ks : List (Addr × List Int), (∀ q ∈ ks, H q.1 = some (.tup (q.2.map V.int))) → DpAll K H (ks.map fun q => V.ref q.1) ((ks.map (·.2)).map tupD)
  | [], _ => .nil
  | q :: ks, h => .cons (.tup (SqT.of (h q List.mem_cons_self)) (dp_ints q.2)) (dp_tups ks fun z hz => h z (List.mem_cons_of_mem _ hz))
theorem dp_lis {u : Addr} {ks : List (Addr × List Int)} (h : H u = some (.lst (ks.map fun q => V.ref q.1))) (t : ∀ q ∈ ks, H q.1 = some (.tup (q.2.map V.int))) : Dp K H (.ref u) (lisD (ks.map (·.2))) := .lst (SqL.of h) (dp_tups ks t)
end
end Xt
/-! Own ground, part Q: lists of lists of small ints as data. -/
namespace Xq
open PySem PySem.Spec PyProof.Rows L2 Xa Xb Xc Xp Xr Xl Xk Xt
def lstD (l : List Int) : PyData := .list (l.map .int)
def llD (ls : List (List Int)) : PyData := .list (ls.map lstD)
section
theorem lsts_lay : ∀ ls : List (List Int), PyData.canLayAll0 (ls.map lstD) = true
  | [] => by simp [PyData.canLayAll0]
  | x :: l => by simp [PyData.canLayAll0, PyData.canLay0, lstD, ints_lay x, lsts_lay l]
theorem lsts_depth : ∀ ls : List (List Int), PyData.depthAll (ls.map lstD) ≤ 1
  | [] => by simp [PyData.depthAll]
  | x :: l => by
    have := lsts_depth l
    simp only [List.map_cons, PyData.depthAll, PyData.depth, lstD, ints_depth]
    omega
theorem ll_depth (ls : List (List Int)) : (llD ls).depth ≤ 2 := by
  have := lsts_depth ls
  simp only [llD, PyData.depth]
  omega
theorem lsts_nodict : ∀ ls : List (List Int), PyData.hasDictAll (ls.map lstD) = false
  | [] => by simp [PyData.hasDictAll]
  | x :: l => by simp [PyData.hasDictAll, PyData.hasDict, lstD, ints_nodict x, lsts_nodict l]
theorem ll_nodict (ls : List (List Int)) : (llD ls).hasDict = false := by simp [llD, PyData.hasDict, lsts_nodict]
theorem ll_shaped (ls : List (List Int)) : SeqAt.shaped (llD ls) = true := by
  have h1 : (llD ls).canLay0 = true := by simp [llD, PyData.canLay0, lsts_lay]
  have h2 := ll_depth ls
  have h3 : (llD ls).depth ≤ 64 := by omega
  simp [SeqAt.shaped, h1, h3]
theorem ll_eqv (ls : List (List Int)) : PyData.eqv (llD ls) (llD ls) = true := SeqAt.eqv_refl _ (by simp [llD, PyData.canLay0, lsts_lay])
/-- many short ones of bounded ints -/
def Brief (ls : List (List Int)) : Prop := ls.length ≤ 1000 ∧ ∀ l ∈ ls, l.length ≤ 3 ∧ ∀ z ∈ l, z.natAbs < 10 ^ 30
theorem lsts_showable : ∀ ls : List (List Int), (∀ l ∈ ls, ∀ z ∈ l, z.natAbs < 10 ^ 30) → PyData.showableAll (ls.map lstD) = true
  | [], _ => by simp [PyData.showableAll]
  | x :: l, h => by simp [PyData.showableAll, PyData.showable, lstD, ints_showable x (h x List.mem_cons_self), lsts_showable l fun z hz => h z (List.mem_cons_of_mem _ hz)]
theorem lsts_short : ∀ ls : List (List Int), (∀ l ∈ ls, ∀ z ∈ l, z.natAbs < 10 ^ 30) → PyData.leavesShortAll 32 (ls.map lstD) = true
  | [], _ => by simp [PyData.leavesShortAll]
  | x :: l, h => by simp [PyData.leavesShortAll, PyData.leavesShort, lstD, ints_short x (h x List.mem_cons_self), lsts_short l fun z hz => h z (List.mem_cons_of_mem _ hz)]
theorem lsts_weight : ∀ ls : List (List Int), (∀ l ∈ ls, l.length ≤ 3 ∧ ∀ z ∈ l, z.natAbs < 10 ^ 30) → PyData.weightAll (ls.map lstD) ≤ 304 * ls.length
  | [], _ => by simp [PyData.weightAll]
  | x :: l, h => by
    obtain ⟨h1, h4⟩ := h x List.mem_cons_self
    have h2 := lsts_weight l fun z hz => h z (List.mem_cons_of_mem _ hz)
    have h3 := ints_weight x h4
    simp only [List.map_cons, PyData.weightAll, List.length_cons, lstD, PyData.weight]
    omega
theorem ll_len {ls : List (List Int)} (h : Brief ls) : (llD ls).shown.length ≤ sizeLine := by
  obtain ⟨h1, h2⟩ := h
  have h3 := lsts_short ls fun l hl => (h2 l hl).2
  have h4 := lsts_weight ls h2
  have h5 := PyData.shown_le 32 (by decide) (llD ls) (by simpa [llD, PyData.leavesShort] using h3)
  have h6 : (llD ls).weight ≤ 304 * 1001 := by
    simp only [llD, PyData.weight]
    omega
  have h7 : (32 + 2) * (llD ls).weight ≤ 34 * (304 * 1001) := Nat.mul_le_mul (Nat.le_refl _) h6
  rw [sizeLine_eq]
  omega
end
section
variable {K : PySem.W.Frag} {H : Hp}
/-- at u stands a list of lists of ints -/
def LL (H : Hp) (u : Addr) (ks : List (Addr × List Int)) : Prop := H u = some (.lst (ks.map fun q => V.ref q.1)) ∧ ∀ q ∈ ks, H q.1 = some (.lst (q.2.map V.int))
theorem LL.same {H H' : Hp} (e : Same H H') {u : Addr} {ks : List (Addr × List Int)} (h : LL H u ks) : LL H' u ks := ⟨e _ _ h.1, fun q hq => e _ _ (h.2 q hq)⟩
theorem dqs_lsts : ∀ ks : List (Addr × List Int), (∀ q ∈ ks, H q.1 = some (.lst (q.2.map V.int))) → Dqs K H (ks.map fun q => V.ref q.1) ((ks.map (·.2)).map lstD) (ks.map (·.1))
  | [], _ => .nil
  | q :: ks, h => .cons (l1 := [q.1]) (.lst (ls := []) (SqL.of (h q List.mem_cons_self)) (dqs_ints q.2)) (dqs_lsts ks fun z hz => h z (List.mem_cons_of_mem _ hz))
theorem ll_in {u : Addr} {ks : List (Addr × List Int)} (h : LL H u ks) (s : Brief (ks.map (·.2))) :
    Dq K H (.ref u) (llD (ks.map (·.2))) (u :: ks.map (·.1)) ∧ ((llD (ks.map (·.2))).hasDict = true → sysModules ∉ (u :: ks.map (·.1))) ∧ (llD (ks.map (·.2))).showable = true ∧ (llD (ks.map (·.2))).depth ≤ 60 ∧ (llD (ks.map (·.2))).shown.length ≤ sizeLine := by
  refine ⟨.lst (SqL.of h.1) (dqs_lsts ks h.2), fun z => ?_, ?_, ?_, ll_len s⟩
  · rw [ll_nodict] at z
    cases z
  · simp only [llD, PyData.showable]
    exact lsts_showable _ fun l hl => (s.2 l hl).2
  · have := ll_depth (ks.map (·.2))
    omega
/-- the reading of repr of such a list -/
theorem rr_ll {u : Addr} {ks : List (Addr × List Int)} {Q : VK} (h : LL H u ks) (s : Brief (ks.map (·.2))) (q : Q (.str (llD (ks.map (·.2))).shown) H) : rRepr K [V.ref u] H Q := by
  obtain ⟨a, b, c, d, e⟩ := ll_in (K := K) h s
  exact ⟨.ref u, _, _, rfl, a, b, c, d, e, q⟩
theorem dp_lsts : ∀ ks : List (Addr × List Int), (∀ q ∈ ks, H q.1 = some (.lst (q.2.map V.int))) → DpAll K H (ks.map fun q => V.ref q.1) ((ks.map (·.2)).map lstD)
  | [], _ => .nil
  | q :: ks, h => .cons (.lst (SqL.of (h q List.mem_cons_self)) (dp_ints q.2)) (dp_lsts ks fun z hz => h z (List.mem_cons_of_mem _ hz))
theorem dp_ll {u : Addr} {ks : List (Addr × List Int)} (h : LL H u ks) : Dp K H (.ref u) (llD (ks.map (·.2))) := .lst (SqL.of h.1) (dp_lsts ks h.2)
end
end Xq
/-! Own ground: a comprehension over what is made with fresh texts (tokens told from the start). -/
namespace Yb
open PySem PySem.Spec PyProof.Rows L2
section
variable {X : Cx} {pins : List (Addr × Obj)} {s : Shared} {σ : L2.St} {H : Hp} {Q : VK} {elt tg iter : Expr} {ifs : List Expr} {scope : Scope} {own : List (Str × Nat)} {pos pos' : Pos} {wi : TI} {g : TG} {tt : TT} {te : TE} {use : Option (Value → Sem Unit)} {Qf : Value → Shared → Prop}
theorem comp_tok (hc : X.calm = true) (hN : X.N.Nodup) (h0 : 1 ≤ s.toks) (I : Inv X pins σ H s) (hi : PIT X tg iter wi) (ok : BlkOk X.N X.env.scope scope own)
    (hg : ∀ s H C cl fp, PG (X.blk s H scope (compEnvC scope cl C X.env) fp) tg g) (ht : ∀ s H C cl fp, PTs (X.blk s H scope (compEnvC scope cl C X.env) fp) ifs tt) (he : ∀ s H C cl fp, PE (X.blk s H scope (compEnvC scope cl C X.env) fp) elt te)
    (hs : ∀ x : Value, foldedSetIterable iter X.env x = pure x) (h : tLc wi g tt te (own.map (·.2)) σ H Q)
    (fin : ∀ (D C : Addr) (s' : Shared) (m : Str → Option Value) (H' : Hp), Inv X pins σ H' s' → Q (.ref D) H' → s'.heap.Ns C m → FpOk X pins H' C → compPost (model X.prog X.w) X.A X.xe use Qf (.ref D) C (.ok .next) s') :
    wpAny (model X.prog X.w) X.A (comprehension (.ListComp elt [⟨tg, iter, ifs, 0⟩] scope pos) scope X.env pos' (newList []) false (eval iter X.env) use) Qf X.xe s := by
  have hfree : ∀ y ∈ scope.names, y.2 = .free → ∃ c, X.env.cells.lookup y.1 = some c := fun y hy e => (ok.free y hy e).elim (fun k => I.ok.has y.1 (.inl k)) fun k => I.ok.has y.1 (.inr k)
  refine wpAny_comprehension_free rfl hs (closure_ok hfree) ok.kind (fun y hy e => by rw [ok.uniq y hy, e]) ?_
  refine thn (hi pins s σ H _ h0 I h) fun xv s1 hx => thn hx fun itv s2 h2 => ?_
  obtain ⟨it, fp, tn, J, H2, rfl, I2, T, st2, f2, q⟩ := h2
  refine wpAny_newObj_type ?_
  have hDn : H2 s2.heap.objs.size = none := I2.hok.fresh (Nat.le_refl _)
  obtain ⟨W, ⟨m0, w0⟩, turn⟩ := q s2.heap.objs.size hDn
  refine newEnv_comp ?_
  have I3 : Inv X pins σ (upd H2 s2.heap.objs.size (.lst [])) { s2 with heap := s2.heap.push { cls := .type "list", data := .seq #[] } } :=
    I2.laid (t' := s2.toks) (fun b o e => Heap.get?_push_of_some _ e) (Nat.le_refl _) ⟨Nat.zero_le _, [], 0, .nil, Heap.get?_push_size _ rfl⟩
  have sz : ∀ b ∈ fp, b < s2.heap.objs.size := fun b hb => by
    obtain ⟨o, e, _⟩ := T.obj 0 s2.heap st2 b hb
    exact Heap.lt_size e
  have f3 : ∀ b ∈ fp, FpOk X pins (upd H2 s2.heap.objs.size (.lst [])) b ∧ b < (s2.heap.push { cls := .type "list", data := .seq #[] }).objs.size := fun b hb => by
    have lt := sz b hb
    refine ⟨⟨by rw [upd_ne (Nat.ne_of_lt lt)]; exact (f2 b hb).1, (f2 b hb).2⟩, ?_⟩
    rw [Heap.size_push]
    exact Nat.lt_succ_of_lt lt
  have st3 : tn 0 (s2.heap.push { cls := .type "list", data := .seq #[] }) := T.keep 0 s2.heap _ st2 fun b _ o e => Heap.get?_push_of_some _ e
  have I4 := block_start I3 ok hN f3
  have st4 : tn 0 (pushCells ((s2.heap.push { cls := .type "list", data := .seq #[] }).push { cls := .type "dict", data := .dict #[] }) scope.names) := T.keep 0 _ _ st3 fun b _ o e => pushCells_keeps _ _ b o (Heap.get?_push_of_some _ e)
  have pg := hg { s2 with heap := s2.heap.push { cls := .type "list", data := .seq #[] } } (upd H2 s2.heap.objs.size (.lst [])) (s2.heap.push { cls := .type "list", data := .seq #[] }).objs.size (cellsFrom ((s2.heap.push { cls := .type "list", data := .seq #[] }).objs.size + 1) scope.names (cloFrom X.env.cells scope.names [])) fp
  have pt := ht { s2 with heap := s2.heap.push { cls := .type "list", data := .seq #[] } } (upd H2 s2.heap.objs.size (.lst [])) (s2.heap.push { cls := .type "list", data := .seq #[] }).objs.size (cellsFrom ((s2.heap.push { cls := .type "list", data := .seq #[] }).objs.size + 1) scope.names (cloFrom X.env.cells scope.names [])) fp
  have pe := he { s2 with heap := s2.heap.push { cls := .type "list", data := .seq #[] } } (upd H2 s2.heap.objs.size (.lst [])) (s2.heap.push { cls := .type "list", data := .seq #[] }).objs.size (cellsFrom ((s2.heap.push { cls := .type "list", data := .seq #[] }).objs.size + 1) scope.names (cloFrom X.env.cells scope.names [])) fp
  have nfp : ∀ b ∈ fp, (upd H2 s2.heap.objs.size (.lst [])) b = none := fun b hb => (f3 b hb).1.1
  have key : ∀ ce : Env, Inv (X.blk { s2 with heap := s2.heap.push { cls := .type "list", data := .seq #[] } } (upd H2 s2.heap.objs.size (.lst [])) scope ce fp) [] (wipe σ (own.map (·.2))) (upd H2 s2.heap.objs.size (.lst [])) { s2 with heap := pushCells ((s2.heap.push { cls := .type "list", data := .seq #[] }).push { cls := .type "dict", data := .dict #[] }) scope.names } →
      PG (X.blk { s2 with heap := s2.heap.push { cls := .type "list", data := .seq #[] } } (upd H2 s2.heap.objs.size (.lst [])) scope ce fp) tg g → PTs (X.blk { s2 with heap := s2.heap.push { cls := .type "list", data := .seq #[] } } (upd H2 s2.heap.objs.size (.lst [])) scope ce fp) ifs tt →
      PE (X.blk { s2 with heap := s2.heap.push { cls := .type "list", data := .seq #[] } } (upd H2 s2.heap.objs.size (.lst [])) scope ce fp) elt te → ce.locals = (s2.heap.push { cls := .type "list", data := .seq #[] }).objs.size →
      codeAny (model X.prog X.w) X.A (.compStart (.ListComp elt [⟨tg, iter, ifs, 0⟩] scope pos) 0 (.ref it) (.ref s2.heap.objs.size) ce) (compPost (model X.prog X.w) X.A X.xe use Qf (.ref s2.heap.objs.size) (s2.heap.push { cls := .type "list", data := .seq #[] }).objs.size)
        { s2 with heap := pushCells ((s2.heap.push { cls := .type "list", data := .seq #[] }).push { cls := .type "dict", data := .dict #[] }) scope.names } := by
    intro ce I4 pg pt pe cL
    have stat : ∀ {σ' : L2.St} {H' : Hp} {s' : Shared}, Inv (X.blk { s2 with heap := s2.heap.push { cls := .type "list", data := .seq #[] } } (upd H2 s2.heap.objs.size (.lst [])) scope ce fp) [] σ' H' s' → (∀ b ∈ fp, H' b = none) → ∀ b ∈ fp, FpOk (X.blk { s2 with heap := s2.heap.push { cls := .type "list", data := .seq #[] } } (upd H2 s2.heap.objs.size (.lst [])) scope ce fp) [] H' b :=
      fun I' hn b hb => ⟨hn b hb, (I'.ok.exf b hb).1, I'.ok.exfs b hb, .inl hb, fun x c e => (I'.ok.exf b hb).2 x c e, fun p hp => by cases hp⟩
    have loop : codeAny (model X.prog X.w) X.A (.compLoop (.ListComp elt [⟨tg, iter, ifs, 0⟩] scope pos) 0 (.ref it) (.ref s2.heap.objs.size) ce) (compPost (model X.prog X.w) X.A X.xe use Qf (.ref s2.heap.objs.size) (s2.heap.push { cls := .type "list", data := .seq #[] }).objs.size)
        { s2 with heap := pushCells ((s2.heap.push { cls := .type "list", data := .seq #[] }).push { cls := .type "dict", data := .dict #[] }) scope.names } := by
      refine compLoop_any (fun n s' => ∃ i H', Inv (X.blk { s2 with heap := s2.heap.push { cls := .type "list", data := .seq #[] } } (upd H2 s2.heap.objs.size (.lst [])) scope ce fp) [] (wipe σ (own.map (·.2))) H' s' ∧ tn i s'.heap ∧ (∀ b ∈ fp, H' b = none) ∧ W i n H') (fun n s5 a => ?_) m0 ⟨0, _, I4, st4, nfp, w0⟩
      obtain ⟨i, H5, I5, st5, n5, w5⟩ := a
      rcases turn i n H5 w5 with ⟨stop, qq⟩ | ⟨go, Nx, hNx, step⟩
      · refine thnF (T.done (X.blk { s2 with heap := s2.heap.push { cls := .type "list", data := .seq #[] } } (upd H2 s2.heap.objs.size (.lst [])) scope ce fp) rfl rfl rfl hc i [] s5 _ H5 (fun _ _ => False) I5 (stat I5 n5) st5 stop) fun r s6 z => ?_
        obtain ⟨rfl, I6⟩ := z
        have I7 : Inv X pins σ H5 s6 := I3.call' I6.os I6.base I6.hok I6.bare fun b hb => ⟨(f3 b hb).1.2.2.2.1, (f3 b hb).1.2.1, (f3 b hb).1.2.2.2.2.1, (f3 b hb).1.2.2.2.2.2⟩
        obtain ⟨m, hn, _⟩ := I6.loc
        have hn : s6.heap.Ns ce.locals m := hn
        have nC : H5 ce.locals = none := I6.free
        rw [cL] at hn nC
        exact fin _ _ s6 m H5 I7 qq hn (I3.fpOk (Nat.le_refl _) nC)
      · refine thnF (T.item (X.blk { s2 with heap := s2.heap.push { cls := .type "list", data := .seq #[] } } (upd H2 s2.heap.objs.size (.lst [])) scope ce fp) rfl rfl rfl hc i [] s5 _ H5 (fun _ _ => False) I5 (stat I5 n5) st5 go) fun r s6 z => ?_
        obtain ⟨u, rfl, h6⟩ := z
        refine thnF h6 fun _ s7 z => ?_
        obtain ⟨x, H7, I7, r7, y7, st7, n7⟩ := z
        have I7' := I7.pinned (stat I7 n7) (T.obj (i + 1) s7.heap st7)
        refine thnF (pg.run _ s7 _ H7 x u _ I7' r7 (step x H7 y7)) fun _ s8 z => ?_
        obtain ⟨σ8, H8, I8, hw8, q8⟩ := z
        refine thnF (pt.run _ s8 σ8 H8 _ I8 q8) fun b s9 z => ?_
        obtain ⟨H9, I9, q9⟩ := z
        have fin2 : ∀ {s' : Shared} {H' : Hp}, Inv (X.blk { s2 with heap := s2.heap.push { cls := .type "list", data := .seq #[] } } (upd H2 s2.heap.objs.size (.lst [])) scope ce fp) ([] ++ pinsAt fp s7.heap) σ8 H' s' → Nx H' →
            ∃ m, m < n ∧ ∃ i H', Inv (X.blk { s2 with heap := s2.heap.push { cls := .type "list", data := .seq #[] } } (upd H2 s2.heap.objs.size (.lst [])) scope ce fp) [] (wipe σ (own.map (·.2))) H' s' ∧ tn i s'.heap ∧ (∀ b ∈ fp, H' b = none) ∧ W i m H' := fun {s' H'} I' nx => by
          obtain ⟨m', hm, w'⟩ := hNx H' nx
          have pin' : ∀ b ∈ fp, ∀ o, s7.heap.get? b = some o → s'.heap.get? b = some o ∧ H' b = none := fun b hb o e => by
            have z := I'.pin (b, o) (List.mem_append_right _ (List.mem_append_right _ (mem_pinsAt hb e)))
            exact ⟨z.1, z.2.1⟩
          refine ⟨m', hm, i + 1, H', I'.unpinned.weak ?_ (fun j v e => ?_), T.keep (i + 1) s7.heap s'.heap st7 fun b hb o e => (pin' b hb o e).1, fun b hb => ?_, w'⟩
          · rw [← hw8, wipe_length]
          · rw [← hw8] at e
            exact (wipe_some e).1
          · obtain ⟨o, e, _⟩ := T.obj (i + 1) s7.heap st7 b hb
            exact (pin' b hb o e).2
        cases b with
        | false =>
          rw [if_neg Bool.false_ne_true] at q9 ⊢
          exact fin2 I9 q9
        | true =>
          rw [if_pos rfl] at q9 ⊢
          refine thnF (pe.run _ s9 σ8 H9 _ I9 q9) fun yv s10 z => ?_
          obtain ⟨y, H10, I10, r10, acc, hD10, hz10, nx⟩ := z
          exact app_ok (X := (X.blk { s2 with heap := s2.heap.push { cls := .type "list", data := .seq #[] } } (upd H2 s2.heap.objs.size (.lst [])) scope ce fp)) I10 hD10 hz10 r10 fun s11 I11 => fin2 I11 nx
    exact codeAny_compStart_list loop (T.self X.A 0 _ _ _ st4 loop)
  exact key _ I4 pg pt pe rfl
theorem pet_lc (hc : X.calm = true) (hN : X.N.Nodup) (hi : PIT X tg iter wi) (ok : BlkOk X.N X.env.scope scope own)
    (hg : ∀ s H C cl fp, PG (X.blk s H scope (compEnvC scope cl C X.env) fp) tg g) (ht : ∀ s H C cl fp, PTs (X.blk s H scope (compEnvC scope cl C X.env) fp) ifs tt) (he : ∀ s H C cl fp, PE (X.blk s H scope (compEnvC scope cl C X.env) fp) elt te)
    (hs : ∀ x : Value, foldedSetIterable iter X.env x = pure x := by intro _; rfl) : PET X (.ListComp elt [⟨tg, iter, ifs, 0⟩] scope pos) (tLc wi g tt te (own.map (·.2))) := by
  intro pins s σ H Q h0 I h
  rw [eval_ListComp]
  refine comp_tok hc hN h0 I hi ok hg ht he hs h fun D C s' m H' I' q hn f => ⟨m, hn, fun h'' sb => ⟨.ref D, H', ?_, rfl, q⟩⟩
  obtain ⟨f0, f1, f2, f3, f4, f5⟩ := f
  exact I'.turned (fun b o hb e => (sb.2 b hb).trans e) f0 f1 f3 f4 f5
theorem pst_setLc {i : Nat} {y : Str} {py spos : Pos} (hc : X.calm = true) (hN : X.N.Nodup) (hy : X.N[i]? = some y) (hyl : X.env.scope.names.lookup y = some .local)
    (hsw : swapsWith (.ListComp elt [⟨tg, iter, ifs, 0⟩] scope pos) (some (.Name y py)) spos.line X.env = pure true) (hi : PIT X tg iter wi) (ok : BlkOk X.N X.env.scope scope own)
    (hg : ∀ s H C cl fp, PG (X.blk s H scope (compEnvC scope cl C X.env) fp) tg g) (ht : ∀ s H C cl fp, PTs (X.blk s H scope (compEnvC scope cl C X.env) fp) ifs tt) (he : ∀ s H C cl fp, PE (X.blk s H scope (compEnvC scope cl C X.env) fp) elt te)
    (hs : ∀ x : Value, foldedSetIterable iter X.env x = pure x := by intro _; rfl) : PST X (.Assign [.Name y py] (.ListComp elt [⟨tg, iter, ifs, 0⟩] scope pos) spos) (tAsg (tLc wi g tt te (own.map (·.2))) (gName i)) := by
  intro pins s σ H D h0 I h
  rw [exec_Assign_Name_used y py _ spos hsw]
  refine wpAny_bind (wpAny_standAt (wpAny_bind ?_))
  refine wpAny_bind (thn (comp_tok hc hN h0 I hi ok hg ht he hs h fun L C s' m H' I' q hn f => ?_) fun _ s' hq => wpAny_pure (wpAny_pure hq))
  refine wpAny_assign_Name (store_ok2 (v := .ref L) I' hN hy (.inl hyl) rfl (fun s2 I2 z => ?_) (.inr hyl))
  obtain ⟨a, sb, ha⟩ := z
  obtain ⟨f0, f1, f2, f3, f4, f5⟩ := f
  have haC : C ≠ a := ha.elim (fun z => by rw [z]; exact f1) fun z e => f4 y a z e.symm
  exact ⟨m, hn.sameBut sb haC, fun h3 sb3 => ⟨_, H', I2.turned (fun b o hb e => (sb3.2 b hb).trans e) f0 f1 f3 f4 f5, q⟩⟩
end
end Yb
/-! Own ground: split of fresh texts, a text turned round, enumerate over a text. -/
namespace Yc
open PySem PySem.Spec PyProof.Rows L2
section
variable {X : Cx} {o e : Expr} {to te : TE} {apos pos : Pos}
/-- o.split(e), o told with tokens -/
theorem pet_split (ho : PET X o to) (he : PE X e te) (hs : starEach [e] X.env = [(false, eval e X.env)] := by rfl) (hb : attributeBase o "split" X.env (eval o X.env) = eval o X.env := by rfl) (hl : (apos.endLine == pos.line) = true := by rfl) :
    PET X (.Call (.Attribute o "split" apos) [e] [] pos) (tM1 (fun x xs H Q => ∃ a b, x = .str a ∧ xs = [.str b] ∧ (b.length == 0) = false ∧ a.length + 2 ≤ sizeLine ∧ rNewStrs (Txt.split a b) H Q) to te) := by
  intro pins s σ H Q h0 I h
  refine Call_method1 hb hs hl (thn (ho pins s σ H _ h0 I h) fun v s1 z => ?_)
  obtain ⟨x, H1, I1, r1, ⟨a, rfl⟩, q1⟩ := z
  obtain ⟨t, rfl⟩ := r1
  refine ⟨"str", _, PySem.F.plainAttrs_str, PySem.F.slot_str_split, PySem.F.type_str_split, typeIs_str s1 a t, (fun x e => nomatch e), ?_⟩
  refine Calls.callWith_builtin (args := [(false, eval e X.env)]) rfl (Calls.evalArgs_plain (Calls.spliced_cons (thn (he.run pins s1 σ H1 _ I1 q1) fun u s2 z => ?_)))
  obtain ⟨y, H2, I2, r2, q2⟩ := z
  exact Calls.spliced_nil (mt_split pins s2 σ H2 (.str a) [y] (.str a t) [u] Q I2 ⟨t, rfl⟩ (.cons r2 .nil) q2)
/-- a text from its end: told by its length alone -/
def tRevS (te : TE) : TE := fun σ H Q => te σ H fun x H1 => ∃ z : Str, x = .str z ∧ z.length ≤ 16777216 ∧ ∀ y : Str, y.length ≤ z.length → (∀ c ∈ y.cps.toList, c ∈ z.cps.toList) → Q (.str y) H1
theorem rev_len (z : Str) : (Builtin.Str.strSliceIndices none none (-1) z.length).length ≤ z.length := by
  unfold Builtin.Str.strSliceIndices sliceRange
  simp only [List.length_map, List.length_range]
  have h1 : ¬ ((-1 : Int) > 0) := by decide
  simp only [h1, if_false]
  split
  · have e : ((z.length : Int) - 1 - -1 - -1 - 1) / - -1 = z.length := by
      show ((z.length : Int) - 1 - -1 - -1 - 1) / 1 = _
      rw [Int.ediv_one]
      omega
    rw [e]
    omega
  · exact Nat.zero_le _
theorem pe_revS {k : Nat} {p1 p2 p3 : Pos} (he : PE X e te) : PE X (.Subscript e (.Slice none none (some (.UnaryOp .USub (.Constant (.int 1) k p1) p2)) p3) pos) (tRevS te) := by
  refine ⟨fun pins s σ H Q I h => PyProof.Rows.Subscript_ (thn (he.run pins s σ H _ I h) fun v s1 z => ?_)⟩
  obtain ⟨x, H1, I1, r1, z, rfl, zl, q⟩ := z
  obtain ⟨t, rfl⟩ := r1
  refine wpAny_Slice ?_
  rw [evalPart_none]
  refine wpAny_pure (wpAny_pure ?_)
  have hst := po_some (X := X) (pe_un un_neg (pe_int (X := X) (i := 1) (j := k) (pos := p1)) (pos := p2))
  refine thn (hst.run pins s1 σ H1 (fun o H4 => o = some (-1) ∧ H4 = H1) I1 ⟨1, rfl, -1, rfl, rfl, rfl⟩) fun vs s4 w => ?_
  obtain ⟨o, H4, I4, ps, rfl, rfl⟩ := w
  obtain ⟨tv, rfl⟩ : ∃ tv, vs = .int (-1) tv := by
    cases ps
    exact ⟨_, rfl⟩
  have I5 : Inv X pins σ H4 { s4 with heap := s4.heap.push { cls := .type "slice", data := .fields #[.none, .none, .int (-1) tv] } } := I4.kept fun b ob q => Heap.get?_push_of_some _ q
  have sl : (s4.heap.push { cls := .type "slice", data := .fields #[.none, .none, .int (-1) tv] }).IsSlice s4.heap.objs.size none none (some (-1, tv)) := ⟨_, Heap.get?_push_size _ rfl, rfl, rfl⟩
  refine tail_any (typeIs_str _ z t) PySem.F.slot_str_getitem.lookup (wpAny_getItem_str_slice sl (by rfl) ?_) rfl
  have len : ((slicePicked z none none (some (-1, tv))).filterMap fun i => z.cps[i]?).length ≤ z.length := Nat.le_trans (List.length_filterMap_le _ _) (rev_len z)
  unfold sliceMade
  rw [if_neg (by simp)]
  refine ⟨Nat.le_trans ?_ zl, .str _, H4, I5.tok _, ⟨_, rfl⟩, q _ ?_ fun c hc => ?_⟩
  · show (List.toArray _).size ≤ _
    rw [List.size_toArray]
    exact len
  · show (List.toArray _).size ≤ _
    rw [List.size_toArray]
    exact len
  · have hc : c ∈ (slicePicked z none none (some (-1, tv))).filterMap fun i => z.cps[i]? := hc
    obtain ⟨i, _, e⟩ := List.mem_filterMap.mp hc
    exact Array.mem_toList_iff.mpr (Array.mem_of_getElem? e)
/-! ### enumerate(text) -/
def Iten (z : Str) : It := ⟨fun i _ => i < z.cps.size, fun i H v H' => ∃ T c, v = .ref T ∧ H T = none ∧ z.cps[i]? = some c ∧ H' = upd H T (.tup [.int (i : Int), .str ⟨#[c]⟩]), fun i _ => z.cps.size ≤ i⟩
theorem strIter_or (z : Str) : strIterType z = "str_ascii_iterator" ∨ strIterType z = "str_iterator" := by
  unfold strIterType
  split
  · exact .inl rfl
  · exact .inr rfl
theorem draws_str {P : Program} {w : World} {A : Around} (h : A.handled = none) (it : Addr) (z : Str) (t : Tok) : Draws P w A it [it] z.cps.size (fun i v => ∃ c u, z.cps[i]? = some c ∧ v = .str ⟨#[c]⟩ u) fun i h => h.IsStrIter it (strIterType z) z t i := by
  rcases strIter_or z with e | e
  · rw [e]
    exact Draws.strAscii h it z t
  · rw [e]
    exact Draws.strWide h it z t
theorem turn_enumS {P : Program} {w : World} {K : PySem.W.Frag} {elts : List Expr} {kk : Nat} {tpos : Pos} (e it : Addr) (z : Str) (t : Tok) (ne : e ≠ it) :
    Turn P w K (.Tuple elts kk tpos) (Iten z) [e, it] e fun i h => i ≤ z.cps.size ∧ (∃ old, IsEnum h e it (i : Int) old) ∧ h.IsStrIter it (strIterType z) z t i := by
  have WT : ∀ A : Around, A.handled = none → _ := fun A hA => WalksT.enumerateD (draws_str (P := P) (w := w) (A := A.in1) hA it z t) e ne (by simpa using ne) (by simp)
  refine ⟨by simp, fun i h st b hb => ?_, fun i h h' st k => ?_, fun X hP hw hK hc i pins s σ H E I hf st hg => ?_, fun X hP hw hK hc i pins s σ H E I hf st hg => ?_, fun A i s Q E st h => ?_⟩
  · obtain ⟨_, ⟨old, he⟩, o, ho, hcl, hd⟩ := st
    rcases (by simpa using hb : b = e ∨ b = it) with rfl | rfl
    · exact ⟨_, he, fun v q => nomatch q⟩
    · exact ⟨o, ho, fun v q => by rw [hd] at q; cases q⟩
  · obtain ⟨hi, ⟨old, he⟩, o, ho, r⟩ := st
    exact ⟨hi, ⟨old, k e (by simp) _ he⟩, o, k it (by simp) o ho, r⟩
  · subst hP hw
    have W := WT X.A (I.ok.hd hc)
    refine W.item i s _ E hg st.2 fun T vals h' tk hv hT ht hm hk => ⟨_, rfl, W.go elts kk tpos i T _ _ E hm fun h'' st2 hk2 => ?_⟩
    obtain ⟨tv, x, ⟨c, u, hc2, rfl⟩, rfl⟩ := hv
    obtain ⟨_, _, Te, Ti⟩ := hm
    have lt : ∀ b ∈ [e, it], b < s.heap.objs.size := fun b hb => by
      obtain ⟨_, ⟨old, he⟩, o, ho, _⟩ := st
      rcases (by simpa using hb : b = e ∨ b = it) with rfl | rfl
      · exact Heap.lt_size he
      · exact Heap.lt_size ho
    obtain ⟨ot, e1, e2, n, e3⟩ := ht
    have hT2 : h''.get? T = some ot := hk2 T ot (by simp [Te, Ti]) e1
    have new : ObjOk X.prog X.w (upd H T (.tup [.int (i : Int), .str ⟨#[c]⟩])) h'' T (.tup [.int (i : Int), .str ⟨#[c]⟩]) := ⟨(by show 2 ≤ sizeLine; decide), [.int i tv, .str ⟨#[c]⟩ u], .cons ⟨tv, rfl⟩ (.cons ⟨u, rfl⟩ .nil), ot, hT2, e2, n, e3⟩
    have I1 := I.turnedNew (t' := tk) (h' := h'') (ch := [e, it]) (fun b ob hb q => hk2 b ob hb (hk b ob hb q)) hf hT new
    refine ⟨.ref T, _, I1, rfl, ⟨T, c, rfl, I.hok.fresh hT, hc2, rfl⟩, ⟨hg, st2⟩, fun b hb => ?_⟩
    rw [upd_ne (Nat.ne_of_lt (Nat.lt_of_lt_of_le (lt b hb) hT))]
    exact (hf b hb).1
  · subst hP hw
    have W := WT X.A (I.ok.hd hc)
    have ei : i = z.cps.size := Nat.le_antisymm st.1 hg
    subst ei
    have lt : ∀ b ∈ [e, it], FpOk X pins H b := hf
    refine W.done s _ E st.2 fun h' tk hk => ⟨rfl, ?_⟩
    exact I.turnedL hk hf
  · obtain ⟨_, ⟨old, he⟩, _⟩ := st
    exact wpAny_pyIter_enum he h
def iEnumS (ta : TA) : TI := fun σ H R => ta σ H fun vs H1 => ∃ z, vs = [.str z] ∧ R (Iten z) H1
theorem pi_enumS {X : Cx} {e : Expr} {ta : TA} {p pos tpos : Pos} {elts : List Expr} {kk : Nat} (hg : Gl X "enumerate") (hm : X.mg "enumerate" = none) (ha : PA X [e] ta) (hs : starEach [e] X.env = [(false, eval e X.env)] := by rfl) :
    PI X (.Tuple elts kk tpos) (.Call (.Name "enumerate" p) [e] [] pos) (iEnumS ta) := by
  refine ⟨fun pins s σ H R I h => PyProof.Rows.Call_ (ld_blt I hg hm boot_enumerate (callWith_type1 (thn (ha.run pos pins s σ H _ I h) fun us s1 z => ?_) hs rfl) (by decide) (by decide))⟩
  obtain ⟨vs, H1, I1, r1, z, rfl, q⟩ := z
  cases r1 with
  | @cons _ u _ us r rr =>
    cases rr
    obtain ⟨t, rfl⟩ := r
    refine call_enumerate_str fun h' he hit hsz hk => wpAny_pyIter_enum he ⟨s1.heap.objs.size + 1, [s1.heap.objs.size + 1, s1.heap.objs.size], _, Iten z, H1, rfl, I1.kept hk, turn_enumS _ _ z t (Nat.succ_ne_self _), ⟨Nat.zero_le _, ⟨_, he⟩, hit⟩, fun b hb => ?_, q⟩
    rcases (by simpa using hb : b = s1.heap.objs.size + 1 ∨ b = s1.heap.objs.size) with rfl | rfl
    · exact I1.fpOk (Nat.le_succ _) (I1.hok.fresh (Nat.le_succ _))
    · exact I1.fpOk (Nat.le_refl _) (I1.hok.fresh (Nat.le_refl _))
theorem walk_enumS {z : Str} : Walk (Iten z) z.cps.size (fun _ => True) (fun i H v H' => ∃ T c, v = .ref T ∧ H T = none ∧ z.cps[i]? = some c ∧ H' = upd H T (.tup [.int (i : Int), .str ⟨#[c]⟩])) :=
  ⟨fun i H h _ => h, fun H _ => Nat.le_refl _, fun i H x H' _ _ y => y⟩
end
end Yc
/-! Own ground: defs whose bodies want tokens told. -/
namespace Yd
open PySem PySem.Spec PyProof.Rows L2 Xa
/-- as FnG, called where a token has been given out -/
structure FnT (P : Program) (w : World) (K : PySem.W.Frag) (mg : Str → Option Value) (base : Heap) (lev : Nat) (at_ : Addr) (fd : FuncData) (ps : List Str) (pr : Sp) : Prop where
  size : ∀ xs H Q E, pr xs H Q E → xs.length = ps.length
  go : ∀ (A : Around) (out : List Env) (st : Shared) (H : Hp) (ar : Args) (us : List Value) (xs : List V) (Q : VK) (E : XK), 1 ≤ st.toks → Room lev A → NoRep A →
    Env0 P w K mg base A out st H → BindsTo st fd ar (ps.zip us) → Vals xs us → pr xs H Q E → codeAny (model P w) A (.call (.ref at_) ar) (CR CX0 out P w H st Q E) st
def CanT (P : Program) (w : World) (K : PySem.W.Frag) (mg : Str → Option Value) (base : Heap) (lev : Nat) (x : Str) (ps : List Str) (pr : Sp) : Prop :=
  ∃ (f : Addr) (fd : FuncData), FnT P w K mg base lev f fd ps pr ∧ mg x = some (.ref f) ∧ PySem.W.keepIn K (.ref f) = true ∧ Binds K fd ps []
section
variable {P : Program} {w : World} {K : PySem.W.Frag} {mg : Str → Option Value} {base : Heap} {x qual : Str} {params : Arguments} {body : List Stmt} {scope : Scope} {dvs : List V} {kws : List (Str × V)} {at_ : Addr} {fd : FuncData}
theorem okT {N ps : List Str} {lev : Nat} {pr : Sp} (F : FunD K x qual params body scope dvs kws at_ fd) (S : FnScope N ps scope) (size : ∀ xs H Q E, pr xs H Q E → xs.length = ps.length)
    (hb : ∀ (cdv : Value) (A : Around) (out : List Env) (st : Shared) (H : Hp) (xs : List V) (Q : VK) (E : XK), Room lev (A.deeper (envOfC qual scope st.heap.objs.size at_ cdv)) → NoRep (A.deeper (envOfC qual scope st.heap.objs.size at_ cdv)) → pr xs H Q E →
      ∃ t, PSsT (cxOf CX0 P w K mg base N qual scope at_ cdv A out st H E) body t ∧ t { nx := fun _ H' => Q .non H', rt := Q } (start N xs) H) : FnT P w K mg base (lev + 1) at_ fd ps pr := by
  obtain ⟨oc, od, dV, kV, doc, pm, an, cdv, ct, osl, rfl, lk, hcd, _, _⟩ := F.ex
  refine ⟨size, fun A out st H ar us xs Q E h0 hr hn e0 bnd rel hp => ?_⟩
  have sz := size _ _ _ _ hp
  have inK : K.In st.heap := e0.mod.kin.keeps fun b o z => (e0.bs b o z).1
  have noLim : st.heap.NoLimit := e0.mod.nolimit.keeps fun b o z => (e0.bs b o z).1
  refine codeAny_call_function hr.depth (inK _ _ lk) rfl S.co S.gen rfl (PySem.W.codeRec_of inK hcd) (bnd _ _ _ _ ?_)
  refine wpAny_with_toks h0 ?_
  refine wpAny_newFunctionEnv_cells S.kind (fun ⟨n, v⟩ hy => ?_) fun env he s1 ic t1 => ?_
  · exact (S.par n (List.of_mem_zip hy).1).elim .inl fun z => .inr ⟨z, PySem.W.cellsFrom_some _ _ _ (.inl z)⟩
  subst he
  refine ⟨noLim.keeps ic.toInCall.keep, codeAny_func ?_⟩
  obtain ⟨t, ht, hq⟩ := hb cdv A out st H xs Q E (hr.deeper _) (hn.deeper _) hp
  have I : Inv (cxOf CX0 P w K mg base N qual scope at_ cdv A out st H E) [] (start N xs) H s1 := inv_start S hr.hd e0 sz rel ic
  refine wpAny_mono (ht [] s1 (start N xs) H _ t1 I hq) (fun fl s2 hs => ?_) fun e s2 hs => hs
  cases fl with
  | ret u => exact let ⟨v, _, H', J, rv, q⟩ := hs; ⟨v, H', J.os, J.bare, J.base, J.hok, rv, q⟩
  | next => exact let ⟨_, H', J, q⟩ := hs; ⟨V.non, H', J.os, J.bare, J.base, J.hok, rfl, q⟩
  | brk => exact let ⟨_, _, _, q⟩ := hs; False.elim q
  | cont => exact let ⟨_, _, _, q⟩ := hs; False.elim q
theorem okGT {N ps : List Str} {lev : Nat} {pr : Sp} (F : FunD K x qual params body scope dvs kws at_ fd) (S : FnScope N ps scope) (hnc : ∀ y ∈ scope.names, y.2 ≠ NameKind.cell) (one : 1 ≤ ps.length) (size : ∀ xs H Q E, pr xs H Q E → xs.length = ps.length)
    (hb : ∀ (cdv : Value) (A : Around) (out : List Env) (st : Shared) (H : Hp) (xs : List V) (Q : VK) (E : XK), Room lev (A.deeper (envOfC qual scope st.heap.objs.size at_ cdv)) → NoRep (A.deeper (envOfC qual scope st.heap.objs.size at_ cdv)) → pr xs H Q E →
      ∃ t, PSsT (cxOf CX0 P w K mg base N qual scope at_ cdv A out st H E) body t ∧ t { nx := fun _ H' => Q .non H', rt := Q } (start N xs) H) : FnG P w K mg base (lev + 1) at_ fd ps pr := by
  obtain ⟨oc, od, dV, kV, doc, pm, an, cdv, ct, osl, rfl, lk, hcd, _, _⟩ := F.ex
  refine ⟨size, fun A out st H ar us xs Q E hr hn e0 bnd rel hp => ?_⟩
  have sz := size _ _ _ _ hp
  have hul : us.length = ps.length := by rw [← rel.length]; exact sz
  have inK : K.In st.heap := e0.mod.kin.keeps fun b o z => (e0.bs b o z).1
  have noLim : st.heap.NoLimit := e0.mod.nolimit.keeps fun b o z => (e0.bs b o z).1
  have hloc : ∀ y ∈ ps.zip us, scope.names.lookup y.1 = some .local := fun ⟨n, v⟩ hy => (S.par n (List.of_mem_zip hy).1).elim id fun q => absurd rfl (hnc (n, .cell) (mem_of_lookup q))
  refine codeAny_call_function hr.depth (inK _ _ lk) rfl S.co S.gen rfl (PySem.W.codeRec_of inK hcd) (bnd _ _ _ _ ?_)
  refine wpAny_newFunctionEnv hnc hloc (fun h1 hns hsb => ?_) S.kind
  have hz : (ps.zip us).length = ps.length := by rw [List.length_zip, hul, Nat.min_self]
  have keep : ∀ b o, st.heap.get? b = some o → h1.get? b = some o := fun b o e => hsb.extBut b o (Nat.ne_of_lt (Heap.lt_size e)) (Heap.get?_push_of_some _ e)
  have hcl := cells_none scope.names (st.heap.objs.size + 1) [] hnc
  have hm : bindL (envOfC qual scope st.heap.objs.size at_ cdv).kindOf (ps.zip us) (fun _ => none) = fun y => List.lookup y (ps.zip us).reverse := by
    funext y
    rw [bindL_loc (ps.zip us) (fun _ => none) hloc y]
    cases List.lookup y (ps.zip us).reverse <;> rfl
  have ic : InCallC st st.heap.objs.size (bindL (envOfC qual scope st.heap.objs.size at_ cdv).kindOf (ps.zip us) fun _ => none) (cellsFrom (st.heap.objs.size + 1) scope.names []) (bindC (envOfC qual scope st.heap.objs.size at_ cdv).kindOf (ps.zip us) fun _ => none) { st with heap := h1, toks := st.toks + (ps.zip us).length } := by
    rw [hm, hcl]
    refine ⟨⟨⟨h1, _, rfl⟩, hns, keep, Nat.le_refl _⟩, ?_, ?_, ?_⟩
    · intro n c hc
      cases hc
    · exact .nil
    · intro n c hc
      cases hc
  have henv : newEnv scope st.heap.objs.size mainGlobals [] (qual ++ ".<locals>.") (some at_) cdv none builtinsNs = envOfC qual scope st.heap.objs.size at_ cdv := by
    unfold envOfC
    rw [hcl]
    rfl
  show _ ∧ codeAny (model P w) A (.func body (newEnv scope st.heap.objs.size mainGlobals [] (qual ++ ".<locals>.") (some at_) cdv none builtinsNs)) _ _
  rw [henv]
  refine ⟨noLim.keeps keep, codeAny_func ?_⟩
  obtain ⟨t, ht, hq⟩ := hb cdv A out st H xs Q E (hr.deeper _) (hn.deeper _) hp
  have I : Inv (cxOf CX0 P w K mg base N qual scope at_ cdv A out st H E) [] (start N xs) H _ := inv_start S hr.hd e0 sz rel ic
  refine wpAny_mono (ht [] _ (start N xs) H _ (by show 1 ≤ st.toks + (ps.zip us).length; omega) I hq) (fun fl s2 hs => ?_) fun e s2 hs => hs
  cases fl with
  | ret u => exact let ⟨v, _, H', J, rv, q⟩ := hs; ⟨v, H', J.os, J.bare, J.base, J.hok, rv, q⟩
  | next => exact let ⟨_, H', J, q⟩ := hs; ⟨V.non, H', J.os, J.bare, J.base, J.hok, rfl, q⟩
  | brk => exact let ⟨_, _, _, q⟩ := hs; False.elim q
  | cont => exact let ⟨_, _, _, q⟩ := hs; False.elim q
end
section
variable {X : Cx} {lev : Nat} {x : Str} {ps : List Str} {pr : Sp} {p pos : Pos} {e : Expr} {es : List Expr} {ta : TA} {te : TE}
theorem PAT.of (h : PA X es ta) : PAT X es ta := fun pos pins s σ H Q _ I q => h.run pos pins s σ H Q I q
theorem pet_canT (c : CanT X.prog X.w X.K X.mg X.base lev x ps pr) (hr : Room lev X.A) (hn : NoRep X.A) (ha : PA X (e :: es) ta) (hg : Gl X x := by rfl) (hdb : (x == ("__debug__" : Str)) = false := by decide)
    (he : starEach (e :: es) X.env = (false, eval e X.env) :: starEach es X.env := by rfl) (hpl : (backTo pos (starEach es X.env)).any (·.1) = false := by rfl) : PET X (.Call (.Name x p) (e :: es) [] pos) (tCall pr [] E0 ta) := by
  obtain ⟨f, fd, G, hm, kp, hb⟩ := c
  intro pins st σ H Q h0 I h
  refine wpAny_Call_Name_kw (ld_glob I hg hm ?_ hdb)
  refine PySem.W.callWith_K (h₀ := X.base) I.ok.mod.kin kp (wpAny_mono (wpAny_toks_of h0 (ha.run pos pins st σ H _ I h)) (fun us s1 z => ?_) fun _ _ z => z.2) he hpl
  obtain ⟨t1, xs, H1, I1, rel, q⟩ := z
  refine ⟨I1.kIn, ?_⟩
  have q : pr xs H1 Q E0 := by rw [← List.append_nil xs]; exact q
  have sz : us.length = ps.length := by rw [← rel.length]; exact G.size _ _ _ _ q
  have bnd := hb s1 us I1.kIn (by rw [List.append_nil]; exact sz)
  rw [List.append_nil] at bnd
  refine wpAny_call (codeAny_mono (G.go X.A X.stack s1 H1 ⟨us, []⟩ us xs Q E0 t1 hr hn I1.env0 bnd rel q) fun r s2 hq => ?_)
  cases r with
  | error er => exact False.elim hq
  | ok fl =>
    cases fl with
    | ret u => exact I1.after hq
    | next => exact False.elim hq
    | brk => exact False.elim hq
    | cont => exact False.elim hq
theorem pet_tup {x1 : Nat} (h : PAT X es ta) : PET X (.Tuple es x1 pos) (tTup ta) := by
  intro pins s σ H Q h0 I hq
  refine wpAny_Tuple_spliced (thn (h pos pins s σ H _ h0 I hq) fun us s1 z => ?_)
  obtain ⟨xs, H1, I1, r, z, q⟩ := z
  refine ⟨by rw [← r.length]; exact z, .ref s1.heap.objs.size, upd H1 s1.heap.objs.size (.tup xs), I1.laid (t' := s1.toks) (fun b u e => Heap.get?_push_of_some _ e) (Nat.le_refl _) ⟨z, us, r, _, Heap.get?_push_size _ rfl, rfl, 0, rfl⟩, rfl, q _ (I1.hok.fresh (Nat.le_refl _))⟩
theorem pst_asg {tg e : Expr} {g : TG} (he : PET X e te) (hg : PG X tg g) (hs : swapsWithSole [tg] e pos.line X.env = pure false := by rfl) (hw : swappedStores [tg] e X.env = pure none := by rfl) (h1 : (assignEach [tg] X.env).map (·.2) = [assign tg X.env] := by rfl) :
    PST X (.Assign [tg] e pos) (tAsg te g) := by
  intro pins s σ H D h0 I h
  refine wpAny_Assign_stores (thn (he pins s σ H _ h0 I h) fun v s1 z => ?_) hs hw
  obtain ⟨x, H1, I1, r1, q1⟩ := z
  rw [h1]
  exact thn (hg.run pins s1 σ H1 x v D.nx I1 r1 q1) fun _ s2 q => q
end
section
variable {K : PySem.W.Frag} {x qual : Str} {params : Arguments} {body : List Stmt} {scope : Scope} {f : Addr} {fd : FuncData} {P : Program} {w : World} {mg : Str → Option Value} {base : Heap} {lev : Nat} {ps : List Str} {pr : Sp}
theorem FnT.can (F : FnT P w K mg base lev f fd ps pr) (D : FunD K x qual params body scope [] [] f fd) (g : mg x = some (.ref f))
    (b : ∀ (kV doc pm : Value) (an : Option Addr) (cdv ct : Value) (us : List Value), us.length = ps.length → bindArgs (PySem.W.fnOf x qual params body scope .none kV doc pm an cdv ct) ⟨us, []⟩ = pure (ps.zip us)) : CanT P w K mg base lev x ps pr := ⟨f, fd, F, g, D.kp, D.bindsN b⟩
theorem FunD.okF {CX : CXT} {N : List Str} (F : FunD K x qual params body scope [] [] f fd) (S : FnScope N ps scope) (hnc : ∀ y ∈ scope.names, y.2 ≠ NameKind.cell) (one : 1 ≤ ps.length) (len : ∀ vs H Q E, pr vs H Q E → vs.length = ps.length)
    (hb : ∀ (cdv : Value) (A : Around) (outer : List Env) (s : Shared) (H : Hp) (vs : List V) (Q : VK) (E : XK), Room lev (A.deeper (envOfC qual scope s.heap.objs.size f cdv)) → pr vs H Q E →
      ∃ t, PSsT (cxOf CX P w K mg base N qual scope f cdv A outer s H E) body t ∧ t { nx := fun _ H' => Q .non H', rt := Q } (start N vs) H) : FnOk P w K mg base CX (lev + 1) f fd ps pr := by
  obtain ⟨oc, od, dV, kV, doc, pm, an, cdv, ct, osl, rfl, lk, hcd, _, _⟩ := F.ex
  exact fn_ofT lk hcd S hnc one len fun A outer s H vs Q E hr h => hb cdv A outer s H vs Q E hr h
end
end Yd
/-! Own ground: the words of a text, sign by sign. -/
namespace Ya
open PySem
/-- the text with blanks in the places of line ends -/
def flat (z : Str) : Str := Txt.replace z ⟨#[10]⟩ ⟨#[32]⟩
/-- all parts between blanks -/
def partsOf (z : Str) : List Str := Txt.split (flat z) ⟨#[32]⟩
def full (w : Str) : Bool := !decide (w = Str.empty)
def wdsOf (z : Str) : List Str := (partsOf z).filter full
abbrev sg (z : Str) : List Nat := z.cps.toList
theorem sg_append (x y : Str) : sg (x ++ y) = sg x ++ sg y := by
  show (x.cps ++ y.cps).toList = _
  rw [Array.toList_append]
theorem mem_join {g : Str} {c : Nat} : ∀ {ps : List Str}, c ∈ sg (Str.join g ps) → c ∈ sg g ∨ ∃ p ∈ ps, c ∈ sg p
  | [], h => by
    have h : c ∈ ([] : List Nat) := h
    cases h
  | [p], h => .inr ⟨p, List.mem_cons_self, h⟩
  | p :: q :: r, h => by
    have h : c ∈ sg (p ++ g ++ Str.join g (q :: r)) := h
    rw [sg_append, sg_append, List.mem_append, List.mem_append] at h
    rcases h with (h | h) | h
    · exact .inr ⟨p, List.mem_cons_self, h⟩
    · exact .inl h
    · rcases mem_join h with h | ⟨s, hs, h⟩
      · exact .inl h
      · exact .inr ⟨s, List.mem_cons_of_mem _ hs, h⟩
theorem join_mem {g : Str} {c : Nat} : ∀ {ps : List Str} {p : Str}, p ∈ ps → c ∈ sg p → c ∈ sg (Str.join g ps)
  | [], p, h, _ => nomatch h
  | [q], p, h, hc => by
    obtain rfl : p = q := by simpa using h
    exact hc
  | q :: s :: r, p, h, hc => by
    show c ∈ sg (q ++ g ++ Str.join g (s :: r))
    rw [sg_append, sg_append, List.mem_append, List.mem_append]
    rcases List.mem_cons.mp h with rfl | h
    · exact .inl (.inl hc)
    · exact .inr (join_mem h hc)
theorem len_join (g : Str) : ∀ (ps : List Str), (sg (Str.join g ps)).length + (sg g).length = (ps.map fun p => (sg p).length).sum + ps.length * (sg g).length + (if ps = [] then (sg g).length else 0)
  | [] => by
    show ([] : List Nat).length + _ = _
    simp
  | [p] => by
    show (sg p).length + _ = _
    simp
  | p :: q :: r => by
    have ih := len_join g (q :: r)
    have e : sg (Str.join g (p :: q :: r)) = sg p ++ sg g ++ sg (Str.join g (q :: r)) := by
      show sg (p ++ g ++ Str.join g (q :: r)) = _
      rw [sg_append, sg_append]
    rw [e, List.length_append, List.length_append, List.map_cons, List.sum_cons, List.length_cons (as := q :: r), Nat.add_mul, Nat.one_mul]
    simp only [reduceCtorEq, if_false] at ih ⊢
    omega
theorem flat_eq (z : Str) : flat z = Str.join ⟨#[32]⟩ (Txt.split z ⟨#[10]⟩) := StrLaws.replace_one z _ 10
theorem flat_len (z : Str) : (flat z).length = z.length := by
  have a := len_join ⟨#[32]⟩ (Txt.split z ⟨#[10]⟩)
  have b := len_join ⟨#[10]⟩ (Txt.split z ⟨#[10]⟩)
  rw [StrLaws.join_split] at b
  rw [← flat_eq] at a
  have e1 : (sg ⟨#[32]⟩).length = 1 := rfl
  have e2 : (sg ⟨#[10]⟩).length = 1 := rfl
  rw [e1] at a
  rw [e2] at b
  have : (sg (flat z)).length = (sg z).length := by omega
  simpa [Str.length] using this
theorem mem_flat {z : Str} {c : Nat} (h : c ∈ sg z) : c = 10 ∨ c ∈ sg (flat z) := by
  have e := StrLaws.join_split z ⟨#[10]⟩
  rw [← e] at h
  rcases mem_join h with h | ⟨p, hp, h⟩
  · left
    have h : c ∈ [10] := h
    simpa using h
  · right
    rw [flat_eq]
    exact join_mem hp h
theorem flat_mem {z : Str} {c : Nat} (h : c ∈ sg (flat z)) : c = 32 ∨ (c ≠ 10 ∧ c ∈ sg z) := by
  rw [flat_eq] at h
  rcases mem_join h with h | ⟨p, hp, h⟩
  · left
    have h : c ∈ [32] := h
    simpa using h
  · right
    refine ⟨fun q => ?_, ?_⟩
    · subst q
      exact StrLaws.split_free z 10 p hp h
    · rw [← StrLaws.join_split z ⟨#[10]⟩]
      exact join_mem hp h
theorem ne_of_mem {w : Str} {c : Nat} (h : c ∈ sg w) : full w = true := by
  unfold full
  by_cases e : w = Str.empty
  · rw [e] at h
    have h : c ∈ ([] : List Nat) := h
    cases h
  · rw [decide_eq_false e]
    rfl
theorem mem_words {z : Str} {c : Nat} (h : c ∈ sg z) : c = 10 ∨ c = 32 ∨ ∃ w ∈ wdsOf z, c ∈ sg w := by
  rcases mem_flat h with h | h
  · exact .inl h
  · right
    rw [← StrLaws.join_split (flat z) ⟨#[32]⟩] at h
    rcases mem_join h with h | ⟨p, hp, h⟩
    · left
      have h : c ∈ [32] := h
      simpa using h
    · exact .inr ⟨p, List.mem_filter.mpr ⟨hp, ne_of_mem h⟩, h⟩
theorem words_mem {z w : Str} {c : Nat} (hw : w ∈ wdsOf z) (h : c ∈ sg w) : c ≠ 10 ∧ c ≠ 32 ∧ c ∈ sg z := by
  obtain ⟨hp, _⟩ := List.mem_filter.mp hw
  have n32 : c ≠ 32 := fun q => by
    subst q
    exact StrLaws.split_free (flat z) 32 w hp h
  have h2 : c ∈ sg (flat z) := by
    rw [← StrLaws.join_split (flat z) ⟨#[32]⟩]
    exact join_mem hp h
  rcases flat_mem h2 with q | ⟨q, r⟩
  · exact absurd q n32
  · exact ⟨q, n32, r⟩
theorem words_pos {z w : Str} (hw : w ∈ wdsOf z) : 0 < w.length := by
  obtain ⟨_, h⟩ := List.mem_filter.mp hw
  rcases Nat.eq_zero_or_pos w.length with e | e
  · have : w = Str.empty := by
      obtain ⟨a⟩ := w
      have e : a.size = 0 := e
      show Str.mk a = Str.mk #[]
      rw [Array.eq_empty_of_size_eq_zero e]
    rw [this] at h
    simp [full] at h
  · exact e
theorem parts_weight (z : Str) : ((partsOf z).map fun p => p.length).sum + (partsOf z).length ≤ z.length + 1 := by
  have h := PyProof.Rows.split_weight (flat z) ⟨#[32]⟩ (by decide)
  rw [flat_len] at h
  exact h
theorem sum_ge : ∀ {ps : List Str} {p : Str}, p ∈ ps → p.length ≤ (ps.map fun p => p.length).sum
  | [], p, h => nomatch h
  | q :: r, p, h => by
    rw [List.map_cons, List.sum_cons]
    rcases List.mem_cons.mp h with rfl | h
    · omega
    · have := sum_ge h
      omega
theorem parts_le {z p : Str} (h : p ∈ partsOf z) : p.length ≤ z.length := by
  have a := parts_weight z
  have b := sum_ge h
  have c : 1 ≤ (partsOf z).length := PyProof.Rows.split_pos _ _
  omega
theorem parts_few (z : Str) : (partsOf z).length ≤ z.length + 1 := by
  have a := parts_weight z
  omega
end Ya
/-! Own ground: what a text of pieces tells; walks within walks. -/
namespace Ye
open PySem PySem.Spec PyProof.Rows L2 Ya
abbrev lO : Str := "oO"
abbrev lS : Str := "oO."
abbrev lT : Str := "oO. \n"
def isO (c : Nat) : Bool := decide (c ∈ sg lO)
def isS (c : Nat) : Bool := decide (c ∈ sg lS)
def isT (c : Nat) : Bool := decide (c ∈ sg lT)
theorem isT_iff (c : Nat) : isT c = true ↔ isS c = true ∨ c = 32 ∨ c = 10 := by
  have e1 : sg lT = [111, 79, 46, 32, 10] := by decide +kernel
  have e2 : sg lS = [111, 79, 46] := by decide +kernel
  simp only [isT, isS, e1, e2, decide_eq_true_eq, List.mem_cons, List.not_mem_nil, or_false]
  omega
theorem isS_ne {c : Nat} (h : isS c = true) : c ≠ 32 ∧ c ≠ 10 := by
  have e2 : sg lS = [111, 79, 46] := by decide +kernel
  simp only [isS, e2, decide_eq_true_eq, List.mem_cons, List.not_mem_nil, or_false] at h
  omega
/-- the numbers below n at which f holds -/
def pcN (f : Nat → Bool) : Nat → List Int
  | 0 => []
  | n + 1 => pcN f n ++ (if f n then [(n : Int)] else [])
theorem pcN_congr {f g : Nat → Bool} : ∀ {n : Nat}, (∀ k, k < n → f k = g k) → pcN f n = pcN g n
  | 0, _ => rfl
  | n + 1, h => by
    show pcN f n ++ _ = pcN g n ++ _
    rw [pcN_congr fun k hk => h k (by omega), h n (by omega)]
theorem pcN_len (f : Nat → Bool) : ∀ n, (pcN f n).length ≤ n
  | 0 => Nat.le_refl 0
  | n + 1 => by
    have := pcN_len f n
    show (pcN f n ++ _).length ≤ n + 1
    rw [List.length_append]
    split <;> simp <;> omega
theorem pcN_mem (f : Nat → Bool) : ∀ n, ∀ z ∈ pcN f n, 0 ≤ z ∧ z < n
  | 0, z, h => nomatch h
  | n + 1, z, h => by
    rcases List.mem_append.mp h with h | h
    · have := pcN_mem f n z h
      omega
    · split at h
      · have : z = n := by simpa using h
        omega
      · cases h
/-- at place k of w stands a watcher's sign -/
def at_ (w : List Nat) (k : Nat) : Bool := (w[k]?).any isO
def piece (pl : Nat) (w : List Nat) (i : Nat) : List Int := pcN (fun k => at_ w (i + k)) pl
def runU (pl : Nat) (w : List Nat) : Nat → List (List Int)
  | 0 => []
  | i + 1 => runU pl w i ++ [piece pl w (i * pl)]
def runP (pl : Nat) (w : Str) : List (List Int) := runU pl (sg w) (w.length / pl)
def okW (pl : Nat) (w : Str) : Bool := decide (w.length % pl = 0) && (sg w).all isS
def allP (pl : Nat) (ws : List Str) : List (List Int) := ws.flatMap (runP pl)
def dueOf (z : Str) (pl : Nat) : Option (List (List Int)) := if wdsOf z ≠ [] ∧ ∀ w ∈ wdsOf z, okW pl w = true then some (allP pl (wdsOf z)) else none
theorem runU_len (pl : Nat) (w : List Nat) : ∀ n, (runU pl w n).length = n
  | 0 => rfl
  | n + 1 => by
    show (runU pl w n ++ _).length = _
    rw [List.length_append, runU_len pl w n]
    rfl
theorem runU_brief (pl : Nat) (w : List Nat) : ∀ n, ∀ l ∈ runU pl w n, l.length ≤ pl ∧ ∀ z ∈ l, 0 ≤ z ∧ z < pl
  | 0, l, h => nomatch h
  | n + 1, l, h => by
    rcases List.mem_append.mp h with h | h
    · exact runU_brief pl w n l h
    · obtain rfl : l = piece pl w (n * pl) := by simpa using h
      exact ⟨pcN_len _ _, pcN_mem _ _⟩
theorem allP_brief (pl : Nat) (ws : List Str) : ∀ l ∈ allP pl ws, l.length ≤ pl ∧ ∀ z ∈ l, 0 ≤ z ∧ z < pl := fun l h => by
  obtain ⟨w, _, h⟩ := List.mem_flatMap.mp h
  exact runU_brief pl _ _ l h
theorem allP_len (pl : Nat) (hp : 1 ≤ pl) : ∀ ws : List Str, (allP pl ws).length ≤ (ws.map fun w => w.length).sum
  | [] => Nat.zero_le _
  | w :: ws => by
    have := allP_len pl hp ws
    show (runP pl w ++ allP pl ws).length ≤ ((w :: ws).map fun w => w.length).sum
    rw [List.map_cons, List.sum_cons]
    rw [List.length_append, runP, runU_len]
    have h2 : w.length / pl ≤ w.length := Nat.div_le_self _ _
    show _ ≤ w.length + (ws.map fun w => w.length).sum
    omega
theorem filter_sum (p : Str → Bool) : ∀ ws : List Str, ((ws.filter p).map fun w => w.length).sum ≤ (ws.map fun w => w.length).sum
  | [] => Nat.le_refl _
  | w :: ws => by
    have := filter_sum p ws
    rw [List.filter_cons]
    split <;> simp only [List.map_cons, List.sum_cons] <;> omega
theorem words_len (z : Str) (pl : Nat) (hp : 1 ≤ pl) : (allP pl (wdsOf z)).length ≤ z.length := by
  have h1 := allP_len pl hp (wdsOf z)
  have h2 := filter_sum full (partsOf z)
  have h3 := parts_weight z
  have h4 : 1 ≤ (partsOf z).length := PyProof.Rows.split_pos _ _
  have h1' : (allP pl (wdsOf z)).length ≤ (((partsOf z).filter full).map fun w => w.length).sum := h1
  omega
/-- a bad sign: nothing is told -/
theorem due_bad {z : Str} {pl : Nat} {c : Nat} (hc : c ∈ sg z) (hb : isT c = false) : dueOf z pl = none := by
  unfold dueOf
  rw [if_neg]
  rintro ⟨_, h⟩
  have nt : ¬ (isS c = true ∨ c = 32 ∨ c = 10) := fun q => by
    rw [(isT_iff c).mpr q] at hb
    cases hb
  rcases mem_words hc with q | q | ⟨w, hw, q⟩
  · exact nt (.inr (.inr q))
  · exact nt (.inr (.inl q))
  · have := h w hw
    simp only [okW, Bool.and_eq_true, List.all_eq_true] at this
    exact nt (.inl (this.2 c q))
theorem okW_good {z : Str} {pl : Nat} (hz : ∀ c ∈ sg z, isT c = true) {w : Str} (hw : w ∈ wdsOf z) : okW pl w = decide (w.length % pl = 0) := by
  have : (sg w).all isS = true := List.all_eq_true.mpr fun c hc => by
    obtain ⟨n1, n2, m⟩ := words_mem hw hc
    rcases (isT_iff c).mp (hz c m) with q | q | q
    · exact q
    · exact absurd q n2
    · exact absurd q n1
  rw [okW, this, Bool.and_true]
/-- walks within walks -/
theorem in_it {J : It} {n : Nat} {Y : Nat → Hp → V → Hp → Prop} {G : Hp → Prop} (WJ : Walk J n G Y) {B : V → Hp → (Hp → Prop) → Prop} {H0 : Hp} {Nx : Hp → Prop} (Pv : Nat → Hp → Prop) (h0 : Pv 0 H0) (hg : ∀ i H, i ≤ n → Pv i H → G H)
    (step : ∀ i x H H', i < n → Pv i H → Y i H x H' → B x H' (Pv (i + 1))) (fin : ∀ H, Pv n H → Nx H) :
    ∃ W : Nat → Nat → Hp → Prop, (∃ m, W 0 m H0) ∧ ∀ i m H, W i m H → (J.stop i H ∧ Nx H) ∨ (J.go i H ∧ ∃ N : Hp → Prop, (∀ H', N H' → ∃ m', m' < m ∧ W (i + 1) m' H') ∧ ∀ x H', J.yld i H x H' → B x H' N) := by
  refine ⟨fun i m H => m = n - i ∧ i ≤ n ∧ Pv i H, ⟨n, by omega, Nat.zero_le _, h0⟩, ?_⟩
  rintro i m H ⟨rfl, hi, p⟩
  by_cases c : i < n
  · exact .inr ⟨WJ.goes i H c (hg i H hi p), Pv (i + 1), fun H' p' => ⟨n - (i + 1), by omega, rfl, by omega, p'⟩, fun x H' y => step i x H H' c p (WJ.yields i H x H' c (hg i H hi p) y)⟩
  · have e : i = n := by omega
    subst e
    exact .inl ⟨WJ.stops H (hg _ _ hi p), fin H p⟩
end Ye
/-! Own ground: lists of new lists that are lengthened. -/
namespace Yf
open PySem PySem.Spec PyProof.Rows L2 Xa Xr Xl Xk Xq Ya Ye
/-- the lists of ks are new since H0, and apart -/
def New (H0 : Hp) (D : Addr) (ks : List (Addr × List Int)) : Prop := (∀ q ∈ ks, H0 q.1 = none ∧ q.1 ≠ D) ∧ (ks.map (·.1)).Nodup
theorem New.nil {H0 : Hp} {D : Addr} : New H0 D [] := ⟨fun q (h : q ∈ []) => (nomatch h), List.nodup_nil⟩
theorem ll_more {H0 H H3 : Hp} {D a : Addr} {l : List Int} {ks : List (Addr × List Int)} (L : LL H D ks) (N : New H0 D ks) (s0 : ∀ c o, H0 c = some o → c ≠ D → H c = some o) (sm : Same H H3) (na : H a = none) (ha : H3 a = some (.lst (l.map V.int))) :
    H3 D = some (.lst (ks.map fun q => V.ref q.1)) ∧ LL (upd H3 D (.lst ((ks.map fun q => V.ref q.1) ++ [.ref a]))) D (ks ++ [(a, l)]) ∧ New H0 D (ks ++ [(a, l)]) := by
  obtain ⟨hd, hl⟩ := L
  have aD : a ≠ D := fun z => by
    rw [z, hd] at na
    cases na
  refine ⟨sm _ _ hd, ⟨?_, ?_⟩, ?_, ?_⟩
  · rw [upd_same, List.map_append]
    rfl
  · intro q hq
    rcases List.mem_append.mp hq with hq | hq
    · rw [upd_ne (N.1 q hq).2]
      exact sm _ _ (hl q hq)
    · rw [List.mem_singleton.mp hq, upd_ne aD]
      exact ha
  · intro q hq
    rcases List.mem_append.mp hq with hq | hq
    · exact N.1 q hq
    · rw [List.mem_singleton.mp hq]
      refine ⟨?_, aD⟩
      cases e : H0 a with
      | none => rfl
      | some o =>
        rw [s0 a o e aD] at na
        cases na
  · rw [List.map_append, List.nodup_append]
    refine ⟨N.2, List.nodup_cons.mpr ⟨List.not_mem_nil, List.nodup_nil⟩, ?_⟩
    intro x hx y hy e
    obtain rfl : y = a := by simpa using hy
    obtain ⟨q, hq, rfl⟩ := List.mem_map.mp hx
    have := hl q hq
    rw [e, na] at this
    cases this
theorem ll_add {H0 H3 : Hp} {D a : Addr} {l : List Int} {ks : List (Addr × List Int)} (L : LL H3 D ks) (N : New H0 D ks) (n0 : H0 a = none) (aD : a ≠ D) (ak : ∀ q ∈ ks, q.1 ≠ a) (ha : H3 a = some (.lst (l.map V.int))) :
    LL (upd H3 D (.lst ((ks.map fun q => V.ref q.1) ++ [.ref a]))) D (ks ++ [(a, l)]) ∧ New H0 D (ks ++ [(a, l)]) := by
  obtain ⟨hd, hl⟩ := L
  refine ⟨⟨?_, ?_⟩, ?_, ?_⟩
  · rw [upd_same, List.map_append]
    rfl
  · intro q hq
    rcases List.mem_append.mp hq with hq | hq
    · rw [upd_ne (N.1 q hq).2]
      exact hl q hq
    · rw [List.mem_singleton.mp hq, upd_ne aD]
      exact ha
  · intro q hq
    rcases List.mem_append.mp hq with hq | hq
    · exact N.1 q hq
    · rw [List.mem_singleton.mp hq]
      exact ⟨n0, aD⟩
  · rw [List.map_append, List.nodup_append]
    refine ⟨N.2, List.nodup_cons.mpr ⟨List.not_mem_nil, List.nodup_nil⟩, ?_⟩
    intro x hx y hy e
    obtain rfl : y = a := by simpa using hy
    obtain ⟨q, hq, rfl⟩ := List.mem_map.mp hx
    exact ak q hq e
theorem allP_app (pl : Nat) (xs ys : List Str) : allP pl (xs ++ ys) = allP pl xs ++ allP pl ys := List.flatMap_append
theorem allP_take_len (pl i : Nat) (ws : List Str) : (allP pl (ws.take i)).length ≤ (allP pl ws).length := by
  have : allP pl ws = allP pl (ws.take i) ++ allP pl (ws.drop i) := by rw [← allP_app, List.take_append_drop]
  rw [this, List.length_append]
  omega
theorem allP_take (pl : Nat) {i : Nat} {ws : List Str} {w : Str} (h : ws[i]? = some w) : allP pl (ws.take (i + 1)) = allP pl (ws.take i) ++ runP pl w := by
  rw [List.take_add_one, h]
  show allP pl (ws.take i ++ [w]) = _
  rw [allP_app]
  show _ ++ (runP pl w ++ []) = _
  rw [List.append_nil]
/-- a piece of a slice -/
theorem slice_piece {w : Str} {i pl : Nat} (h : i + pl ≤ w.length) : (Txt.slice w (some (i : Int)) (some ((i : Int) + (pl : Int)))).length = pl ∧ pcN (at_ (sg (Txt.slice w (some (i : Int)) (some ((i : Int) + (pl : Int)))))) pl = piece pl (sg w) i := by
  have e0 : (i : Int) + (pl : Int) = ((i + pl : Nat) : Int) := by omega
  have e : sg (Txt.slice w (some (i : Int)) (some ((i : Int) + (pl : Int)))) = (w.cps.toList.drop i).take pl := by
    rw [e0]
    have := PyProof.Rows.slice_closesL (x := w) (i := i) (j := (i + pl : Nat)) (by omega) (by omega) (by show ((i + pl : Nat) : Int) ≤ (w.length : Int); omega)
    have e2 := eq_of_beq this
    rw [e2]
    show (List.toArray _).toList = _
    rw [List.toList_toArray]
    congr 1
    · omega
  constructor
  · show (Txt.slice w _ _).cps.size = pl
    rw [← Array.length_toList]
    show (sg _).length = pl
    rw [e, List.length_take, List.length_drop]
    have : w.cps.toList.length = w.length := Array.length_toList
    omega
  · refine pcN_congr fun k hk => ?_
    show ((sg _)[k]?).any isO = ((sg w)[i + k]?).any isO
    rw [e, List.getElem?_take_of_lt hk, List.getElem?_drop]
end Yf
/-! The draws: cell, hash, generator, random. -/
namespace Kx
open PySem PySem.Spec PyProof.Rows L2 Xa Xb Xc Xd
def top (i : Nat) : Stmt := PySem.Challenge.pw_hearunlike_k30_plans_written_and_read.main.body.getD i (.Pass ⟨0, 0, 0, 0⟩)
abbrev FnP (K : PySem.W.Frag) (x : Str) (st : Stmt) (f : Addr) (fd : FuncData) : Prop := FunD K x x (defArgs st) (defBody st) (defScope st) [] [] f fd
abbrev sCell : Stmt := top 24
abbrev sHash : Stmt := top 25
abbrev sGener : Stmt := top 26
abbrev sRandom : Stmt := top 27
/-- the built-ins that the text has not taken -/
structure Bi (mg : Str → Option Value) : Prop where
  len : mg "len" = none
  int : mg "int" = none
  max : mg "max" = none
  range : mg "range" = none
theorem pa1 {X : Cx} {e : Expr} {te : TE} (he : PE X e te) (hs : starEach (e :: []) X.env = (false, eval e X.env) :: starEach [] X.env := by rfl) : PA X [e] (tCons te tNil) := pa_cons he pa_nil hs
section
variable {P : Program} {w : World} {K : PySem.W.Frag} {mg : Str → Option Value} {base : Heap} {f : Addr} {fd : FuncData}

/-! ### cell -/
def spCell (K : PySem.W.Frag) : Sp := fun xs H Q _ => ∃ (a : Addr) (ns : List Int) (i : Nat), xs = [.ref a, .int (i : Int)] ∧ SqL K H a (ns.map V.int) ∧ ∀ z, Q (.int z) H
theorem scCell : FnScope ["script", "index"] ["script", "index"] (defScope sCell) := ⟨rfl, rfl, rfl, by decide +kernel, rfl, by decide +kernel, by decide +kernel⟩
theorem ok_cell (F : FnP K "_law_cell" sCell f fd) (B : Bi mg) : FnG P w K mg base 1 f fd ["script", "index"] (spCell K) := by
  refine okG F scCell (fun xs H Q E h => ?_) (fun cdv A outer s H vs Q E hr hn h => ?_)
  · obtain ⟨a, ns, i, rfl, _⟩ := h
    rfl
  · obtain ⟨a, ns, i, rfl, hS, q⟩ := h
    refine ⟨_, pss_cons (ps_if (pt_cmpR op_lt (pv 1) (pe_callB call_len_seq (by rfl) B.len PySem.boot_len (pa_cons (pv 0) pa_nil)) (nomark _)) (pss_one (ps_ret (pe_ix ix_list (pv 0) (pv 1) (fun _ _ => rfl)))) pss_nil)
      (pss_one (ps_ret pe_int)), ?_⟩
    refine ⟨_, rfl, _, rfl, a, _, rfl, .inl hS, _, _, rfl, rfl, _, rfl, ite2 (fun c => ?_) (fun _ => q 0)⟩
    have hlt : i < (ns.map V.int).length := by
      have c2 := of_decide_eq_true c
      omega
    rw [List.length_map] at hlt
    exact ⟨_, rfl, _, rfl, a, _, _, .int ns[i], rfl, rfl, hS, atI_nat (by rw [List.getElem?_map, List.getElem?_eq_getElem hlt]; rfl), q _⟩

/-! ### hash -/
def spHash : Sp := fun xs H Q _ => ∃ (z i : Int), xs = [.int z, .int i] ∧ 0 ≤ z ∧ z < 2147483647 ∧ 0 ≤ i ∧ i < 2 ^ 50 ∧ ∀ r : Int, 0 ≤ r → r < 2147483587 → Q (.int r) H
theorem scHash : FnScope ["seed", "index", "mixed"] ["seed", "index"] (defScope sHash) := ⟨rfl, rfl, rfl, by decide +kernel, rfl, by decide +kernel, by decide +kernel⟩
theorem ok_hash (F : FnP K "_law_hash" sHash f fd) (B : Bi mg) : FnG P w K mg base 1 f fd ["seed", "index"] spHash := by
  refine okG F scHash (fun xs H Q E h => ?_) (fun cdv A outer s H vs Q E hr hn h => ?_)
  · obtain ⟨z, i, rfl, _⟩ := h
    rfl
  · obtain ⟨z, i, rfl, z0, z1, i0, i1, q⟩ := h
    refine ⟨_, pss_cons (ps_set (i := 2) scHash.nd rfl (Or.inl rfl) (pe_op op_modN (pe_callTy call_int1 (by rfl) B.int (by decide +kernel) (pa1 (pe_op op_add (pe_op op_add (pe_op op_add (pe_op op_mul (pv 0) pe_int) (pe_op op_mul (pe_op op_mul pe_int (pv 1)) (pv 1))) (pv 1)) pe_int))) pe_int))
      (pss_cons (ps_set (i := 2) scHash.nd rfl (Or.inl rfl) (pe_op op_modN (pe_callTy call_int1 (by rfl) B.int (by decide +kernel) (pa1 (pe_op op_add (pe_op op_mul (pv 2) (pv 2)) pe_int))) pe_int))
      (pss_one (ps_ret (pe_op op_modN (pe_callTy call_int1 (by rfl) B.int (by decide +kernel) (pa1 (pe_op op_mul (pv 2) pe_int))) pe_int)))), ?_⟩
    have m1 : ∀ x y : Int, 0 < y → 0 ≤ x.fmod y ∧ x.fmod y < y := fun x y hy => ⟨Int.fmod_nonneg_of_pos _ hy, Int.fmod_lt_of_pos _ hy⟩
    refine ⟨_, rfl, _, _, rfl, rfl, .inr ⟨by decide, by decide⟩, _, rfl, _, _, rfl, rfl, .inl ⟨by decide, by decide⟩, _, rfl, _, _, rfl, rfl, .inr ⟨by omega, by omega⟩, _, _, rfl, rfl, _, rfl, _, _, rfl, rfl, _, _, rfl, rfl, .inl ⟨_, rfl, ?_⟩⟩
    refine ⟨_, _, rfl, rfl, (by show (2147483647 : Int) ≠ 0; decide), ?_⟩
    obtain ⟨a0, a1⟩ := m1 (z * 1103515245 + 7919 * i * i + i + 1) 2147483647 (by decide)
    refine ⟨_, rfl, _, rfl, _, _, rfl, rfl, .inl ⟨by omega, by omega⟩, _, _, rfl, rfl, .inl ⟨_, rfl, ?_⟩⟩
    refine ⟨_, _, rfl, rfl, (by show (2147483629 : Int) ≠ 0; decide), ?_⟩
    refine ⟨_, rfl, _, _, rfl, rfl, .inr ⟨by decide, by decide⟩, .inl ⟨_, rfl, ?_⟩⟩
    refine ⟨_, _, rfl, rfl, (by show (2147483587 : Int) ≠ 0; decide), ?_⟩
    exact q _ (m1 _ _ (by decide)).1 (m1 _ _ (by decide)).2

/-! ### generator, random -/
/-- a generator's list stands at g, its counter at most n -/
def Gen (H : Hp) (g : Addr) (n : Nat) : Prop := ∃ g0 g1 g2 : Int, H g = some (.lst [.int g0, .int g1, .int g2]) ∧ 0 ≤ g0 ∧ g0 < 2 ^ 2000 ∧ 0 ≤ g1 ∧ g1 < 2147483647 ∧ 0 ≤ g2 ∧ g2 ≤ n
theorem op_powW {X : Cx} : OpR X (binaryOp .Pow) (rI (fun i j => 0 ≤ j ∧ (Builtin.Int.intBits i : Int) * j ≤ 2 ^ 27) fun i j => .int (i ^ j.toNat)) := by
  rintro pins st σ H x y v u Q I rx ry ⟨i, j, rfl, rfl, ⟨h1, h2⟩, q⟩
  obtain ⟨t, rfl⟩ := rx
  obtain ⟨t2, rfl⟩ := ry
  exact pow_int h1 h2 ⟨.int _, H, I.tok _, ⟨_, rfl⟩, q⟩
def spGener (K : PySem.W.Frag) : Sp := fun xs H Q _ => ∃ (a : Addr) (ns : List Int) (i : Nat), xs = [.ref a, .int (i : Int)] ∧ i ≤ 1000 ∧ SqL K H a (ns.map V.int) ∧ ∀ p H', H p = none → Same H H' → Gen H' p (1000 * i) → Q (.ref p) H'
theorem scGener : FnScope ["script", "index", "seed"] ["script", "index"] (defScope sGener) := ⟨rfl, rfl, rfl, by decide +kernel, rfl, by decide +kernel, by decide +kernel⟩
theorem ok_gener {fC : Addr} {fdC : FuncData} (F : FnP K "_law_generator" sGener f fd) (B : Bi mg) (FC : FnP K "_law_cell" sCell fC fdC) (gC : mg "_law_cell" = some (.ref fC)) : FnG P w K mg base 2 f fd ["script", "index"] (spGener K) := by
  have GC : FnG P w K mg base 1 fC fdC ["script", "index"] (spCell K) := ok_cell FC B
  have bC : Binds K fdC ["script", "index"] [] := FC.bindsN fun _ _ _ _ _ _ us hl => match us, hl with | [_, _], _ => rfl
  refine okG F scGener (fun xs H Q E h => ?_) (fun cdv A outer s H vs Q E hr hn h => ?_)
  · obtain ⟨a, ns, i, rfl, _⟩ := h
    rfl
  · obtain ⟨a, ns, i, rfl, hi, hS, q⟩ := h
    refine ⟨_, pss_cons (ps_set (i := 2) scGener.nd rfl (Or.inl rfl) (pe_callG GC hr hn rfl gC FC.kp bC (pa_cons (pv 0) (pa_cons (pv 1) pa_nil))))
      (pss_one (ps_ret (pe_lst (pa_cons (pe_op op_modN (pe_callTy call_int1 (by rfl) B.int (by decide +kernel) (pa1 (pe_callB (call_max2 rfl) (by rfl) B.max (by decide +kernel) (pa_cons (pe_op op_sub (pv 2) (pe_op op_pow pe_int pe_int)) (pa_cons pe_int pa_nil))))) (pe_op op_powW (pe_op op_pow pe_int pe_int) pe_int))
        (pa_cons (pe_op op_modN (pe_callTy call_int1 (by rfl) B.int (by decide +kernel) (pa1 (pv 2))) pe_int) (pa_cons (pe_op op_mul pe_int (pv 1)) pa_nil)))))), ?_⟩
    refine ⟨_, rfl, _, rfl, a, ns, i, rfl, hS, fun z => ?_⟩
    refine ⟨_, rfl, _, _, rfl, rfl, ⟨by decide, by decide, by decide⟩, _, _, rfl, rfl, _, _, rfl, .inl ⟨_, rfl, _, _, rfl, rfl, ⟨by decide, by decide, by decide⟩, _, _, rfl, rfl, ⟨by decide, by decide +kernel⟩, ?_⟩⟩
    have big : (0 : Int) < (10 ^ (60 : Int).toNat) ^ (10 : Int).toNat := by decide
    have big2 : ((10 : Int) ^ (60 : Int).toNat) ^ (10 : Int).toNat < 2 ^ 2000 := by decide
    refine ⟨_, _, rfl, rfl, Int.ne_of_gt big, _, rfl, .inl ⟨_, rfl, _, _, rfl, rfl, (by show (2147483647 : Int) ≠ 0; decide), _, rfl, _, _, rfl, rfl, .inl ⟨by decide, by decide⟩, (by show 3 ≤ sizeLine; decide), fun p np => ?_⟩⟩
    refine q p _ np (fun b o e => by rw [upd_ne (ne_of_none e np)]; exact e) ⟨_, _, _, upd_same, Int.fmod_nonneg_of_pos _ big, Int.lt_trans (Int.fmod_lt_of_pos _ big) big2, Int.fmod_nonneg_of_pos _ (by decide), Int.fmod_lt_of_pos _ (by decide), by omega, by omega⟩

def spRandom : Sp := fun xs H Q _ => ∃ (g : Addr) (b : Int) (n : Nat), xs = [.ref g, .int b] ∧ 0 < b ∧ b < 2 ^ 90 ∧ Gen H g n ∧ n ≤ 2 ^ 40 ∧ ∀ (r : Int) (H' : Hp), 0 ≤ r → r < b → Gen H' g (n + 4) → (∀ c, c ≠ g → H' c = H c) → Q (.int r) H'
theorem scRandom : FnScope ["generator", "bound", "drawn", "turn"] ["generator", "bound"] (defScope sRandom) := ⟨rfl, rfl, rfl, by decide +kernel, rfl, by decide +kernel, by decide +kernel⟩
theorem ok_random {fC : Addr} {fdC : FuncData} (F : FnP K "_law_random" sRandom f fd) (B : Bi mg) (FC : FnP K "_law_hash" sHash fC fdC) (gC : mg "_law_hash" = some (.ref fC)) : FnG P w K mg base 2 f fd ["generator", "bound"] spRandom := by
  have GC : FnG P w K mg base 1 fC fdC ["seed", "index"] spHash := ok_hash FC B
  have bC : Binds K fdC ["seed", "index"] [] := FC.bindsN fun _ _ _ _ _ _ us hl => match us, hl with | [_, _], _ => rfl
  refine okG F scRandom (fun xs H Q E h => ?_) (fun cdv A outer s H vs Q E hr hn h => ?_)
  · obtain ⟨g, b, n, rfl, _⟩ := h
    rfl
  · obtain ⟨g, b, n, rfl, b0, b1, ⟨g0, g1, g2, hg, g00, g01, g10, g11, g20, g21⟩, hn1, q⟩ := h
    refine ⟨_, pss_cons (ps_if (pt_cmpR op_gt (pe_ix ix_list (pv 0) pe_int (fun _ _ => rfl)) pe_int (nomark _))
        (pss_cons (ps_set (i := 2) scRandom.nd rfl (Or.inl rfl) (pe_op op_modN (pe_callTy call_int1 (by rfl) B.int (by decide +kernel) (pa1 (pe_ix ix_list (pv 0) pe_int (fun _ _ => rfl)))) (pv 1)))
        (pss_cons (ps_asg (pe_op op_fdivW (pe_ix ix_list (pv 0) pe_int (fun _ _ => rfl)) (pv 1)) (pg_sub (pv 0) pe_int set_list))
        (pss_one (ps_ret (pv 2))))) pss_nil)
      (pss_cons (ps_set (i := 2) scRandom.nd rfl (Or.inl rfl) pe_int)
      (pss_cons (ps_for PassesOwn.never rfl (pi_range1 (by rfl) B.range (pa1 (pe_op op_add pe_int (pe_op op_fdivW (pe_bits (pv 1)) pe_int)))) (pg_name (i := 3) scRandom.nd rfl (Or.inl rfl))
        (pss_cons (ps_asg (pe_op op_add (pe_ix ix_list (pv 0) pe_int (fun _ _ => rfl)) pe_int) (pg_sub (pv 0) pe_int set_list))
        (pss_one (ps_set (i := 2) scRandom.nd rfl (Or.inl rfl) (pe_op op_add (pe_op op_mul (pv 2) pe_int) (pe_callG GC hr hn rfl gC FC.kp bC (pa_cons (pe_ix ix_list (pv 0) pe_int (fun _ _ => rfl)) (pa_cons (pe_ix ix_list (pv 0) pe_int (fun _ _ => rfl)) pa_nil))))))))
      (pss_one (ps_ret (pe_op op_modN (pe_callTy call_int1 (by rfl) B.int (by decide +kernel) (pa1 (pv 2))) (pv 1)))))), ?_⟩
    have at0 : ∀ (z : Int) (r : List V), atI (V.int z :: r) 0 = some (V.int z) := fun z r => atI_nat (j := 0) rfl
    refine ⟨_, rfl, g, _, 0, .int g0, rfl, rfl, SqL.of hg, at0 _ _, _, _, rfl, rfl, _, rfl, ite2 (fun c => ?_) (fun c => ?_)⟩
    · have g0p : 0 < g0 := of_decide_eq_true c
      have bn : b.natAbs < 2 ^ 90 := by omega
      refine ⟨_, rfl, g, _, 0, .int g0, rfl, rfl, SqL.of hg, at0 _ _, .inl ⟨_, rfl, _, rfl, _, _, rfl, rfl, Int.ne_of_gt b0, ?_⟩⟩
      refine ⟨_, rfl, g, _, 0, .int g0, rfl, rfl, SqL.of hg, at0 _ _, _, rfl, _, _, rfl, rfl, wide_div b0 bn (by decide) (by decide), ?_⟩
      refine ⟨_, rfl, g, _, 0, 0, rfl, rfl, hg, rfl, _, rfl, ?_⟩
      refine q _ _ (Int.fmod_nonneg_of_pos _ b0) (Int.fmod_lt_of_pos _ b0) ⟨_, g1, g2, upd_same, Int.ediv_nonneg g00 (Int.le_of_lt b0), ?_, g10, g11, g20, by omega⟩ fun c hc => upd_ne hc
      exact Int.lt_of_le_of_lt (Int.ediv_le_self _ g00) g01
    · have bits : Builtin.Int.intBits b ≤ 90 := by
        have h1 : b.natAbs < 2 ^ 90 := by omega
        have h2 := PySem.Flt.log2_lt_of (k := 90) (by decide) h1
        unfold Builtin.Int.intBits
        split <;> omega
      have at1 : ∀ (x z : Int) (r : List V), atI (V.int x :: V.int z :: r) 1 = some (V.int z) := fun x z r => atI_nat (j := 1) rfl
      have at2 : ∀ (x y z : Int) (r : List V), atI (V.int x :: V.int y :: V.int z :: r) 2 = some (V.int z) := fun x y z r => atI_nat (j := 2) rfl
      refine ⟨_, rfl, b, rfl, _, _, rfl, rfl, ⟨by decide, by decide⟩, _, _, rfl, rfl, _, rfl, by omega, by omega, ?_⟩
      have e30 : (1 + ((Builtin.Int.intBits b : Nat) : Int) / 30).toNat ≤ 4 := by omega
      generalize (1 + ((Builtin.Int.intBits b : Nat) : Int) / 30).toNat = m at e30
      refine for_range (lo := 0) (n := m) (fun i σ H' => ∃ (dr : Int) (tv : Option V), σ = [some (.ref g), some (.int b), some (.int dr), tv] ∧ 0 ≤ dr ∧ H' = upd H g (.lst [.int g0, .int g1, .int (g2 + i)])) ⟨0, none, rfl, by decide, ?_⟩ ?_ ?_
      · funext c
        by_cases hc : c = g
        · rw [hc, upd_same, hg]
          simp
        · rw [upd_ne hc]
      · rintro i σ H' hi ⟨dr, tv, rfl, d0, rfl⟩
        refine ⟨_, rfl, g, _, 2, .int (g2 + i), rfl, rfl, SqL.of upd_same, at2 _ _ _ _, _, _, rfl, rfl, _, rfl, g, _, 2, 2, rfl, rfl, upd_same, rfl, ?_⟩
        refine ⟨_, rfl, _, _, rfl, rfl, .inr ⟨by decide, by decide⟩, _, rfl, g, _, 1, .int g1, rfl, rfl, SqL.of upd_same, at1 _ _ _, _, rfl, g, _, 2, .int (g2 + i + 1), rfl, rfl, SqL.of upd_same, at2 _ _ _ _, g1, g2 + i + 1, rfl, g10, g11, by omega, by omega, fun r r0 r1 => ?_⟩
        refine ⟨_, _, rfl, rfl, _, _, rfl, ?_, ?_⟩
        · have : 0 ≤ dr * 2147483587 := Int.mul_nonneg d0 (by decide)
          omega
        · rw [upd_upd]
          have e : g2 + (i : Int) + 1 = g2 + ((i + 1 : Nat) : Int) := by omega
          rw [← e]
          rfl
      · rintro σ H' ⟨dr, tv, rfl, d0, rfl⟩
        refine ⟨_, rfl, .inl ⟨_, rfl, _, rfl, _, _, rfl, rfl, Int.ne_of_gt b0, ?_⟩⟩
        exact q _ _ (Int.fmod_nonneg_of_pos _ b0) (Int.fmod_lt_of_pos _ b0) ⟨g0, g1, g2 + m, upd_same, g00, g01, g10, g11, by omega, by omega⟩ fun c hc => upd_ne hc
end
end Kx
/-! The program's checks. -/
namespace Kx
open PySem PySem.Spec PyProof.Rows L2 Xa Xb Xc Xd Xs Xp Xm Ya Yb Yc Yd
abbrev sWhole : Stmt := top 7
abbrev sBetween : Stmt := top 8
abbrev sCkPlaces : Stmt := top 9
structure Bi2 (mg : Str → Option Value) : Prop extends Bi mg where
  isi : mg "isinstance" = none
  bool : mg "bool" = none
  str : mg "str" = none
  all : mg "all" = none
  enum : mg "enumerate" = none
  repr : mg "repr" = none
/-- how a def of the text stands -/
structure Dfn (K : PySem.W.Frag) (mg : Str → Option Value) (x : Str) (st : Stmt) : Prop where
  at_ : ∃ (f : Addr) (fd : FuncData), FnP K x st f fd ∧ mg x = some (.ref f)
section
variable {P : Program} {w : World} {K : PySem.W.Frag} {mg : Str → Option Value} {base : Heap} {f : Addr} {fd : FuncData}
def spWhole (K : PySem.W.Frag) : Sp := fun xs H Q _ => ∃ v b, xs = [v] ∧ Whl K H v b ∧ Q (.bl b) H
theorem scWhole : FnScope ["value"] ["value"] (defScope sWhole) := ⟨rfl, rfl, rfl, by decide +kernel, rfl, by decide +kernel, by decide +kernel⟩
theorem can_whole (D : Dfn K mg "is_whole" sWhole) (B : Bi2 mg) : Can P w K mg base CX0 1 "is_whole" ["value"] (spWhole K) := by
  obtain ⟨f, fd, F, g⟩ := D.at_
  refine FnOk.can (F.ok scWhole (fun xs H Q E h => ?_) (fun cdv A outer s H vs Q E hr h => ?_)) F g fun _ _ _ _ _ _ us hl => match us, hl with | [_], _ => rfl
  · obtain ⟨v, b, rfl, _⟩ := h
    rfl
  · obtain ⟨v, b, rfl, ⟨T, b1, b2, kd, e1, e2, rfl⟩, q⟩ := h
    refine ⟨_, PSs.nox (pss_one (ps_ret (pe_and (pe_bi call_kd B.isi (pa_cons (pv 0) (pa1 (pe_tyv "int" B.int)))) (pe_one (pe_not (pe_bi call_kd B.isi (pa_cons (pv 0) (pa1 (pe_tyv "bool" B.bool))))))))), ?_⟩
    refine ⟨_, rfl, v, "int", b1, rfl, ⟨T, kd, e1⟩, b1, rfl, ?_⟩
    cases b1 with
    | true => exact iteT ⟨_, rfl, v, "bool", b2, rfl, ⟨T, kd, e2⟩, b2, rfl, q⟩
    | false => exact iteF q
def spBetween (K : PySem.W.Frag) : Sp := fun xs H Q _ => ∃ v o lo hi, xs = [v, .int lo, .int hi] ∧ Num K H v o ∧ Q (.bl (inR o lo hi)) H
theorem scBetween : FnScope ["value", "low", "high"] ["value", "low", "high"] (defScope sBetween) := ⟨rfl, rfl, rfl, by decide +kernel, rfl, by decide +kernel, by decide +kernel⟩
theorem can_between (D : Dfn K mg "is_between" sBetween) (cW : Can P w K mg base CX0 1 "is_whole" ["value"] (spWhole K)) : Can P w K mg base CX0 2 "is_between" ["value", "low", "high"] (spBetween K) := by
  obtain ⟨f, fd, F, g⟩ := D.at_
  refine FnOk.can (F.ok scBetween (fun xs H Q E h => ?_) (fun cdv A outer s H vs Q E hr h => ?_)) F g fun _ _ _ _ _ _ us hl => match us, hl with | [_, _, _], _ => rfl
  · obtain ⟨v, o, lo, hi, rfl, _⟩ := h
    rfl
  · obtain ⟨v, o, lo, hi, rfl, N, q⟩ := h
    refine ⟨_, PSs.nox (pss_one (ps_ret (pe_and (pe_can cW hr pass0 (pa1 (pv 0))) (pe_one (pe_chain op_le op_le (pv 1) (pv 0) (pv 2)))))), ?_⟩
    refine ⟨_, rfl, v, o.isSome, rfl, N.whl, _, rfl, ?_⟩
    cases N with
    | is i =>
      refine iteT ⟨_, rfl, _, rfl, lo, i, rfl, rfl, _, rfl, ?_⟩
      by_cases c : lo ≤ i
      · rw [decide_eq_true c]
        refine iteT ⟨_, rfl, i, hi, rfl, rfl, ?_⟩
        have e : inR (some i) lo hi = decide (i ≤ hi) := by
          show (decide (lo ≤ i) && decide (i ≤ hi)) = _
          rw [decide_eq_true c, Bool.true_and]
        rw [e] at q
        exact q
      · rw [decide_eq_false c]
        refine iteF ?_
        have e : inR (some i) lo hi = false := by
          show (decide (lo ≤ i) && decide (i ≤ hi)) = _
          rw [decide_eq_false c, Bool.false_and]
        rw [e] at q
        exact q
    | no h => exact iteF q
/-- refused: an error of the class at C is raised with the value v -/
def Ref (E : XK) (H : Hp) (C : Addr) (v : V) : Prop := ∀ d, H d = none → E (.ref C) (some d) (upd H d (.xd [("value", v)]))
def spCkPlaces (K : PySem.W.Frag) (CN : Addr) : Sp := fun xs H Q E => ∃ v o, xs = [v] ∧ Num K H v o ∧ (inR o 1 2 = true → Q .non H) ∧ (inR o 1 2 = false → Ref E H CN v)
theorem scCkPlaces : FnScope ["places"] ["places"] (defScope sCkPlaces) := ⟨rfl, rfl, rfl, by decide +kernel, rfl, by decide +kernel, by decide +kernel⟩
theorem can_ckplaces {CN : Addr} {tm : Tok} (D : Dfn K mg "check_places" sCkPlaces) (gM : mg "MOST_PLACES" = some (.int 2 tm)) (M : Xc.XMake P w K mg base "InvalidNumber" CN "value") (cB : Can P w K mg base CX0 2 "is_between" ["value", "low", "high"] (spBetween K)) :
    Can P w K mg base (L2.CX P w) 3 "check_places" ["places"] (spCkPlaces K CN) := by
  obtain ⟨f, fd, F, g⟩ := D.at_
  refine FnOk.can (F.ok scCkPlaces (fun xs H Q E h => ?_) (fun cdv A outer s H vs Q E hr h => ?_)) F g fun _ _ _ _ _ _ us hl => match us, hl with | [_], _ => rfl
  · obtain ⟨v, o, rfl, _⟩ := h
    rfl
  · obtain ⟨v, o, rfl, N, yes, no⟩ := h
    refine ⟨_, pss_one (ps_if (pt_not (pt_val (pe_can cB hr pass0 (pa_cons (pv 0) (pa_cons pe_int (pa1 (pe_glob (v := .int 2) (by rfl) gM ⟨_, rfl⟩))))))) (pss_one (ps_rz rfl M (hr.mono (by decide)) (takes_of rfl rfl rfl rfl) (by rfl) (pv 0))) pss_nil), ?_⟩
    refine ⟨_, rfl, v, o, 1, 2, rfl, N, _, rfl, ?_⟩
    cases e : inR o 1 2 with
    | true => exact iteF (yes e)
    | false => exact iteT ⟨_, rfl, no e⟩
end
end Kx
/-! The program's texts: words, pieces. -/
namespace Kx
open PySem PySem.Spec PyProof.Rows L2 Xa Xb Xc Xd Xs Xp Xm Xl Xq Ya Yb Yc Yd Ye Yf
abbrev sWordsOf : Stmt := top 20
abbrev sIsWord : Stmt := top 21
abbrev sPieceOf : Stmt := top 22
abbrev sRead : Stmt := top 18
theorem lc_yes2 {A B : Hp → Prop} {σ : L2.St} {H : Hp} (h : A H) : tYes σ H (fun b H3 => if b = true then A H3 else B H3) := by
  show if true = true then A H else B H
  rw [if_pos rfl]
  exact h
theorem lc_if {A B : Prop} {b : Bool} (h : b = true → A) (h' : b = false → B) : (if b = true then A else B) := by
  cases b with
  | true =>
    rw [if_pos rfl]
    exact h rfl
  | false =>
    rw [if_neg Bool.false_ne_true]
    exact h' rfl
theorem more_same {H0 H : Hp} {D : Addr} {o : HO} (sm : Same H0 H) (nD : H0 D = none) : Same H0 (upd H D o) := fun c o' e => by
  rw [upd_ne (ne_of_none e nD)]
  exact sm c o' e
section
variable {P : Program} {w : World} {K : PySem.W.Frag} {mg : Str → Option Value} {base : Heap} {f : Addr} {fd : FuncData}
def spWordsOf : Sp := fun xs H Q _ => ∃ z : Str, xs = [.str z] ∧ z.length ≤ 20000 ∧ ∀ p H', Same H H' → H p = none → H' p = some (.lst ((wdsOf z).map V.str)) → Q (.ref p) H'
theorem scWordsOf : FnScope ["text", "word"] ["text"] (defScope sWordsOf) := ⟨rfl, rfl, rfl, by decide +kernel, rfl, by decide +kernel, by decide +kernel⟩
theorem can_wordsof (D : Dfn K mg "words_of" sWordsOf) : Can P w K mg base CX0 1 "words_of" ["text"] spWordsOf := by
  obtain ⟨f, fd, F, g⟩ := D.at_
  refine FnOk.can (FunD.okF F scWordsOf (by decide +kernel) (by decide) (fun xs H Q E h => ?_) (fun cdv A outer s H vs Q E hr h => ?_)) F g fun _ _ _ _ _ _ us hl => match us, hl with | [_], _ => rfl
  · obtain ⟨z, rfl, _⟩ := h
    rfl
  · obtain ⟨z, rfl, hz, q⟩ := h
    refine ⟨_, CwR.psst_one (CwR.pst_ret (pet_lc (own := [("word", 1)]) (g := gName 1) rfl scWordsOf.nd (pit_list (pet_split (CwR.pet_replC (pv 0)) pe_str))
      (blkOk_by (own := [("word", 1)]) (N := ["text", "word"]) (sc := defScope sWordsOf) (by decide +kernel))
      (fun _ _ _ _ _ => pg_name (i := 1) scWordsOf.nd rfl (Or.inl rfl)) (fun _ _ _ _ _ => pts_one (pt_cmpR op_ne (pv 1) pe_str (nomark _))) (fun _ _ _ _ _ => pv 1))), ?_⟩
    have fl := flat_len z
    refine ⟨_, rfl, z, rfl, ?_, ⟨_, rfl⟩, _, _, rfl, rfl, rfl, ?_, fun p0 n0 => ⟨p0, rfl, ⟨_, SqL.of upd_same⟩, fun D nD => ?_⟩⟩
    · have e : Str.length (" " : Str) = 1 := rfl
      rw [e]
      omega
    · show (flat z).length + 2 ≤ sizeLine
      rw [fl, sizeLine_eq]
      omega
    have h0 : (upd H p0 (.lst ((partsOf z).map V.str))) p0 = some (.lst ((partsOf z).map V.str)) := upd_same
    have s0 : Same H (upd H p0 (.lst ((partsOf z).map V.str))) := upd_same_as n0
    replace nD : (upd H p0 (.lst ((partsOf z).map V.str))) D = none := nD
    show ∃ W, _
    have few := parts_few z
    have hD : H D = none := s0.free nD
    refine lc_list (K := K) (a := p0) (xs := (partsOf z).map V.str) (fun i H' => H' D = some (.lst ((((partsOf z).take i).filter full).map V.str)) ∧ Same (upd H p0 (.lst ((partsOf z).map V.str))) H') ⟨upd_same, upd_same_as nD⟩ (fun i H' _ ⟨_, sm⟩ => SqL.of (sm _ _ h0)) ?_ ?_
    · rintro i x H' hx ⟨hd, sm⟩
      rw [List.getElem?_map] at hx
      obtain ⟨y, hy, rfl⟩ : ∃ y, (partsOf z)[i]? = some y ∧ x = V.str y := by
        cases e : (partsOf z)[i]? with
        | none =>
          rw [e] at hx
          cases hx
        | some y =>
          rw [e] at hx
          exact ⟨y, rfl, (Option.some.inj hx).symm⟩
      have tk : (partsOf z).take (i + 1) = (partsOf z).take i ++ [y] := by rw [List.take_add_one, hy] <;> rfl
      have len : (((partsOf z).take i).filter full).length ≤ 20001 := Nat.le_trans (List.length_filter_le _ _) (Nat.le_trans (List.length_take_le _ _) (by
        have := (List.getElem?_eq_some_iff.mp hy).1
        omega))
      refine ⟨rfl, _, rfl, rfl, _, rfl, ?_⟩
      have en : decide (V.str y = V.str ("" : Str)) = decide (y = Str.empty) := by
        by_cases c : y = Str.empty
        · rw [decide_eq_true c, c]
          exact decide_eq_true rfl
        · rw [decide_eq_false c]
          exact decide_eq_false fun z => c (by injection z)
      rw [en]
      generalize hb : (!decide (y = Str.empty)) = b
      refine lc_if (b := b) (fun c => ?_) (fun c => ?_)
      · have fy : full y = true := hb.trans c
        refine ⟨_, rfl, _, hd, ?_, ?_, more_same sm nD⟩
        · rw [List.length_map, sizeLine_eq]
          omega
        · rw [upd_same, tk, List.filter_append, List.filter_cons_of_pos fy, List.map_append]
          rfl
      · have fy : ¬ full y = true := fun z => by
          have z : (!decide (y = Str.empty)) = true := z
          rw [hb, c] at z
          cases z
        refine ⟨?_, sm⟩
        rw [tk, List.filter_append, List.filter_cons_of_neg fy]
        simpa using hd
    · rintro H' ⟨hd, sm⟩
      rw [List.length_map, List.take_length] at hd
      exact q D H' (s0.trans sm) hD hd
def spIsWord : Sp := fun xs H Q _ => ∃ (z : Str) (pl : Nat), xs = [.str z, .int pl] ∧ 1 ≤ pl ∧ pl ≤ 2 ∧ z.length ≤ 20000 ∧ ∀ H', Same H H' → Q (.bl (okW pl z)) H'
theorem scIsWord : FnScope ["word", "places", "sign"] ["word", "places"] (defScope sIsWord) := ⟨rfl, rfl, rfl, by decide +kernel, rfl, by decide +kernel, by decide +kernel⟩
theorem str_get {z : Str} {i : Nat} {c : Nat} (h : z.cps[i]? = some c) : (sg z)[i]? = some c := by
  rw [← h]
  exact Array.getElem?_toList
theorem can_isword (D : Dfn K mg "is_word" sIsWord) (B : Bi2 mg) {ts : Tok} (gS : mg "SIGNS" = some (.str lS ts)) : Can P w K mg base CX0 1 "is_word" ["word", "places"] spIsWord := by
  obtain ⟨f, fd, F, g⟩ := D.at_
  refine FnOk.can (F.ok scIsWord (fun xs H Q E h => ?_) (fun cdv A outer s H vs Q E hr h => ?_)) F g fun _ _ _ _ _ _ us hl => match us, hl with | [_, _], _ => rfl
  · obtain ⟨z, pl, rfl, _⟩ := h
    rfl
  · obtain ⟨z, pl, rfl, p1, p2, hz, q⟩ := h
    refine ⟨_, PSs.nox (pss_one (ps_ret (pe_and (pe_cmpR op_eq (pe_op op_modN (pe_bi call_len_str B.len (pa1 (pv 0))) (pv 1)) pe_int (nomark _)) (pe_one (pe_bi (cr_all rfl) B.all (pa1
      (pe_lc (own := [("sign", 2)]) (g := gName 2) (tt := tYes) rfl scIsWord.nd (pi_str (pv 0)) (blkOk_by (own := [("sign", 2)]) (N := ["word", "places", "sign"]) (sc := defScope sIsWord) (by decide +kernel))
        (fun _ _ _ _ _ => pg_name (i := 2) scIsWord.nd rfl (Or.inl rfl)) (fun _ _ _ _ _ => pts_nil) (fun _ _ _ _ _ => pe_cmpR op_in_sign (pv 2) (pe_glob (v := .str lS) (by rfl) gS ⟨_, rfl⟩) rfl)))))))), ?_⟩
    refine ⟨_, rfl, z, rfl, by rw [sizeLine_eq]; omega, _, rfl, _, _, rfl, rfl, (by show (pl : Int) ≠ 0; omega), rfl, _, rfl, ?_⟩
    have em : decide (V.int (((z.length : Nat) : Int).fmod (pl : Int)) = V.int 0) = decide (z.length % pl = 0) := by
      have e : ((z.length : Nat) : Int).fmod (pl : Int) = ((z.length % pl : Nat) : Int) := by
        rw [Int.fmod_eq_emod_of_nonneg _ (by omega)]
        rfl
      rw [e]
      by_cases c : z.length % pl = 0
      · rw [decide_eq_true c, c]
        exact decide_eq_true rfl
      · rw [decide_eq_false c]
        exact decide_eq_false fun z => c (by injection z with z; omega)
    rw [em]
    by_cases c : z.length % pl = 0
    · rw [decide_eq_true c]
      refine iteT ⟨_, rfl, z, rfl, fun D nD => ?_⟩
      refine lc_it (walk_str (z := z)) (fun i H' => H' D = some (.lst (((sg z).take i).map fun c => V.bl (isS c))) ∧ Same H H') ⟨upd_same, upd_same_as nD⟩ (fun _ _ _ _ => trivial) ?_ ?_
      · rintro i x H' H2 hi ⟨hd, sm⟩ ⟨rfl, cc, hc, rfl⟩
        have hc := str_get hc
        have tk : (sg z).take (i + 1) = (sg z).take i ++ [cc] := by rw [List.take_add_one, hc] <;> rfl
        refine ⟨rfl, lc_yes2 ⟨_, rfl, _, _, rfl, rfl, _, hd, ?_, ?_, more_same sm nD⟩⟩
        · have : i < z.length := hi
          rw [List.length_map, sizeLine_eq]
          have := List.length_take_le i (sg z)
          omega
        · rw [upd_same, tk, List.map_append]
          rfl
      · rintro H' ⟨hd, sm⟩
        have e : (sg z).take z.cps.size = sg z := List.take_of_length_le (Nat.le_of_eq (Array.length_toList))
        rw [e] at hd
        refine ⟨D, (sg z).map isS, rfl, SqL.of (by rw [hd, List.map_map] <;> rfl), ?_⟩
        have ea : ((sg z).map isS).all id = okW pl z := by
          rw [okW, decide_eq_true c, Bool.true_and, List.all_map]
          rfl
        rw [ea]
        exact q H' sm
    · rw [decide_eq_false c]
      refine iteF ?_
      have ea : okW pl z = false := by rw [okW, decide_eq_false c, Bool.false_and]
      have := q H (Same.refl H)
      rw [ea] at this
      exact this
def spPieceOf : Sp := fun xs H Q _ => ∃ z : Str, xs = [.str z] ∧ z.length ≤ 20000 ∧ ∀ a H', Same H H' → H a = none → H' a = some (.lst ((pcN (at_ (sg z)) z.length).map V.int)) → Q (.ref a) H'
theorem scPieceOf : FnScope ["signs", "place", "sign"] ["signs"] (defScope sPieceOf) := ⟨rfl, rfl, rfl, by decide +kernel, rfl, by decide +kernel, by decide +kernel⟩
theorem can_pieceof (D : Dfn K mg "piece_of" sPieceOf) (B : Bi2 mg) {ts : Tok} (gO : mg "TAKEN_SIGNS" = some (.str lO ts)) : Can P w K mg base CX0 1 "piece_of" ["signs"] spPieceOf := by
  obtain ⟨f, fd, F, g⟩ := D.at_
  refine FnOk.can (F.ok scPieceOf (fun xs H Q E h => ?_) (fun cdv A outer s H vs Q E hr h => ?_)) F g fun _ _ _ _ _ _ us hl => match us, hl with | [_], _ => rfl
  · obtain ⟨z, rfl, _⟩ := h
    rfl
  · obtain ⟨z, rfl, hz, q⟩ := h
    refine ⟨_, PSs.nox (pss_one (ps_ret (pe_lc (own := [("place", 1), ("sign", 2)]) (g := gTup K 2 (gCons (gName 1) (gCons (gName 2) gNil))) rfl scPieceOf.nd (pi_enumS (by rfl) B.enum (pa1 (pv 0))) (blkOk_by (own := [("place", 1), ("sign", 2)]) (N := ["signs", "place", "sign"]) (sc := defScope sPieceOf) (by decide +kernel))
        (fun _ _ _ _ _ => pg_tup (by rfl) (pgs_cons (pg_name (i := 1) scPieceOf.nd rfl (Or.inl rfl)) (pgs_cons (pg_name (i := 2) scPieceOf.nd rfl (Or.inl rfl)) pgs_nil))) (fun _ _ _ _ _ => pts_one (pt_cmpR op_in_sign (pv 2) (pe_glob (v := .str lO) (by rfl) gO ⟨_, rfl⟩) rfl)) (fun _ _ _ _ _ => pv 1)))), ?_⟩
    refine ⟨_, rfl, z, rfl, fun D nD => ?_⟩
    refine lc_it (walk_enumS (z := z)) (fun i H' => H' D = some (.lst ((pcN (at_ (sg z)) i).map V.int)) ∧ Same H H') ⟨upd_same, upd_same_as nD⟩ (fun _ _ _ _ => trivial) ?_ ?_
    · rintro i x H' H2 hi ⟨hd, sm⟩ ⟨T, cc, rfl, nT, hc, rfl⟩
      have hc := str_get hc
      have ea : at_ (sg z) i = isO cc := by
        show ((sg z)[i]?).any isO = _
        rw [hc]
        rfl
      have sm2 := more_same (o := .tup [.int (i : Int), .str ⟨#[cc]⟩]) (H := H') (H0 := H) sm (sm.free nT)
      have hd2 : (upd H' T (.tup [.int (i : Int), .str ⟨#[cc]⟩])) D = some (.lst ((pcN (at_ (sg z)) i).map V.int)) := by
        rw [upd_ne (ne_of_none hd nT)]
        exact hd
      refine ⟨T, _, rfl, SqT.of upd_same, rfl, ?_⟩
      refine ⟨.int (i : Int), _, rfl, .str ⟨#[cc]⟩, _, rfl, rfl, ?_⟩
      refine ⟨rfl, _, rfl, _, _, rfl, rfl, _, rfl, ?_⟩
      refine lc_if (b := isO cc) (fun c => ?_) (fun c => ?_)
      · refine ⟨_, rfl, _, hd2, ?_, ?_, more_same sm2 nD⟩
        · rw [List.length_map, sizeLine_eq]
          have := pcN_len (at_ (sg z)) i
          have : i < z.length := hi
          omega
        · rw [upd_same]
          show _ = some (HO.lst ((pcN (at_ (sg z)) i ++ (if at_ (sg z) i = true then [(i : Int)] else [])).map V.int))
          rw [ea, if_pos c, List.map_append]
          rfl
      · refine ⟨?_, sm2⟩
        show _ = some (HO.lst ((pcN (at_ (sg z)) i ++ (if at_ (sg z) i = true then [(i : Int)] else [])).map V.int))
        rw [ea, c, if_neg Bool.false_ne_true, List.append_nil]
        exact hd2
    · rintro H' ⟨hd, sm⟩
      exact q D H' sm nD hd
/-! ### read_plan -/
def spRead (K : PySem.W.Frag) (CN CT : Addr) : Sp := fun xs H Q E => ∃ v p o, xs = [v, p] ∧ Num K H p o ∧ (inR o 1 2 = false → Ref E H CN p) ∧ (inR o 1 2 = true → ∃ pl : Nat, p = .int pl ∧ 1 ≤ pl ∧ pl ≤ 2 ∧ ∃ b, IsK K H v "str" b ∧ (b = false → Ref E H CT v) ∧
  (b = true → ∃ z : Str, v = .str z ∧ z.length ≤ 10000 ∧ (dueOf z pl = none → ∀ H', Same H H' → Ref E H' CT (.str z)) ∧ ∀ ps, dueOf z pl = some ps → ∀ a ks H', Same H H' → H a = none → LL H' a ks → New H a ks → ks.map (·.2) = ps → Q (.ref a) H'))
theorem scRead : FnScope ["text", "places", "words", "word", "at"] ["text", "places"] (defScope sRead) := ⟨rfl, rfl, rfl, by decide +kernel, rfl, by decide +kernel, by decide +kernel⟩
theorem strs_get {ws : List Str} {i : Nat} {x : V} (h : (ws.map V.str)[i]? = some x) : ∃ y, ws[i]? = some y ∧ x = V.str y := by
  rw [List.getElem?_map] at h
  cases e : ws[i]? with
  | none =>
    rw [e] at h
    cases h
  | some y =>
    rw [e] at h
    exact ⟨y, rfl, (Option.some.inj h).symm⟩
theorem rng_size {n pl : Nat} (p1 : 1 ≤ pl) (p2 : pl ≤ 2) (d : n % pl = 0) : Builtin.Range.rangeSize 0 (n : Int) (pl : Int) = ((n / pl : Nat) : Int) := by
  unfold Builtin.Range.rangeSize
  rw [if_pos (by omega)]
  rcases (by omega : pl = 1 ∨ pl = 2) with rfl | rfl
  · by_cases c : (0 : Int) < n
    · rw [if_pos c]
      have : ((n : Int) - 0 - 1) / ((1 : Nat) : Int) = n - 1 := by
        show ((n : Int) - 0 - 1) / 1 = _
        rw [Int.ediv_one]
        omega
      rw [this, Nat.div_one]
      omega
    · rw [if_neg c, Nat.div_one]
      omega
  · by_cases c : (0 : Int) < n
    · rw [if_pos c]
      have : ((n : Int) - 0 - 1) / ((2 : Nat) : Int) = ((n : Int) - 0 - 1) / 2 := rfl
      rw [this]
      omega
    · rw [if_neg c]
      omega
theorem fits_small {i : Int} (h : i.natAbs ≤ 100000) : Builtin.Range.rangeFitsLong i = true := by
  unfold Builtin.Range.rangeFitsLong
  simp
  omega
theorem rng_ok {n pl : Nat} (p1 : 1 ≤ pl) (p2 : pl ≤ 2) (d : n % pl = 0) (hn : n ≤ 10000) : RgC 0 (n : Int) (pl : Int) (n / pl) := by
  have e := rng_size p1 p2 d
  have l : n / pl ≤ n := Nat.div_le_self _ _
  refine ⟨by omega, by omega, ?_, e⟩
  unfold Builtin.Range.small
  rw [e]
  clear e
  generalize n / pl = m at l ⊢
  rw [fits_small (by decide), fits_small (by omega), fits_small (by omega), fits_small (by omega), if_pos (by omega), fits_small (by omega)]
  simp
theorem can_read {CN CT : Addr} {ts : Tok} (D : Dfn K mg "read_plan" sRead) (B : Bi2 mg) (MT : Xc.XMake P w K mg base "InvalidText" CT "value") (cC : Can P w K mg base (L2.CX P w) 3 "check_places" ["places"] (spCkPlaces K CN))
    (cW : Can P w K mg base CX0 1 "words_of" ["text"] spWordsOf) (cI : Can P w K mg base CX0 1 "is_word" ["word", "places"] spIsWord) (cP : Can P w K mg base CX0 1 "piece_of" ["signs"] spPieceOf) :
    Can P w K mg base (L2.CX P w) 4 "read_plan" ["text", "places"] (spRead K CN CT) := by
  obtain ⟨f, fd, F, g⟩ := D.at_
  refine FnOk.can (F.ok scRead (fun xs H Q E h => ?_) (fun cdv A outer s H vs Q E hr h => ?_)) F g fun _ _ _ _ _ _ us hl => match us, hl with | [_, _], _ => rfl
  · obtain ⟨v, p, o, rfl, _⟩ := h
    rfl
  · obtain ⟨v, p, o, rfl, N, noN, yes⟩ := h
    have h1 := hr.mono (show 1 ≤ 3 by decide)
    have pass : Passes (L2.CX P w) (cxOf (L2.CX P w) P w K mg base ["text", "places", "words", "word", "at"] "read_plan" (defScope sRead) f cdv A outer s H E) E := passes_call (takes_of rfl rfl rfl rfl) fun _ _ _ _ z => z
    refine ⟨_, pss_cons (ps_expr (pe_can cC hr pass (pa1 (pv 1))))
      (pss_cons (ps_if (pt_not (pt_val (pe_bi call_kd B.isi (pa_cons (pv 0) (pa1 (pe_tyv "str" B.str)))))) (pss_one (ps_rz rfl MT (hr.mono (by decide)) (takes_of rfl rfl rfl rfl) (by rfl) (pv 0))) pss_nil)
      (pss_cons (ps_set (i := 2) scRead.nd rfl (.inl rfl) (pe_can cW h1 pass0 (pa1 (pv 0))))
      (pss_cons (ps_if (PW.pt (pw_or (pt_cmpR op_eq (pe_bi call_len_seq B.len (pa1 (pv 2))) pe_int (nomark _)) (pw_or1 (pt_not (pt_val (pe_bi (cr_all rfl) B.all (pa1
        (pe_lc (own := [("word", 3)]) (g := gName 3) (tt := tYes) rfl scRead.nd (pi_list (pv 2)) (blkOk_by (own := [("word", 3)]) (N := ["text", "places", "words", "word", "at"]) (sc := defScope sRead) (by decide +kernel))
          (fun _ _ _ _ _ => pg_name (i := 3) scRead.nd rfl (Or.inl rfl)) (fun _ _ _ _ _ => pts_nil) (fun _ _ _ _ _ => pe_can cI h1 pass0 (pa_cons (pv 3) (pa1 (pv 1)))))))))))) (pss_one (ps_rz rfl MT (hr.mono (by decide)) (takes_of rfl rfl rfl rfl) (by rfl) (pv 0))) pss_nil)
      (pss_one (ps_ret (pe_lc2 (own := [("word", 3), ("at", 4)]) (vs1 := [4]) (g := gName 3) (tt := tYes) (g1 := gName 4) (tt1 := tYes) rfl scRead.nd (pi_list (pv 2)) (blkOk_by (own := [("word", 3), ("at", 4)]) (N := ["text", "places", "words", "word", "at"]) (sc := defScope sRead) (by decide +kernel)) (by decide)
          (fun _ _ _ _ _ => pg_name (i := 3) scRead.nd rfl (Or.inl rfl)) (fun _ _ _ _ _ => pts_nil) (fun _ _ _ _ _ => pi_range3 (by rfl) B.range (pa_cons pe_int (pa_cons (pe_bi call_len_str B.len (pa1 (pv 3))) (pa1 (pv 1)))))
          (fun _ _ _ _ _ => pg_name (i := 4) scRead.nd rfl (Or.inl rfl)) (fun _ _ _ _ _ => pts_nil) (fun _ _ _ _ _ => pe_can cP h1 pass0 (pa1 (pe_slice C8.sl_txt (pv 3) (po_some (pv 4)) (po_some (pe_op op_add (pv 4) (pv 1)))))))))))), ?_⟩
    refine ⟨_, rfl, p, o, rfl, N, fun e => ?_, fun e => noN e⟩
    obtain ⟨pl, rfl, p1, p2, b, kd, no2, yes2⟩ := yes e
    refine ⟨_, rfl, v, "str", b, rfl, kd, b, rfl, ?_⟩
    cases b with
    | false => exact iteT ⟨_, rfl, no2 rfl⟩
    | true =>
      obtain ⟨z, rfl, hz, no3, yes3⟩ := yes2 rfl
      refine iteF ⟨_, rfl, z, rfl, by omega, fun p0 H1 s1 n0 h1p => ?_⟩
      have few : (wdsOf z).length ≤ 10001 := Nat.le_trans (List.length_filter_le _ _) (Nat.le_trans (parts_few z) (by omega))
      have wl : ∀ y ∈ wdsOf z, y.length ≤ 10000 := fun y hy => Nat.le_trans (parts_le (List.mem_filter.mp hy).1) hz
      have al := words_len z pl p1
      refine ⟨_, rfl, p0, _, rfl, .inl (SqL.of h1p), rfl, _, rfl, ?_⟩
      have ew : decide (V.int (((wdsOf z).map V.str).length : Int) = V.int 0) = decide (wdsOf z = []) := by
        rw [List.length_map]
        by_cases c : wdsOf z = []
        · rw [decide_eq_true c, c]
          exact decide_eq_true rfl
        · rw [decide_eq_false c]
          refine decide_eq_false fun z => c (List.length_eq_zero_iff.mp ?_)
          injection z with z
          omega
      rw [ew]
      by_cases c : wdsOf z = []
      · rw [decide_eq_true c]
        refine iteT (iteT ⟨_, rfl, no3 ?_ H1 s1⟩)
        unfold dueOf
        rw [if_neg]
        exact fun z => z.1 c
      rw [decide_eq_false c]
      refine iteF ⟨_, rfl, p0, rfl, ⟨_, SqL.of h1p⟩, fun D nD => ?_⟩
      refine lc_list (K := K) (a := p0) (xs := (wdsOf z).map V.str) (fun i H' => H' D = some (.lst (((wdsOf z).take i).map fun y => V.bl (okW pl y))) ∧ Same H1 H') ⟨upd_same, upd_same_as nD⟩ (fun i H' _ ⟨_, sm⟩ => SqL.of (sm _ _ h1p)) ?_ ?_
      · rintro i x H' hx ⟨hd, sm⟩
        obtain ⟨y, hy, rfl⟩ := strs_get hx
        have tk : (wdsOf z).take (i + 1) = (wdsOf z).take i ++ [y] := by rw [List.take_add_one, hy] <;> rfl
        have := wl y (List.mem_of_getElem? hy)
        refine ⟨rfl, lc_yes2 ⟨_, rfl, _, rfl, y, pl, rfl, p1, p2, by omega, fun H2 s2 => ?_⟩⟩
        refine ⟨_, s2 _ _ hd, ?_, ?_, more_same (sm.trans s2) nD⟩
        · rw [List.length_map, sizeLine_eq]
          have := List.length_take_le i (wdsOf z)
          have := List.length_take_le' i (wdsOf z)
          omega
        · rw [upd_same, tk, List.map_append]
          rfl
      rintro H2 ⟨hd, s2⟩
      rw [List.length_map, List.take_length] at hd
      refine ⟨D, (wdsOf z).map (okW pl), rfl, SqL.of (by rw [hd, List.map_map] <;> rfl), _, rfl, ?_⟩
      have ea : ((wdsOf z).map (okW pl)).all id = decide (∀ y ∈ wdsOf z, okW pl y = true) := by
        rw [List.all_map]
        by_cases c2 : ∀ y ∈ wdsOf z, okW pl y = true
        · rw [decide_eq_true c2]
          exact List.all_eq_true.mpr fun y hy => c2 y hy
        · rw [decide_eq_false c2]
          exact List.all_eq_false.mpr (by
            have : ¬ ∀ y ∈ wdsOf z, okW pl y = true := c2
            simp only [Classical.not_forall] at this
            obtain ⟨y, hy, q⟩ := this
            exact ⟨y, hy, q⟩)
      rw [ea]
      by_cases c2 : ¬ ∀ y ∈ wdsOf z, okW pl y = true
      · rw [decide_eq_false c2]
        refine iteT ⟨_, rfl, no3 ?_ H2 (s1.trans s2)⟩
        unfold dueOf
        rw [if_neg]
        exact fun z => c2 z.2
      have c2 : ∀ y ∈ wdsOf z, okW pl y = true := Classical.byContradiction c2
      rw [decide_eq_true c2]
      refine iteF ?_
      have due : dueOf z pl = some (allP pl (wdsOf z)) := by
        unfold dueOf
        rw [if_pos ⟨c, c2⟩]
      have s12 := s1.trans s2
      have h2p := s2 _ _ h1p
      refine ⟨_, rfl, p0, rfl, ⟨_, SqL.of h2p⟩, fun D2 nD2 => ?_⟩
      have nD0 : H D2 = none := s12.free nD2
      refine in_it (walk_list (K := K) (a := p0) (xs := (wdsOf z).map V.str)) (fun i H' => ∃ ks, LL H' D2 ks ∧ New H D2 ks ∧ ks.map (·.2) = allP pl ((wdsOf z).take i) ∧ Same H2 H') ⟨[], ⟨upd_same, fun q h => nomatch h⟩, .nil, rfl, upd_same_as nD2⟩ ?_ ?_ ?_
      · exact fun i H' _ ⟨_, _, _, _, sm⟩ => SqL.of (sm _ _ h2p)
      · rintro i x H' Hb hi ⟨ks, L, N, e, sm⟩ ⟨rfl, hx⟩
        obtain ⟨y, hy, rfl⟩ := strs_get hx
        have ym := List.mem_of_getElem? hy
        have yl := wl y ym
        have yk := c2 y ym
        have yd : y.length % pl = 0 := by
          simp only [okW, Bool.and_eq_true, decide_eq_true_eq] at yk
          exact yk.1
        have ye : y.length / pl * pl = y.length := Nat.div_mul_cancel (Nat.dvd_of_mod_eq_zero yd)
        refine ⟨rfl, lc_yes2 ?_⟩
        refine ⟨_, rfl, y, rfl, by rw [sizeLine_eq]; omega, _, rfl, 0, _, _, y.length / pl, rfl, rng_ok p1 p2 yd (by omega), ?_⟩
        refine in_it walk_rangeC (fun j H' => ∃ ks, LL H' D2 ks ∧ New H D2 ks ∧ ks.map (·.2) = allP pl ((wdsOf z).take i) ++ runU pl (sg y) j ∧ Same H2 H') ⟨ks, L, N, by rw [e]; exact (List.append_nil _).symm, sm⟩ (fun _ _ _ _ => trivial) ?_ ?_
        · rintro j x Hc Hd hj ⟨ks, L, N, e, sm⟩ ⟨rfl, rfl⟩
          have hjp : j * pl + pl ≤ y.length := by
            have := Nat.mul_le_mul_right pl (show j + 1 ≤ y.length / pl from hj)
            rw [ye, Nat.add_mul, Nat.one_mul] at this
            exact this
          have ej : (0 : Int) + (j : Int) * (pl : Int) = ((j * pl : Nat) : Int) := by
            rw [Int.zero_add, Int.natCast_mul]
          obtain ⟨q1, q2⟩ := slice_piece hjp
          rw [← ej] at q1 q2
          refine ⟨rfl, lc_yes2 ?_⟩
          refine ⟨_, rfl, _, rfl, _, rfl, _, rfl, _, rfl, _, _, rfl, rfl, _, rfl, y, rfl, by rw [sizeLine_eq]; omega, ?_⟩
          refine ⟨_, rfl, by rw [q1]; omega, fun a H3 s3 na ha => ?_⟩
          rw [q1, q2] at ha
          obtain ⟨m1, m2, m3⟩ := ll_more L N (fun c o q _ => sm _ _ (s12 _ _ q)) s3 na ha
          have lenk : ks.length ≤ 20000 := by
            have e2 := congrArg List.length e
            rw [List.length_map, List.length_append, runU_len] at e2
            have := allP_take_len pl i (wdsOf z)
            have : j * 1 ≤ j * pl := Nat.mul_le_mul_left j p1
            omega
          refine ⟨_, m1, by rw [List.length_map, sizeLine_eq]; omega, ks ++ [(a, _)], m2, m3, ?_, more_same (sm.trans s3) nD2⟩
          rw [List.map_append, e, List.append_assoc]
          rfl
        · rintro Hc ⟨ks, L, N, e, sm⟩
          refine ⟨ks, L, N, ?_, sm⟩
          rw [e, allP_take pl hy]
          rfl
      · rintro H' ⟨ks, L, N, e, sm⟩
        rw [List.length_map, List.take_length] at e
        exact yes3 _ due D2 ks H' (s12.trans sm) nD0 L N e
end
end Kx
/-! Drawn plans. -/
namespace Kx
open PySem PySem.Spec PyProof.Rows L2 Xa Xb Xc Xd Xs Xp Xm Xl Xq Ya Yb Yc Yd Ye Yf
abbrev sAnyPlan : Stmt := top 28
section
variable {P : Program} {w : World} {K : PySem.W.Frag} {mg : Str → Option Value} {base : Heap} {f : Addr} {fd : FuncData}
/-- all that was tracked stands, but at g -/
def But (g : Addr) (H H' : Hp) : Prop := ∀ c o, H c = some o → c ≠ g → H' c = some o
/-- a piece of a plan -/
def Pc (pl : Nat) (l : List Int) : Prop := l.Pairwise (· < ·) ∧ ∀ z ∈ l, 0 ≤ z ∧ z < pl
def spAnyPlan : Sp := fun xs H Q _ => ∃ (g : Addr) (pl m n : Nat), xs = [.ref g, .int pl, .int m] ∧ 1 ≤ pl ∧ pl ≤ 2 ∧ m ≤ 50 ∧ Gen H g n ∧ n ≤ 2 ^ 39 ∧ ∀ (a : Addr) (ks : List (Addr × List Int)) (H' : Hp), But g H H' → Gen H' g (n + 500) → H a = none → LL H' a ks → New H a ks →
  (∀ q ∈ ks, Pc pl q.2) → ks.length = m → Q (.ref a) H'
theorem scAnyPlan : FnScope ["generator", "places", "many", "full", "found", "piece", "place"] ["generator", "places", "many"] (defScope sAnyPlan) := ⟨rfl, rfl, rfl, by decide +kernel, rfl, by decide +kernel, by decide +kernel⟩
theorem can_anyplan (D : Dfn K mg "_law_any_plan" sAnyPlan) (B : Bi2 mg) {fR : Addr} {fdR fdC : FuncData} {fC : Addr} (FR : FnP K "_law_random" sRandom fR fdR) (gR : mg "_law_random" = some (.ref fR)) (FC : FnP K "_law_hash" sHash fC fdC) (gC : mg "_law_hash" = some (.ref fC)) :
    CanG P w K mg base 3 "_law_any_plan" ["generator", "places", "many"] spAnyPlan := by
  have GR : FnG P w K mg base 2 fR fdR ["generator", "bound"] spRandom := ok_random FR B.toBi FC gC
  have bR : Binds K fdR ["generator", "bound"] [] := FR.bindsN fun _ _ _ _ _ _ us hl => match us, hl with | [_, _], _ => rfl
  obtain ⟨f, fd, F, g⟩ := D.at_
  refine FnG.can (okG F scAnyPlan (fun xs H Q E h => ?_) (fun cdv A outer s H vs Q E hr hn h => ?_)) F g fun _ _ _ _ _ _ us hl => match us, hl with | [_, _, _], _ => rfl
  · obtain ⟨g, pl, m, n, rfl, _⟩ := h
    rfl
  · obtain ⟨g, pl, m, n, rfl, p1, p2, hm, hG, hn1, q⟩ := h
    refine ⟨_, PSs.nox (pss_cons (ps_asg (pe_tup (pa_cons (pe_op op_add pe_int (pe_callG GR hr hn rfl gR FR.kp bR (pa_cons (pv 0) (pa1 pe_int)))) (pa1 (pe_lst pa_nil)))) (pg_tup (by rfl) (pgs_cons (pg_name (i := 3) scAnyPlan.nd rfl (.inr rfl)) (pgs_cons (pg_name (i := 4) scAnyPlan.nd rfl (.inl rfl)) pgs_nil))))
      (pss_cons (ps_for PassesOwn.never rfl (pi_range1 (by rfl) B.range (pa1 (pv 2))) (pg_name (i := 5) scAnyPlan.nd rfl (Or.inl rfl))
        (pss_one (ps_expr (pe_bm PySem.F.plainAttrs_list PySem.F.slot_list_append PySem.F.type_list_append mt_append (pv 4) (pa1
          (pe_lc (own := [("place", 6)]) (g := gName 6) rfl scAnyPlan.nd (pi_range1 (by rfl) B.range (pa1 (pv 1))) (blkOk_by (own := [("place", 6)]) (N := ["generator", "places", "many", "full", "found", "piece", "place"]) (sc := defScope sAnyPlan) (by decide +kernel))
            (fun _ _ _ _ _ => pg_name (i := 6) scAnyPlan.nd rfl (Or.inl rfl)) (fun _ _ _ _ _ => pts_one (pt_cmpR op_gt (pe_callG GR hr hn rfl gR FR.kp bR (pa_cons (pv 0) (pa1 (pv 3)))) pe_int (nomark _))) (fun _ _ _ _ _ => pv 6)))))))
      (pss_one (ps_ret (pv 4))))), ?_⟩
    refine ⟨_, rfl, g, 4, n, rfl, by decide, by decide, hG, by omega, fun r H1 r0 r1 G1 k1 => ?_⟩
    refine ⟨_, _, rfl, rfl, by decide, fun a na => ⟨(by show 2 ≤ sizeLine; decide), fun t nt => ⟨t, _, rfl, SqT.of upd_same, rfl, _, _, rfl, _, _, rfl, rfl, ?_⟩⟩⟩
    have ag : a ≠ g := fun e => by
      obtain ⟨_, _, _, z, _⟩ := G1
      rw [e, z] at na
      cases na
    have Hat : (upd H1 a (.lst [])) a = some (.lst []) := upd_same
    have ta : a ≠ t := ne_of_none Hat nt
    have tg : t ≠ g := fun e => by
      obtain ⟨_, _, _, z, _⟩ := G1
      rw [e, upd_ne (Ne.symm ag), z] at nt
      cases nt
    have na0 : H a = none := by rw [← k1 a ag]; exact na
    have Gup : ∀ {X : Hp} {m : Nat} {b : Addr} {o : HO}, Gen X g m → b ≠ g → Gen (upd X b o) g m := fun ⟨g0, g1, g2, z, r⟩ hb => ⟨g0, g1, g2, by rw [upd_ne (Ne.symm hb)]; exact z, r⟩
    have Gmono : ∀ {X : Hp} {m m' : Nat}, Gen X g m → m ≤ m' → Gen X g m' := fun ⟨g0, g1, g2, z, h1, h2, h3, h4, h5, h6⟩ hb => ⟨g0, g1, g2, z, h1, h2, h3, h4, h5, by omega⟩
    refine ⟨_, rfl, _, rfl, by omega, by omega, ?_⟩
    refine for_range (lo := 0) (n := m) (fun i σ H' => ∃ (v5 : Option V) (ks : List (Addr × List Int)), σ = [some (.ref g), some (.int pl), some (.int m), some (.int (2 + r)), some (.ref a), v5, none] ∧ Gen H' g (n + 4 + 8 * i) ∧ LL H' a ks ∧ New H a ks ∧ (∀ q ∈ ks, Pc pl q.2) ∧ ks.length = i ∧ But g H H')
      ⟨none, [], rfl, Gup (Gup G1 ag) tg, ⟨by rw [upd_ne ta, upd_same] <;> rfl, fun q (h : q ∈ []) => (nomatch h)⟩, .nil, (fun q (h : q ∈ []) => (nomatch h)), rfl, fun c o e hc => ?_⟩ ?_ ?_
    · have e1 : H1 c = some o := by rw [k1 c hc]; exact e
      have e2 : (upd H1 a (.lst [])) c = some o := by rw [upd_ne (ne_of_none e1 na)]; exact e1
      rw [upd_ne (ne_of_none e2 nt)]
      exact e2
    · rintro i σ H' hi ⟨v5, ks, rfl, G, L, N, pc, lk, bt⟩
      have gs : ∀ {X : Hp} {m : Nat}, Gen X g m → ∃ o, X g = some o := fun ⟨_, _, _, z, _⟩ => ⟨_, z⟩
      refine ⟨_, rfl, .inl ⟨rfl, _, SqL.of L.1⟩, _, rfl, _, rfl, by omega, by omega, fun D nD => ?_⟩
      have Dg : D ≠ g := fun e => by
        obtain ⟨o, z⟩ := gs G
        rw [e, z] at nD
        cases nD
      refine lc_range (lo := 0) (n := pl) (fun j H'' => Gen H'' g (n + 4 + 8 * i + 4 * j) ∧ (∃ l : List Int, H'' D = some (.lst (l.map V.int)) ∧ l.Pairwise (· < ·) ∧ (∀ z ∈ l, 0 ≤ z ∧ z < j) ∧ l.length ≤ j) ∧ But g H' H'') ⟨Gup G Dg, ⟨[], upd_same, .nil, (fun z h => nomatch h), Nat.le_refl 0⟩, fun c o e hc => ?_⟩ ?_ ?_
      · rw [upd_ne (ne_of_none e nD)]
        exact e
      · rintro j H'' hj ⟨G2, ⟨l, hl, lp, lm, ll⟩, b2⟩
        refine ⟨rfl, _, rfl, _, rfl, g, 2 + r, _, rfl, by omega, by omega, G2, by omega, fun rr H3 rr0 rr1 G3 k3 => ?_⟩
        have hl3 : H3 D = some (.lst (l.map V.int)) := by rw [k3 D Dg]; exact hl
        have b3 : But g H' H3 := fun c o e hc => by rw [k3 c hc]; exact b2 c o e hc
        refine ⟨_, _, rfl, rfl, _, rfl, ?_⟩
        refine lc_if (fun c => ?_) (fun c => ?_)
        · refine ⟨_, rfl, _, hl3, by rw [List.length_map, sizeLine_eq]; omega, Gup (Gmono G3 (by omega)) Dg, ⟨l ++ [0 + (j : Int)], by rw [upd_same, List.map_append] <;> rfl, ?_, ?_, by rw [List.length_append]; exact Nat.succ_le_succ ll⟩, fun c o e hc => ?_⟩
          · rw [List.pairwise_append]
            refine ⟨lp, List.pairwise_singleton _ _, fun x hx y hy => ?_⟩
            have ey : y = 0 + (j : Int) := by simpa using hy
            have := lm x hx
            omega
          · intro z hz
            rcases List.mem_append.mp hz with hz | hz
            · have := lm z hz
              omega
            · have ez : z = 0 + (j : Int) := by simpa using hz
              omega
          · rw [upd_ne (ne_of_none e nD)]
            exact b3 c o e hc
        · exact ⟨Gmono G3 (by omega), ⟨l, hl3, lp, fun z hz => by have := lm z hz; omega, by omega⟩, b3⟩
      · rintro H'' ⟨G2, ⟨l, hl, lp, lm, ll⟩, b2⟩
        have ng : ∀ c o, H' c = some o → c ≠ g → H'' c = some o := b2
        have L2 : LL H'' a ks := ⟨b2 _ _ L.1 ag, fun q hq => b2 _ _ (L.2 q hq) fun e => by
          obtain ⟨g0, g1, g2, z, _⟩ := G
          have z0 := (N.1 q hq).1
          obtain ⟨g0', g1', g2', z', _⟩ := hG
          rw [e, z'] at z0
          cases z0⟩
        have Da : D ≠ a := fun e => by
          rw [e, L.1] at nD
          cases nD
        have nD0 : H D = none := by
          cases e : H D with
          | none => rfl
          | some o =>
            rw [bt D o e Dg] at nD
            cases nD
        obtain ⟨m1, m2⟩ := ll_add L2 N nD0 Da (fun q hq e => by
          have := L.2 q hq
          rw [e, nD] at this
          cases this) hl
        refine ⟨a, _, _, rfl, rfl, L2.1, by rw [List.length_map]; exact small1000 (by omega), _, ks ++ [(D, l)], rfl, Gup (Gmono G2 (by omega)) ag, m1, m2, ?_, by rw [List.length_append, lk] <;> rfl, fun c o e hc => ?_⟩
        · intro q hq
          rcases List.mem_append.mp hq with hq | hq
          · exact pc q hq
          · rw [List.mem_singleton.mp hq]
            exact ⟨lp, lm⟩
        · rw [upd_ne (ne_of_none e na0)]
          exact b2 _ _ (bt c o e hc) hc
    · rintro σ H' ⟨v5, ks, rfl, G, L, N, pc, lk, bt⟩
      exact ⟨_, rfl, q a ks H' bt (Gmono G (by omega)) na0 L N pc lk⟩
end
end Kx
/-! Own ground: three names at once, with tokens told. -/
namespace Yg
open PySem PySem.Spec PyProof.Rows L2
theorem pst_par3 {X : Cx} {i j l : Nat} {x y z : Str} {a b c : Expr} {ta : TA} {px py pz pt pos : Pos} {kt k2 : Nat} {pt2 : Pos} (hc : X.calm = true) (hN : X.N.Nodup) (hi : X.N[i]? = some x) (hj : X.N[j]? = some y) (hl : X.N[l]? = some z)
    (ij : i ≠ j) (il : i ≠ l) (jl : j ≠ l) (hx : X.env.scope.names.lookup x = some .local) (hy : X.env.scope.names.lookup y = some .local) (hz : X.env.scope.names.lookup z = some .local) (ha : PAT X [a, b, c] ta)
    (hw : swappedStores [.Tuple [.Name x px, .Name y py, .Name z pz] kt pt] (.Tuple [a, b, c] k2 pt2) X.env = pure (some [x, y, z])) (hs : swapsWithSole [.Tuple [.Name x px, .Name y py, .Name z pz] kt pt] (.Tuple [a, b, c] k2 pt2) pos.line X.env = pure false := by rfl) :
    PST X (.Assign [.Tuple [.Name x px, .Name y py, .Name z pz] kt pt] (.Tuple [a, b, c] k2 pt2) pos) (tPar3 i j l ta) := by
  intro pins s σ H D h0 I h
  rw [exec_Assign_arm]
  refine wpAny_bind (wpAny_standAt ?_)
  rw [hs]
  refine wpAny_bind (wpAny_pure ?_)
  rw [if_neg (by decide)]
  refine wpAny_bind (Tuple_ (thn (ha pt2 pins s σ H _ h0 I h) fun us s1 w => ?_))
  obtain ⟨vs, H1, I1, r1, v1, v2, v3, rfl, q1⟩ := w
  obtain ⟨u1, u2, u3, rfl, r1, r2, r3⟩ : ∃ u1 u2 u3, us = [u1, u2, u3] ∧ RelV v1 u1 ∧ RelV v2 u2 ∧ RelV v3 u3 := by
    cases r1 with
    | cons p q =>
      cases q with
      | cons p2 q2 =>
        cases q2 with
        | cons p3 q3 =>
          cases q3
          exact ⟨_, _, _, rfl, p, p2, p3⟩
  refine wpAny_newObj_type ?_
  rw [hw]
  refine wpAny_bind (wpAny_pure ?_)
  show wpAny _ _ (do
      rule "assign.swapped-stores"
      let items ← unpackItems (.ref s1.heap.objs.size) ([x, y, z] : List Str).length none
      assignInOrder (([x, y, z] : List Str).reverse.map fun n => bindName X.env n) items.reverse
      pure Flow.next) _ _ _
  refine wpAny_bind (wpAny_rule (wpAny_bind (unpackItems_tuple (items := #[u1, u2, u3]) (I.ok.hd hc) (IsTup.new s1.heap #[u1, u2, u3]) fun h' hk => ?_)))
  have I2 : Inv X pins σ H1 { s1 with heap := h' } := I1.kept fun b u e => hk b u (Nat.ne_of_lt (Nat.lt_trans (Heap.lt_size e) (by
    show s1.heap.objs.size < (s1.heap.push _).objs.size
    rw [Heap.size_push]
    exact Nat.lt_succ_self _))) (Heap.get?_push_of_some _ e)
  refine wpAny_bind ?_
  show wpAny _ _ (assignInOrder [bindName X.env z, bindName X.env y, bindName X.env x] [u3, u2, u1]) _ _ _
  refine assignInOrder_cons (wpAny_bindName (store_ok I2 hN hl (.inl hz) r3 (fun s3 I3 => ?_) (.inr hz)))
  refine assignInOrder_cons (wpAny_bindName (store_ok I3 hN hj (.inl hy) r2 (fun s4 I4 => ?_) (.inr hy)))
  refine assignInOrder_cons (wpAny_bindName (store_ok I4 hN hi (.inl hx) r1 (fun s5 I5 => ?_) (.inr hx)))
  refine assignInOrder_nil (wpAny_pure ⟨_, H1, I5, ?_⟩)
  have e : ((σ.set l (some v3)).set j (some v2)).set i (some v1) = ((σ.set i (some v1)).set j (some v2)).set l (some v3) := by
    rw [List.set_comm _ _ (Ne.symm jl), List.set_comm _ _ (Ne.symm il), List.set_comm (l := σ) _ _ (Ne.symm ij)]
  rw [e]
  exact q1
end Yg
/-! Own ground: texts of bounded length. -/
namespace Yh
open PySem PySem.Spec PyProof.Rows L2 Ya
def Tx (n : Nat) (z : Str) : Prop := z.length ≤ n ∧ PyData.strOk z = true
theorem ok_iff {z : Str} : PyData.strOk z = true ↔ ∀ c ∈ sg z, c < 1114112 := by
  constructor
  · intro h c hc
    have h2 : ∀ (i : Nat) (x : i < z.cps.size), z.cps[i] < 1114112 := by simpa [PyData.strOk] using h
    obtain ⟨i, hi, e⟩ := Array.getElem_of_mem (Array.mem_toList_iff.mp hc)
    have := h2 i hi
    rw [e] at this
    exact this
  · intro h
    have : ∀ (i : Nat) (x : i < z.cps.size), z.cps[i] < 1114112 := fun i hi => h _ (Array.mem_toList_iff.mpr (Array.getElem_mem hi))
    simpa [PyData.strOk] using this
theorem Tx.up {m n : Nat} {z : Str} (h : Tx m z) (e : m ≤ n) : Tx n z := ⟨Nat.le_trans h.1 e, h.2⟩
theorem len_sg (z : Str) : (sg z).length = z.length := Array.length_toList
theorem tx_app {m n : Nat} {x y : Str} (a : Tx m x) (b : Tx n y) : Tx (m + n) (x ++ y) := by
  constructor
  · rw [← len_sg, sg_append, List.length_append, len_sg, len_sg]
    exact Nat.add_le_add a.1 b.1
  · refine ok_iff.mpr fun c hc => ?_
    rw [sg_append] at hc
    rcases List.mem_append.mp hc with hc | hc
    · exact ok_iff.mp a.2 c hc
    · exact ok_iff.mp b.2 c hc
theorem tx_sub {m : Nat} {x y : Str} (a : Tx m x) (h : y.length ≤ x.length) (s : ∀ c ∈ y.cps.toList, c ∈ x.cps.toList) : Tx m y :=
  ⟨Nat.le_trans h a.1, ok_iff.mpr fun c hc => ok_iff.mp a.2 c (s c hc)⟩
theorem tx_slice {m : Nat} {x : Str} (a : Tx m x) (lo hi : Option Int) : Tx m (Txt.slice x lo hi) := by
  unfold Txt.slice
  split
  · exact a
  · refine tx_sub a ?_ fun c hc => ?_
    · show (List.toArray _).size ≤ _
      rw [List.size_toArray]
      exact Nat.le_trans (List.length_filterMap_le _ _) (PyProof.Rows.indices_len_le _ _ _)
    · have hc : c ∈ (Builtin.Str.strSliceIndices lo hi 1 x.length).filterMap fun i => x.cps[i]? := hc
      obtain ⟨i, _, e⟩ := List.mem_filterMap.mp hc
      exact Array.mem_toList_iff.mpr (Array.mem_of_getElem? e)
theorem tx_fit {m n : Nat} {x y : Str} (a : Tx m x) (b : Tx n y) (h : m + n ≤ 16777216 := by decide) : x.length + y.length ≤ sizeLine := by
  rw [sizeLine_eq]
  have := a.1
  have := b.1
  omega
theorem tx_line {m : Nat} {x : Str} (a : Tx m x) (h : m ≤ 16777216 := by decide) : x.length ≤ sizeLine := by
  rw [sizeLine_eq]
  exact Nat.le_trans a.1 h
def AllS (n : Nat) (vs : List V) : Prop := ∀ v ∈ vs, ∃ y, v = V.str y ∧ Tx n y
theorem as_nil {n : Nat} : AllS n [] := fun v h => nomatch h
theorem as_cons {m n : Nat} {y : Str} {vs : List V} (t : Tx m y) (h : AllS n vs) (e : m ≤ n := by decide) : AllS n (.str y :: vs) := fun v hv => by
  rcases List.mem_cons.mp hv with rfl | hv
  · exact ⟨y, rfl, t.up e⟩
  · exact h v hv
theorem as_app {n : Nat} {vs ws : List V} (a : AllS n vs) (b : AllS n ws) : AllS n (vs ++ ws) := fun v hv => (List.mem_append.mp hv).elim (a v) (b v)
theorem pickS {n : Nat} {vs : List V} (h : AllS n vs) {k : Nat} (hk : k < vs.length) : ∃ s, atI vs (k : Int) = some (V.str s) ∧ Tx n s := by
  obtain ⟨y, e, t⟩ := h vs[k] (List.getElem_mem hk)
  exact ⟨y, atI_nat (by rw [List.getElem?_eq_getElem hk, e]), t⟩
theorem tx_join {n : Nat} {g : Str} {ps : List Str} (tg : Tx 1 g) (h : ∀ p ∈ ps, Tx n p) : Tx ((n + 1) * ps.length) (Txt.join g ps) := by
  have e : Txt.join g ps = Str.join g ps := StrLaws.glued_eq_join g ps
  rw [e]
  constructor
  · have a := len_join g ps
    rw [← len_sg]
    have sum : (ps.map fun p => (sg p).length).sum ≤ n * ps.length := by
      clear a e
      induction ps with
      | nil => exact Nat.zero_le _
      | cons p ps ih =>
        have := ih fun q hq => h q (List.mem_cons_of_mem _ hq)
        have hp := (h p List.mem_cons_self).1
        rw [← len_sg] at hp
        rw [List.map_cons, List.sum_cons, List.length_cons, Nat.mul_add]
        omega
    have g1 : (sg g).length ≤ 1 := by rw [len_sg]; exact tg.1
    have gl : ps.length * (sg g).length ≤ ps.length * 1 := Nat.mul_le_mul_left _ g1
    rw [Nat.add_mul, Nat.one_mul]
    split at a <;> omega
  · refine ok_iff.mpr fun c hc => ?_
    rcases mem_join hc with hc | ⟨p, hp, hc⟩
    · exact ok_iff.mp tg.2 c hc
    · exact ok_iff.mp (h p hp).2 c hc
theorem join_fit {n : Nat} {g : Str} {ps : List Str} (tg : Tx 1 g) (h : ∀ p ∈ ps, Tx n p) (e : (n + 1) * ps.length ≤ 16777216) : (ps.map (·.length)).sum + ps.length * g.length ≤ 16777216 := by
  have sum : (ps.map (·.length)).sum ≤ n * ps.length := by
    clear e
    induction ps with
    | nil => exact Nat.zero_le _
    | cons p ps ih =>
      have := ih fun q hq => h q (List.mem_cons_of_mem _ hq)
      have hp := (h p List.mem_cons_self).1
      rw [List.map_cons, List.sum_cons, List.length_cons, Nat.mul_add]
      omega
  have gl : ps.length * g.length ≤ ps.length * 1 := Nat.mul_le_mul_left _ tg.1
  rw [Nat.add_mul, Nat.one_mul] at e
  omega
def rJn (K : PySem.W.Frag) : V → List V → Hp → VK → Prop := fun x xs H Q => ∃ a p, ∃ ys : List Str, x = .str a ∧ xs = [.ref p] ∧ (SqL K H p (ys.map V.str) ∨ SqT K H p (ys.map V.str)) ∧ (ys.map (·.length)).sum + ys.length * a.length ≤ 16777216 ∧ Q (.str (Txt.join a ys)) H
/-- join, its reading told without the block's own context -/
theorem pe_jn {X : Cx} {K : PySem.W.Frag} {o e : Expr} {to te : TE} {apos pos : Pos} (hK : X.K = K) (ho : PE X o to) (he : PE X e te) (hs : starEach [e] X.env = [(false, eval e X.env)] := by rfl) (hb : attributeBase o "join" X.env (eval o X.env) = eval o X.env := by rfl) (hl : (apos.endLine == pos.line) = true := by rfl) :
    PE X (.Call (.Attribute o "join" apos) [e] [] pos) (tM1 (rJn K) to te) := by
  subst hK
  exact pe_join ho he hs hb hl
end Yh
/-! Own ground: what a text tells, sign by sign from the left. -/
namespace Yi
open PySem PySem.Spec PyProof.Rows L2 Ya Ye Yh
def isB (c : Nat) : Bool := c == 32 || c == 10
abbrev StW := List (List Nat) × List Nat
def finW (s : StW) : List (List Nat) := if s.2 = [] then s.1 else s.1 ++ [s.2]
def stepW (s : StW) (c : Nat) : StW := if isB c = true then (finW s, []) else (s.1, s.2 ++ [c])
def step32 (s : StW) (c : Nat) : StW := if (c == 32) = true then (finW s, []) else (s.1, s.2 ++ [c])
def nl (c : Nat) : Nat := if c = 10 then 32 else c
theorem join_cons2 (g p q : Str) (r : List Str) : sg (Str.join g (p :: q :: r)) = sg p ++ sg g ++ sg (Str.join g (q :: r)) := by
  show sg (p ++ g ++ Str.join g (q :: r)) = _
  rw [sg_append, sg_append]
theorem map_nl {l : List Nat} (h : 10 ∉ l) : l.map nl = l := by
  induction l with
  | nil => rfl
  | cons c l ih =>
    rw [List.map_cons, ih fun z => h (List.mem_cons_of_mem _ z), nl, if_neg fun z => h (by rw [z]; exact List.mem_cons_self)]
theorem join_nl : ∀ ps : List Str, (∀ p ∈ ps, 10 ∉ sg p) → sg (Str.join ⟨#[32]⟩ ps) = (sg (Str.join ⟨#[10]⟩ ps)).map nl
  | [], _ => rfl
  | [p], h => (map_nl (h p List.mem_cons_self)).symm
  | p :: q :: r, h => by
    rw [join_cons2, join_cons2, List.map_append, List.map_append, map_nl (h p List.mem_cons_self), join_nl (q :: r) fun s hs => h s (List.mem_cons_of_mem _ hs)]
    rfl
theorem flat_map (z : Str) : sg (flat z) = (sg z).map nl := by
  have h := join_nl (Txt.split z ⟨#[10]⟩) fun p hp => StrLaws.split_free z 10 p hp
  rw [StrLaws.join_split] at h
  rw [flat_eq]
  exact h
theorem step_nl (s : StW) (c : Nat) : step32 s (nl c) = stepW s c := by
  unfold step32 stepW isB nl
  by_cases h : c = 10
  · rw [if_pos h, h]
    rfl
  · rw [if_neg h]
    have : (c == 10) = false := by simpa using h
    rw [this, Bool.or_false]
theorem fold_nl (l : List Nat) : ∀ s : StW, (l.map nl).foldl step32 s = l.foldl stepW s := by
  induction l with
  | nil => exact fun s => rfl
  | cons c l ih =>
    intro s
    rw [List.map_cons, List.foldl_cons, List.foldl_cons, step_nl, ih]
theorem fold_word {p : List Nat} (h : 32 ∉ p) : ∀ s : StW, p.foldl step32 s = (s.1, s.2 ++ p) := by
  induction p with
  | nil => exact fun s => by simp
  | cons c p ih =>
    intro s
    have hc : (c == 32) = false := by
      have : c ≠ 32 := fun z => h (by rw [z]; exact List.mem_cons_self)
      simpa using this
    rw [List.foldl_cons, ih fun z => h (List.mem_cons_of_mem _ z)]
    unfold step32
    rw [hc, if_neg Bool.false_ne_true]
    simp
theorem full_iff (w : Str) : full w = true ↔ sg w ≠ [] := by
  unfold full
  constructor
  · intro h e
    have : w = Str.empty := by
      obtain ⟨a⟩ := w
      have e : a.toList = [] := e
      show Str.mk a = Str.mk #[]
      rw [Array.toList_eq_nil_iff.mp e]
    rw [this] at h
    simp at h
  · intro h
    have : w ≠ Str.empty := fun z => h (by rw [z]; rfl)
    rw [decide_eq_false this]
    rfl
theorem fold_parts : ∀ (ps : List Str), (∀ p ∈ ps, 32 ∉ sg p) → ∀ (p : Str), 32 ∉ sg p → ∀ s : StW, finW ((sg (Str.join ⟨#[32]⟩ (p :: ps))).foldl step32 s) = finW (s.1, s.2 ++ sg p) ++ (ps.filter full).map sg
  | [], _, p, hp, s => by
    show finW ((sg p).foldl step32 s) = _
    rw [fold_word hp]
    simp
  | q :: r, h, p, hp, s => by
    rw [join_cons2, List.foldl_append, List.foldl_append, fold_word hp]
    have e : (sg (⟨#[32]⟩ : Str)).foldl step32 (s.1, s.2 ++ sg p) = (finW (s.1, s.2 ++ sg p), []) := rfl
    rw [e, fold_parts r (fun x hx => h x (List.mem_cons_of_mem _ hx)) q (h q List.mem_cons_self)]
    show finW (finW (s.1, s.2 ++ sg p), [] ++ sg q) ++ _ = _
    rw [List.nil_append]
    by_cases c : sg q = []
    · have nf : ¬ full q = true := fun z => (full_iff q).mp z c
      rw [List.filter_cons_of_neg nf]
      show (if sg q = [] then finW (s.1, s.2 ++ sg p) else _) ++ _ = _
      rw [if_pos c]
    · have nf : full q = true := (full_iff q).mpr c
      rw [List.filter_cons_of_pos nf]
      show (if sg q = [] then _ else finW (s.1, s.2 ++ sg p) ++ [sg q]) ++ _ = _
      rw [if_neg c, List.map_cons, List.append_assoc]
      rfl
theorem wds_fold (z : Str) : (wdsOf z).map sg = finW ((sg z).foldl stepW ([], [])) := by
  rw [← fold_nl, ← flat_map, ← StrLaws.join_split (flat z) ⟨#[32]⟩]
  have free : ∀ p ∈ Txt.split (flat z) ⟨#[32]⟩, 32 ∉ sg p := fun p hp => StrLaws.split_free (flat z) 32 p hp
  show ((Txt.split (flat z) ⟨#[32]⟩).filter full).map sg = _
  have pos : 1 ≤ (Txt.split (flat z) ⟨#[32]⟩).length := PyProof.Rows.split_pos _ _
  generalize Txt.split (flat z) ⟨#[32]⟩ = ps at free pos ⊢
  cases ps with
  | nil => cases pos
  | cons p ps =>
    rw [fold_parts ps (fun x hx => free x (List.mem_cons_of_mem _ hx)) p (free p List.mem_cons_self)]
    show _ = (if [] ++ sg p = [] then [] else [] ++ [[] ++ sg p]) ++ _
    rw [List.nil_append, List.nil_append]
    by_cases c : sg p = []
    · rw [if_pos c, List.filter_cons_of_neg (fun z => (full_iff p).mp z c)]
      rfl
    · rw [if_neg c, List.filter_cons_of_pos ((full_iff p).mpr c)]
      rfl
/-! ### what is told so far -/
def runLn (pl : Nat) (w : List Nat) : List (List Int) := runU pl w (w.length / pl)
def okL (pl : Nat) (w : List Nat) : Prop := w.length % pl = 0 ∧ ∀ c ∈ w, isS c = true
structure Good (pl : Nat) (s : StW) (acc : List (List Int)) : Prop where
  done : ∀ w ∈ s.1, okL pl w
  cur : okL pl s.2
  val : (s.1.flatMap (runLn pl)) ++ runLn pl s.2 = acc
def Told (pl : Nat) (z : List Nat) (acc : List (List Int)) : Prop := Good pl (z.foldl stepW ([], [])) acc
theorem runLn_nil (pl : Nat) : runLn pl [] = [] := by
  show runU pl [] (0 / pl) = []
  rw [Nat.zero_div]
  rfl
theorem told_nil (pl : Nat) : Told pl [] [] := by
  have h0 : okL pl [] := ⟨Nat.zero_mod pl, fun c h => nomatch h⟩
  refine ⟨fun w (h : w ∈ []) => (nomatch h), h0, ?_⟩
  show [] ++ runLn pl [] = []
  rw [runLn_nil]
  rfl
theorem good_fin {pl : Nat} {s : StW} {acc : List (List Int)} (g : Good pl s acc) : Good pl (finW s, []) acc := by
  obtain ⟨d, c, v⟩ := g
  refine ⟨fun w hw => ?_, ⟨Nat.zero_mod pl, fun c h => nomatch h⟩, ?_⟩
  · have hw : w ∈ finW s := hw
    unfold finW at hw
    split at hw
    · exact d w hw
    · rcases List.mem_append.mp hw with h | h
      · exact d w h
      · rw [List.mem_singleton.mp h]
        exact c
  · show (finW s).flatMap (runLn pl) ++ runLn pl [] = acc
    rw [runLn_nil, List.append_nil, ← v]
    unfold finW
    split
    · rename_i e
      rw [e, runLn_nil, List.append_nil]
    · rw [List.flatMap_append]
      show _ ++ (runLn pl s.2 ++ []) = _
      rw [List.append_nil]
theorem told_blank {pl : Nat} {z b : List Nat} {acc : List (List Int)} (t : Told pl z acc) (hb : ∀ c ∈ b, isB c = true) : Told pl (z ++ b) acc := by
  unfold Told at t ⊢
  rw [List.foldl_append]
  generalize z.foldl stepW ([], []) = s at t
  clear z
  induction b generalizing s with
  | nil => exact t
  | cons c b ih =>
    rw [List.foldl_cons]
    refine ih (fun x hx => hb x (List.mem_cons_of_mem _ hx)) (stepW s c) ?_
    unfold stepW
    rw [if_pos (hb c List.mem_cons_self)]
    exact good_fin t
theorem runU_congr {pl : Nat} {w u : List Nat} : ∀ {n : Nat}, n * pl ≤ w.length → runU pl (w ++ u) n = runU pl w n
  | 0, _ => rfl
  | n + 1, h => by
    have h2 : n * pl + pl ≤ w.length := by rw [Nat.add_mul, Nat.one_mul] at h; exact h
    show runU pl (w ++ u) n ++ [piece pl (w ++ u) (n * pl)] = runU pl w n ++ [piece pl w (n * pl)]
    rw [runU_congr (by omega)]
    congr 2
    refine pcN_congr fun k hk => ?_
    show ((w ++ u)[n * pl + k]?).any isO = (w[n * pl + k]?).any isO
    rw [List.getElem?_append_left (by omega)]
theorem run_more {pl : Nat} {w u : List Nat} (hp : 1 ≤ pl) (hw : w.length % pl = 0) (hu : u.length = pl) : runLn pl (w ++ u) = runLn pl w ++ [piece pl u 0] := by
  have e : (w ++ u).length / pl = w.length / pl + 1 := by
    rw [List.length_append, hu, Nat.add_div_right _ hp]
  have ew : w.length / pl * pl = w.length := Nat.div_mul_cancel (Nat.dvd_of_mod_eq_zero hw)
  unfold runLn
  rw [e]
  show runU pl (w ++ u) (w.length / pl) ++ [piece pl (w ++ u) (w.length / pl * pl)] = _
  rw [runU_congr (by rw [ew]; exact Nat.le_refl _), ew]
  congr 2
  refine pcN_congr fun k hk => ?_
  show ((w ++ u)[w.length + k]?).any isO = (u[0 + k]?).any isO
  rw [List.getElem?_append_right (by omega)]
  congr 2
  omega
theorem isS_notB {c : Nat} (h : isS c = true) : isB c = false := by
  obtain ⟨a, b⟩ := isS_ne h
  unfold isB
  simp [a, b]
theorem fold_signs {u : List Nat} (h : ∀ c ∈ u, isS c = true) : ∀ s : StW, u.foldl stepW s = (s.1, s.2 ++ u) := by
  induction u with
  | nil => exact fun s => by simp
  | cons c u ih =>
    intro s
    rw [List.foldl_cons, ih fun x hx => h x (List.mem_cons_of_mem _ hx)]
    unfold stepW
    rw [if_neg (by rw [isS_notB (h c List.mem_cons_self)]; exact Bool.false_ne_true)]
    simp
theorem told_piece {pl : Nat} {z u : List Nat} {acc : List (List Int)} (hp : 1 ≤ pl) (t : Told pl z acc) (hs : ∀ c ∈ u, isS c = true) (hu : u.length = pl) : Told pl (z ++ u) (acc ++ [piece pl u 0]) := by
  unfold Told at t ⊢
  rw [List.foldl_append]
  generalize z.foldl stepW ([], []) = s at t
  rw [fold_signs hs]
  obtain ⟨d, c, v⟩ := t
  refine ⟨d, ⟨?_, ?_⟩, ?_⟩
  · show (s.2 ++ u).length % pl = 0
    rw [List.length_append, hu, Nat.add_mod_right]
    exact c.1
  · intro x hx
    rcases List.mem_append.mp hx with h | h
    · exact c.2 x h
    · exact hs x h
  · show s.1.flatMap (runLn pl) ++ runLn pl (s.2 ++ u) = _
    rw [run_more hp c.1 hu, ← List.append_assoc, v]
/-- what a whole text tells -/
theorem due_told {pl : Nat} {z : Str} {acc : List (List Int)} (hp : 1 ≤ pl) (t : Told pl (sg z) acc) (ne : acc ≠ []) : dueOf z pl = some acc := by
  have g := good_fin t
  have e := wds_fold z
  obtain ⟨d, _, v⟩ := g
  have d : ∀ w ∈ finW ((sg z).foldl stepW ([], [])), okL pl w := d
  have v : (finW ((sg z).foldl stepW ([], []))).flatMap (runLn pl) ++ runLn pl [] = acc := v
  rw [runLn_nil, List.append_nil] at v
  rw [← e] at d v
  have va : allP pl (wdsOf z) = acc := by
    rw [← v, List.flatMap_map]
    unfold allP
    congr 1
  unfold dueOf
  rw [if_pos, va]
  refine ⟨fun z0 => ne ?_, fun w hw => ?_⟩
  · rw [← va, z0]
    rfl
  · obtain ⟨a, b⟩ := d (sg w) (List.mem_map.mpr ⟨w, hw, rfl⟩)
    rw [len_sg] at a
    rw [okW, decide_eq_true a, Bool.true_and]
    exact List.all_eq_true.mpr b
end Yi
/-! The program's plans: pieces, and lists of them. -/
namespace Kx
open PySem PySem.Spec PyProof.Rows L2 Xa Xb Xc Xd Xs Xp Xm Xr Xl Xq Ya Yb Yc Yd Ye Yf Yg Yh Yi
abbrev sIsPiece : Stmt := top 11
abbrev sArePieces : Stmt := top 12
abbrev sAscends : Stmt := top 13
/-- built-ins besides -/
structure Bi3 (mg : Str → Option Value) : Prop extends Bi2 mg where
  list : mg "list" = none
  zip : mg "zip" = none
/-! ### what pieces are -/
def asc : List Int → Bool
  | [] => true
  | [_] => true
  | x :: y :: r => decide (x < y) && asc (y :: r)
def intsO : List (Option Int) → List Int
  | [] => []
  | some i :: r => i :: intsO r
  | none :: r => intsO r
inductive Nums (K : PySem.W.Frag) (H : Hp) : List V → List (Option Int) → Prop
  | nil : Nums K H [] []
  | cons {v : V} {o : Option Int} {vs : List V} {os : List (Option Int)} (h : Num K H v o) (t : Nums K H vs os) : Nums K H (v :: vs) (o :: os)
def pceB (pl : Nat) (os : List (Option Int)) : Bool := os.all (fun o => Xp.inR o 0 ((pl : Int) - 1)) && asc (intsO os)
inductive Pce (K : PySem.W.Frag) (H : Hp) (pl : Nat) : V → Bool → Prop
  | kind {v : V} (h : IsK K H v "list" false) : Pce K H pl v false
  | lst {a : Addr} {xs : List V} {os : List (Option Int)} (h : H a = some (.lst xs)) (hn : Nums K H xs os) (few : xs.length ≤ 100) : Pce K H pl (.ref a) (pceB pl os)
inductive Pces (K : PySem.W.Frag) (H : Hp) (pl : Nat) : List V → List Bool → Prop
  | nil : Pces K H pl [] []
  | cons {v : V} {b : Bool} {vs : List V} {bs : List Bool} (h : Pce K H pl v b) (t : Pces K H pl vs bs) : Pces K H pl (v :: vs) (b :: bs)
inductive Pcs (K : PySem.W.Frag) (H : Hp) (pl : Nat) : V → Bool → Prop
  | kind {v : V} (h : IsK K H v "list" false) : Pcs K H pl v false
  | lst {a : Addr} {xs : List V} {bs : List Bool} (h : H a = some (.lst xs)) (hp : Pces K H pl xs bs) (few : xs.length ≤ 1000) : Pcs K H pl (.ref a) (bs.all id)
section
variable {K : PySem.W.Frag} {H H' : Hp}
theorem num_same (e : Same H H') {v : V} {o : Option Int} : Num K H v o → Num K H' v o
  | .is i => .is i
  | .no ⟨T, b1, b2, k, e1, e2, e3⟩ => .no ⟨T, b1, b2, ty_same e k, e1, e2, e3⟩
theorem nums_same (e : Same H H') : ∀ {vs : List V} {os : List (Option Int)}, Nums K H vs os → Nums K H' vs os
  | _, _, .nil => .nil
  | _, _, .cons h t => .cons (num_same e h) (nums_same e t)
theorem pce_same (e : Same H H') {pl : Nat} {v : V} {b : Bool} : Pce K H pl v b → Pce K H' pl v b
  | .kind h => .kind (isk_same e h)
  | .lst h hn few => .lst (e _ _ h) (nums_same e hn) few
theorem pces_same (e : Same H H') {pl : Nat} : ∀ {vs : List V} {bs : List Bool}, Pces K H pl vs bs → Pces K H' pl vs bs
  | _, _, .nil => .nil
  | _, _, .cons h t => .cons (pce_same e h) (pces_same e t)
theorem pcs_same (e : Same H H') {pl : Nat} {v : V} {b : Bool} : Pcs K H pl v b → Pcs K H' pl v b
  | .kind h => .kind (isk_same e h)
  | .lst h hp few => .lst (e _ _ h) (pces_same e hp) few
theorem nums_get : ∀ {vs : List V} {os : List (Option Int)}, Nums K H vs os → ∀ {i : Nat} {v : V}, vs[i]? = some v → ∃ o, os[i]? = some o ∧ Num K H v o
  | _, _, .nil, i, v, h => by simp at h
  | _, _, .cons h t, 0, v, e => ⟨_, rfl, by have e : _ = _ := Option.some.inj e; rw [← e]; exact h⟩
  | _, _, .cons h t, i + 1, v, e => nums_get t (by simpa using e)
theorem pces_get {pl : Nat} : ∀ {vs : List V} {bs : List Bool}, Pces K H pl vs bs → ∀ {i : Nat} {v : V}, vs[i]? = some v → ∃ b, bs[i]? = some b ∧ Pce K H pl v b
  | _, _, .nil, i, v, h => by simp at h
  | _, _, .cons h t, 0, v, e => ⟨_, rfl, by have e : _ = _ := Option.some.inj e; rw [← e]; exact h⟩
  | _, _, .cons h t, i + 1, v, e => pces_get t (by simpa using e)
theorem nums_len : ∀ {vs : List V} {os : List (Option Int)}, Nums K H vs os → os.length = vs.length
  | _, _, .nil => rfl
  | _, _, .cons h t => congrArg Nat.succ (nums_len t)
theorem pces_len {pl : Nat} : ∀ {vs : List V} {bs : List Bool}, Pces K H pl vs bs → bs.length = vs.length
  | _, _, .nil => rfl
  | _, _, .cons h t => congrArg Nat.succ (pces_len t)
theorem nums_ints {lo hi : Int} : ∀ {vs : List V} {os : List (Option Int)}, Nums K H vs os → os.all (fun o => Xp.inR o lo hi) = true → vs = (intsO os).map V.int
  | _, _, .nil, _ => rfl
  | _, _, .cons (.is i) t, e => by
    simp only [List.all_cons, Bool.and_eq_true] at e
    show V.int i :: _ = V.int i :: _
    rw [← nums_ints t e.2]
  | _, _, .cons (.no h) t, e => by
    simp only [List.all_cons, Bool.and_eq_true] at e
    cases e.1
end
/-- the comparisons of neighbours -/
def asc2 (l : List Int) (i : Nat) : Bool := match l[i]?, l[i + 1]? with
  | some x, some y => decide (x < y)
  | _, _ => true
theorem asc_all : ∀ l : List Int, asc l = ((List.range (l.length - 1)).map (asc2 l)).all id
  | [] => rfl
  | [_] => rfl
  | x :: y :: r => by
    have e : (x :: y :: r).length - 1 = (y :: r).length - 1 + 1 := by simp
    rw [e, List.range_succ_eq_map, List.map_cons, List.all_cons]
    show (decide (x < y) && asc (y :: r)) = _
    rw [asc_all (y :: r), List.map_map]
    rfl
theorem cut1 (xs : List V) : cutV xs (some 1) none = xs.drop 1 := by
  unfold cutV HT.sIx
  cases xs with
  | nil => simp
  | cons x xs => simp
section
variable {P : Program} {w : World} {K : PySem.W.Frag} {mg : Str → Option Value} {base : Heap} {f : Addr} {fd : FuncData}
def spAscends : Sp := fun xs H Q _ => ∃ (a : Addr) (l : List Int), xs = [.ref a] ∧ H a = some (.lst (l.map V.int)) ∧ l.length ≤ 100 ∧ ∀ H', Same H H' → Q (.bl (asc l)) H'
theorem scAscends : FnScope ["values", "one", "other"] ["values"] (defScope sAscends) := ⟨rfl, rfl, rfl, by decide +kernel, rfl, by decide +kernel, by decide +kernel⟩
theorem can_ascends (D : Dfn K mg "ascends" sAscends) (B : Bi3 mg) : Can P w K mg base CX0 1 "ascends" ["values"] spAscends := by
  obtain ⟨f, fd, F, g⟩ := D.at_
  refine FnOk.can (F.ok scAscends (fun xs H Q E h => ?_) (fun cdv A outer s H vs Q E hr h => ?_)) F g fun _ _ _ _ _ _ us hl => match us, hl with | [_], _ => rfl
  · obtain ⟨a, l, rfl, _⟩ := h
    rfl
  · obtain ⟨a, l, rfl, ha, hl, q⟩ := h
    refine ⟨_, PSs.nox (pss_one (ps_ret (pe_bi (cr_all rfl) B.all (pa1 (pe_lc (own := [("one", 1), ("other", 2)]) (g := gTup K 2 (gCons (gName 1) (gCons (gName 2) gNil))) (tt := tYes) rfl scAscends.nd (pi_zip (by rfl) B.zip (pa_cons (pv 0) (pa1 (pe_slice sl_list (pv 0) (po_some pe_int) po_none)))) (blkOk_by (own := [("one", 1), ("other", 2)]) (N := ["values", "one", "other"]) (sc := defScope sAscends) (by decide +kernel))
      (fun _ _ _ _ _ => pg_tup (by rfl) (pgs_cons (pg_name (i := 1) scAscends.nd rfl (Or.inl rfl)) (pgs_cons (pg_name (i := 2) scAscends.nd rfl (Or.inl rfl)) pgs_nil))) (fun _ _ _ _ _ => pts_nil) (fun _ _ _ _ _ => pe_cmpR op_lt (pv 1) (pv 2) (nomark _))))))), ?_⟩
    refine ⟨_, rfl, _, rfl, 1, rfl, a, _, rfl, SqL.of ha, fun b nb => ?_⟩
    rw [cut1]
    have s1 := upd_same_as (o := .lst ((l.map V.int).drop 1)) nb
    refine ⟨a, b, _, _, rfl, SqL.of (s1 _ _ ha), SqL.of upd_same, fun D nD => ?_⟩
    have hb : (upd H b (.lst ((l.map V.int).drop 1))) b = some (.lst ((l.map V.int).drop 1)) := upd_same
    have ha1 := s1 _ _ ha
    generalize upd H b (.lst ((l.map V.int).drop 1)) = H1 at s1 hb ha1 nD ⊢
    refine lc_it (walk_zip (K := K) (a := a) (b := b) (xs := l.map V.int) (ys := (l.map V.int).drop 1) (n := l.length - 1) (by rw [List.length_drop, List.length_map]; omega)) (fun i H' => H' D = some (.lst (((List.range i).map (asc2 l)).map V.bl)) ∧ Same H1 H') ⟨upd_same, upd_same_as nD⟩ (fun i H' _ ⟨_, s⟩ => ⟨SqL.of (s _ _ ha1), SqL.of (s _ _ hb)⟩) ?_ ?_
    · rintro i x H' H2 hi ⟨hd, sm⟩ ⟨T, vx, vy, rfl, nT, rfl, hx, hy⟩
      have hx : (l.map V.int)[i]? = some vx := hx
      have hy : ((l.map V.int).drop 1)[i]? = some vy := hy
      rw [List.getElem?_map] at hx
      rw [List.getElem?_drop, List.getElem?_map] at hy
      have i1 : i < l.length := by omega
      have i2 : 1 + i < l.length := by omega
      have e1 : l[i]? = some l[i] := List.getElem?_eq_getElem i1
      have e2 : l[1 + i]? = some l[1 + i] := List.getElem?_eq_getElem i2
      rw [e1] at hx
      rw [e2] at hy
      have hx : V.int l[i] = vx := Option.some.inj hx
      have hy : V.int l[1 + i] = vy := Option.some.inj hy
      subst hx hy
      have hd2 : (upd H' T (.tup [.int l[i], .int l[1 + i]])) D = some (.lst (((List.range i).map (asc2 l)).map V.bl)) := by
        rw [upd_ne (ne_of_none hd nT)]
        exact hd
      refine ⟨T, _, rfl, SqT.of upd_same, rfl, .int l[i], _, rfl, .int l[1 + i], _, rfl, rfl, rfl, lc_yes2 ?_⟩
      refine ⟨_, rfl, _, rfl, _, _, rfl, rfl, _, hd2, ?_, ?_, more_same (more_same sm (sm.free nT)) nD⟩
      · rw [List.length_map, List.length_map, List.length_range, sizeLine_eq]
        omega
      · have ea : asc2 l i = decide (l[i] < l[1 + i]) := by
          unfold asc2
          rw [e1, show i + 1 = 1 + i by omega, e2]
        rw [upd_same, List.range_succ, List.map_append, List.map_append]
        show some (HO.lst (_ ++ [V.bl (decide (l[i] < l[1 + i]))])) = some (HO.lst (_ ++ [V.bl (asc2 l i)]))
        rw [ea]
    · rintro H' ⟨hd, sm⟩
      refine ⟨D, (List.range (l.length - 1)).map (asc2 l), rfl, SqL.of hd, ?_⟩
      rw [← asc_all]
      exact q H' (s1.trans sm)
/-! ### is_piece, are_pieces -/
def spIsPiece (K : PySem.W.Frag) : Sp := fun xs H Q _ => ∃ v b, ∃ pl : Nat, xs = [v, .int pl] ∧ Pce K H pl v b ∧ ∀ H', Same H H' → Q (.bl b) H'
theorem scIsPiece : FnScope ["value", "places", "place"] ["value", "places"] (defScope sIsPiece) := ⟨rfl, rfl, rfl, by decide +kernel, rfl, by decide +kernel, by decide +kernel⟩
theorem can_ispiece (D : Dfn K mg "is_piece" sIsPiece) (B : Bi3 mg) (cB : Can P w K mg base CX0 2 "is_between" ["value", "low", "high"] (spBetween K)) (cA : Can P w K mg base CX0 1 "ascends" ["values"] spAscends) : Can P w K mg base CX0 3 "is_piece" ["value", "places"] (spIsPiece K) := by
  obtain ⟨f, fd, F, g⟩ := D.at_
  refine FnOk.can (F.ok scIsPiece (fun xs H Q E h => ?_) (fun cdv A outer s H vs Q E hr h => ?_)) F g fun _ _ _ _ _ _ us hl => match us, hl with | [_, _], _ => rfl
  · obtain ⟨v, b, pl, rfl, _⟩ := h
    rfl
  · obtain ⟨v, b, pl, rfl, S, q⟩ := h
    refine ⟨_, PSs.nox (pss_cons (ps_if (pt_not (pt_val (pe_bi call_kd B.isi (pa_cons (pv 0) (pa1 (pe_tyv "list" B.list)))))) (pss_one (ps_ret pe_bl)) pss_nil)
      (pss_cons (ps_if (pt_not (pt_val (pe_bi (cr_all rfl) B.all (pa1 (pe_lc (own := [("place", 2)]) (g := gName 2) (tt := tYes) rfl scIsPiece.nd (pi_list (pv 0)) (blkOk_by (own := [("place", 2)]) (N := ["value", "places", "place"]) (sc := defScope sIsPiece) (by decide +kernel))
          (fun _ _ _ _ _ => pg_name (i := 2) scIsPiece.nd rfl (Or.inl rfl)) (fun _ _ _ _ _ => pts_nil) (fun _ _ _ _ _ => pe_can cB hr pass0 (pa_cons (pv 2) (pa_cons pe_int (pa1 (pe_op op_sub (pv 1) pe_int)))))))))) (pss_one (ps_ret pe_bl)) pss_nil)
      (pss_one (ps_ret (pe_can cA (hr.mono (by decide)) pass0 (pa1 (pv 0))))))), ?_⟩
    cases S with
    | kind h => exact ⟨_, rfl, v, "list", false, rfl, h, false, rfl, iteT (q H (Same.refl _))⟩
    | @lst a xs os h hn few =>
      refine ⟨_, rfl, _, "list", true, rfl, isk_lst h _ (by decide +kernel), true, rfl, iteF ?_⟩
      refine ⟨_, rfl, a, rfl, ⟨_, SqL.of h⟩, fun D nD => ?_⟩
      refine lc_list (K := K) (a := a) (xs := xs) (fun i H' => H' D = some (.lst ((os.take i).map fun o => V.bl (Xp.inR o 0 ((pl : Int) - 1)))) ∧ Same H H') ⟨upd_same, upd_same_as nD⟩ (fun i H' _ ⟨_, s⟩ => SqL.of (s _ _ h)) ?_ ?_
      · rintro i x H' hx ⟨hd, sm⟩
        obtain ⟨o, ho, no⟩ := nums_get hn hx
        have tk : os.take (i + 1) = os.take i ++ [o] := by rw [List.take_add_one, ho] <;> rfl
        have il := (List.getElem?_eq_some_iff.mp hx).1
        refine ⟨rfl, lc_yes2 ⟨_, rfl, _, rfl, _, _, rfl, rfl, x, o, 0, (pl : Int) - 1, rfl, num_same sm no, _, hd, ?_, ?_, more_same sm nD⟩⟩
        · rw [List.length_map, sizeLine_eq]
          have := List.length_take_le i os
          omega
        · rw [upd_same, tk, List.map_append]
          rfl
      · rintro H' ⟨hd, sm⟩
        rw [← nums_len hn, List.take_length] at hd
        refine ⟨D, os.map fun o => Xp.inR o 0 ((pl : Int) - 1), rfl, SqL.of (by rw [hd, List.map_map] <;> rfl), _, rfl, ?_⟩
        have ea : (os.map fun o => Xp.inR o 0 ((pl : Int) - 1)).all id = os.all fun o => Xp.inR o 0 ((pl : Int) - 1) := by
          rw [List.all_map]
          rfl
        rw [ea]
        cases e : os.all fun o => Xp.inR o 0 ((pl : Int) - 1) with
        | false =>
          have : pceB pl os = false := by rw [pceB, e, Bool.false_and]
          rw [this] at q
          exact iteT (q H' sm)
        | true =>
          have ex := nums_ints hn e
          refine iteF ⟨_, rfl, a, intsO os, rfl, by rw [← ex]; exact sm _ _ h, ?_, fun H2 s2 => ?_⟩
          · have := congrArg List.length ex
            rw [List.length_map] at this
            omega
          · have : pceB pl os = asc (intsO os) := by rw [pceB, e, Bool.true_and]
            rw [this] at q
            exact q H2 (sm.trans s2)
def spArePieces (K : PySem.W.Frag) : Sp := fun xs H Q _ => ∃ v b, ∃ pl : Nat, xs = [v, .int pl] ∧ Pcs K H pl v b ∧ ∀ H', Same H H' → Q (.bl b) H'
theorem scArePieces : FnScope ["value", "places", "piece"] ["value", "places"] (defScope sArePieces) := ⟨rfl, rfl, rfl, by decide +kernel, rfl, by decide +kernel, by decide +kernel⟩
theorem can_arepieces (D : Dfn K mg "are_pieces" sArePieces) (B : Bi3 mg) (cP : Can P w K mg base CX0 3 "is_piece" ["value", "places"] (spIsPiece K)) : Can P w K mg base CX0 4 "are_pieces" ["value", "places"] (spArePieces K) := by
  obtain ⟨f, fd, F, g⟩ := D.at_
  refine FnOk.can (F.ok scArePieces (fun xs H Q E h => ?_) (fun cdv A outer s H vs Q E hr h => ?_)) F g fun _ _ _ _ _ _ us hl => match us, hl with | [_, _], _ => rfl
  · obtain ⟨v, b, pl, rfl, _⟩ := h
    rfl
  · obtain ⟨v, b, pl, rfl, S, q⟩ := h
    refine ⟨_, PSs.nox (pss_one (ps_ret (pe_and (pe_bi call_kd B.isi (pa_cons (pv 0) (pa1 (pe_tyv "list" B.list)))) (pe_one (pe_bi (cr_all rfl) B.all (pa1 (pe_lc (own := [("piece", 2)]) (g := gName 2) (tt := tYes) rfl scArePieces.nd (pi_list (pv 0)) (blkOk_by (own := [("piece", 2)]) (N := ["value", "places", "piece"]) (sc := defScope sArePieces) (by decide +kernel))
          (fun _ _ _ _ _ => pg_name (i := 2) scArePieces.nd rfl (Or.inl rfl)) (fun _ _ _ _ _ => pts_nil) (fun _ _ _ _ _ => pe_can cP hr pass0 (pa_cons (pv 2) (pa1 (pv 1))))))))))), ?_⟩
    cases S with
    | kind h => exact ⟨_, rfl, v, "list", false, rfl, h, false, rfl, iteF (q H (Same.refl _))⟩
    | @lst a xs bs h hp few =>
      refine ⟨_, rfl, _, "list", true, rfl, isk_lst h _ (by decide +kernel), true, rfl, iteT ?_⟩
      refine ⟨_, rfl, a, rfl, ⟨_, SqL.of h⟩, fun D nD => ?_⟩
      refine lc_list (K := K) (a := a) (xs := xs) (fun i H' => H' D = some (.lst ((bs.take i).map V.bl)) ∧ Same H H') ⟨upd_same, upd_same_as nD⟩ (fun i H' _ ⟨_, s⟩ => SqL.of (s _ _ h)) ?_ ?_
      · rintro i x H' hx ⟨hd, sm⟩
        obtain ⟨o, ho, no⟩ := pces_get hp hx
        have tk : bs.take (i + 1) = bs.take i ++ [o] := by rw [List.take_add_one, ho] <;> rfl
        have il := (List.getElem?_eq_some_iff.mp hx).1
        refine ⟨rfl, lc_yes2 ⟨_, rfl, _, rfl, x, o, pl, rfl, pce_same sm no, fun H2 s2 => ⟨_, s2 _ _ hd, ?_, ?_, more_same (sm.trans s2) nD⟩⟩⟩
        · rw [List.length_map, sizeLine_eq]
          have := List.length_take_le i bs
          omega
        · rw [upd_same, tk, List.map_append]
          rfl
      · rintro H' ⟨hd, sm⟩
        rw [← pces_len hp, List.take_length] at hd
        exact ⟨D, bs, rfl, SqL.of hd, q H' sm⟩
end
end Kx
/-! Own ground: plans written as texts. -/
namespace Yj
open PySem PySem.Spec PyProof.Rows L2 Ya Ye Yh Yi
/-- the signs of the first n places -/
def wr (l : List Int) : Nat → List Nat
  | 0 => []
  | n + 1 => wr l n ++ [if (n : Int) ∈ l then 111 else 46]
theorem wr_len (l : List Int) : ∀ n, (wr l n).length = n
  | 0 => rfl
  | n + 1 => by
    show (wr l n ++ _).length = n + 1
    rw [List.length_append, wr_len l n]
    rfl
theorem wr_mem (l : List Int) : ∀ n, ∀ c ∈ wr l n, c = 111 ∨ c = 46
  | 0, c, h => nomatch h
  | n + 1, c, h => by
    rcases List.mem_append.mp h with h | h
    · exact wr_mem l n c h
    · have := List.mem_singleton.mp h
      split at this
      · exact .inl this
      · exact .inr this
def pieceS (pl : Nat) (l : List Int) : Str := ⟨(wr l pl).toArray⟩
def textS (pl : Nat) (ls : List (List Int)) : Str := Txt.join ⟨#[32]⟩ (ls.map (pieceS pl))
theorem sg_piece (pl : Nat) (l : List Int) : sg (pieceS pl l) = wr l pl := List.toList_toArray
theorem join_app {g : Str} : ∀ (ps : List Str) (p : Str), ps ≠ [] → Str.join g (ps ++ [p]) = Str.join g ps ++ g ++ p
  | [], _, h => absurd rfl h
  | [q], p, _ => rfl
  | q :: r :: s, p, _ => by
    show q ++ g ++ Str.join g ((r :: s) ++ [p]) = (q ++ g ++ Str.join g (r :: s)) ++ g ++ p
    rw [join_app (r :: s) p (List.cons_ne_nil _ _)]
    have e : ∀ a b : Str, a ++ b = ⟨a.cps ++ b.cps⟩ := fun _ _ => rfl
    simp [e, Array.append_assoc]
theorem glued_join (g : Str) (ps : List Str) : Txt.join g ps = Str.join g ps := StrLaws.glued_eq_join g ps
theorem isS_o : isS 111 = true := by decide +kernel
theorem isS_d : isS 46 = true := by decide +kernel
theorem isS_O : isS 79 = true := by decide +kernel
theorem isO_o : isO 111 = true := by decide +kernel
theorem isO_O : isO 79 = true := by decide +kernel
theorem isO_d : isO 46 = false := by decide +kernel
theorem wr_S (l : List Int) (n : Nat) : ∀ c ∈ wr l n, isS c = true := fun c h => by
  rcases wr_mem l n c h with rfl | rfl
  · exact isS_o
  · exact isS_d
theorem wr_at (l : List Int) : ∀ (n k : Nat), k < n → (wr l n)[k]? = some (if (k : Int) ∈ l then 111 else 46)
  | 0, k, h => absurd h (Nat.not_lt_zero _)
  | n + 1, k, h => by
    show (wr l n ++ _)[k]? = _
    rcases Nat.lt_or_ge k n with c | c
    · rw [List.getElem?_append_left (by rw [wr_len]; exact c)]
      exact wr_at l n k c
    · have e : k = n := by omega
      subst e
      rw [List.getElem?_append_right (by rw [wr_len]; exact Nat.le_refl _), wr_len, Nat.sub_self]
      rfl
/-- strictly rising numbers below n -/
def Rise (pl : Nat) (l : List Int) : Prop := l.Pairwise (· < ·) ∧ ∀ z ∈ l, 0 ≤ z ∧ z < pl
/-- signs that tell the places of l -/
def Tells (pl : Nat) (u : List Nat) (l : List Int) : Prop := u.length = pl ∧ (∀ c ∈ u, isS c = true) ∧ ∀ k, k < pl → at_ u k = decide ((k : Int) ∈ l)
theorem wr_tells (pl : Nat) (l : List Int) : Tells pl (wr l pl) l := by
  refine ⟨wr_len l pl, wr_S l pl, fun k hk => ?_⟩
  show ((wr l pl)[k]?).any isO = _
  rw [wr_at l pl k hk]
  show isO _ = _
  by_cases c : (k : Int) ∈ l
  · rw [if_pos c, decide_eq_true c]
    exact isO_o
  · rw [if_neg c, decide_eq_false c]
    exact isO_d
theorem pcN_rise (f : Nat → Bool) : ∀ n, (pcN f n).Pairwise (· < ·)
  | 0 => .nil
  | n + 1 => by
    show (pcN f n ++ _).Pairwise _
    rw [List.pairwise_append]
    refine ⟨pcN_rise f n, ?_, fun x hx y hy => ?_⟩
    · split
      · exact List.pairwise_singleton _ _
      · exact .nil
    · have := pcN_mem f n x hx
      split at hy
      · have : y = n := by simpa using hy
        omega
      · cases hy
theorem mem_pcN (f : Nat → Bool) : ∀ (n k : Nat), (k : Int) ∈ pcN f n ↔ k < n ∧ f k = true
  | 0, k => ⟨fun (h : (k : Int) ∈ []) => (nomatch h), fun h => absurd h.1 (Nat.not_lt_zero _)⟩
  | n + 1, k => by
    show (k : Int) ∈ pcN f n ++ _ ↔ _
    rw [List.mem_append, mem_pcN f n k]
    constructor
    · rintro (⟨a, b⟩ | h)
      · exact ⟨by omega, b⟩
      · split at h
        · rename_i e
          have : (k : Int) = n := by simpa using h
          have : k = n := by omega
          subst this
          exact ⟨by omega, e⟩
        · cases h
    · rintro ⟨a, b⟩
      rcases Nat.lt_or_ge k n with c | c
      · exact .inl ⟨c, b⟩
      · have e : k = n := by omega
        subst e
        right
        rw [if_pos b]
        exact List.mem_singleton.mpr rfl
theorem rise_eq : ∀ {l m : List Int}, l.Pairwise (· < ·) → m.Pairwise (· < ·) → (∀ z, z ∈ l ↔ z ∈ m) → l = m
  | [], [], _, _, _ => rfl
  | [], y :: m, _, _, h => absurd ((h y).mpr List.mem_cons_self) List.not_mem_nil
  | x :: l, [], _, _, h => absurd ((h x).mp List.mem_cons_self) List.not_mem_nil
  | x :: l, y :: m, hl, hm, h => by
    obtain ⟨l1, l2⟩ := List.pairwise_cons.mp hl
    obtain ⟨m1, m2⟩ := List.pairwise_cons.mp hm
    have e : x = y := by
      rcases List.mem_cons.mp ((h x).mp List.mem_cons_self) with a | a
      · exact a
      · rcases List.mem_cons.mp ((h y).mpr List.mem_cons_self) with b | b
        · exact b.symm
        · have := m1 x a
          have := l1 y b
          omega
    subst e
    congr 1
    refine rise_eq l2 m2 fun z => ⟨fun a => ?_, fun a => ?_⟩
    · rcases List.mem_cons.mp ((h z).mp (List.mem_cons_of_mem _ a)) with b | b
      · have := l1 z a
        omega
      · exact b
    · rcases List.mem_cons.mp ((h z).mpr (List.mem_cons_of_mem _ a)) with b | b
      · have := m1 z a
        omega
      · exact b
theorem tells_piece {pl : Nat} {u : List Nat} {l : List Int} (t : Tells pl u l) (r : Rise pl l) : piece pl u 0 = l := by
  refine rise_eq (pcN_rise _ _) r.1 fun z => ?_
  constructor
  · intro hz
    obtain ⟨z0, z1⟩ := pcN_mem _ _ z hz
    obtain ⟨k, rfl⟩ := Int.eq_ofNat_of_zero_le z0
    obtain ⟨a, b⟩ := (mem_pcN _ _ k).mp hz
    have b : at_ u (0 + k) = true := b
    rw [Nat.zero_add, t.2.2 k a] at b
    exact of_decide_eq_true b
  · intro hz
    obtain ⟨z0, z1⟩ := r.2 z hz
    obtain ⟨k, rfl⟩ := Int.eq_ofNat_of_zero_le z0
    have kl : k < pl := by omega
    refine (mem_pcN _ _ k).mpr ⟨kl, ?_⟩
    show at_ u (0 + k) = true
    rw [Nat.zero_add, t.2.2 k kl]
    exact decide_eq_true hz
theorem told_tells {pl : Nat} {z u : List Nat} {acc : List (List Int)} {l : List Int} (hp : 1 ≤ pl) (t : Told pl z acc) (tt : Tells pl u l) (r : Rise pl l) : Told pl (z ++ u) (acc ++ [l]) := by
  have := told_piece hp t tt.2.1 tt.1
  rw [tells_piece tt r] at this
  exact this
theorem isB_32 : ∀ c ∈ sg (⟨#[32]⟩ : Str), isB c = true := by decide +kernel
/-- a plan's pieces, put behind one another with blanks (or nothing) between, tell the plan -/
theorem told_join {pl : Nat} {g : Str} (hp : 1 ≤ pl) (hg : ∀ c ∈ sg g, isB c = true) : ∀ (n : Nat) (ls : List (List Int)), ls.length = n → (∀ l ∈ ls, Rise pl l) → Told pl (sg (Str.join g (ls.map (pieceS pl)))) ls
  | 0, ls, e, _ => by
    have : ls = [] := List.length_eq_zero_iff.mp e
    subst this
    exact told_nil pl
  | n + 1, ls, e, h => by
    obtain ⟨ms, l, rfl⟩ : ∃ ms l, ls = ms ++ [l] := ⟨ls.dropLast, ls.getLast (by intro z; rw [z] at e; cases e), (List.dropLast_concat_getLast _).symm⟩
    have em : ms.length = n := by
      rw [List.length_append] at e
      simpa using e
    have ih := told_join hp hg n ms em fun x hx => h x (List.mem_append_left _ hx)
    have hl := h l (List.mem_append_right _ List.mem_cons_self)
    rw [List.map_append]
    by_cases c : ms = []
    · subst c
      show Told pl (sg (pieceS pl l)) ([] ++ [l])
      rw [sg_piece]
      have := told_tells (z := []) hp (told_nil pl) (wr_tells pl l) hl
      exact this
    · have ne : ms.map (pieceS pl) ≠ [] := by
        intro z
        exact c (List.map_eq_nil_iff.mp z)
      show Told pl (sg (Str.join g (ms.map (pieceS pl) ++ [pieceS pl l]))) (ms ++ [l])
      rw [join_app _ _ ne, sg_append, sg_append, sg_piece]
      exact told_tells hp (told_blank ih hg) (wr_tells pl l) hl
theorem told_text {pl : Nat} {ls : List (List Int)} (hp : 1 ≤ pl) (h : ∀ l ∈ ls, Rise pl l) : Told pl (sg (textS pl ls)) ls := by
  unfold textS
  rw [glued_join]
  exact told_join hp isB_32 _ ls rfl h
theorem tx_piece (pl : Nat) (l : List Int) : Tx pl (pieceS pl l) := by
  refine ⟨?_, ok_iff.mpr fun c hc => ?_⟩
  · rw [← len_sg, sg_piece, wr_len]
    exact Nat.le_refl _
  · rw [sg_piece] at hc
    rcases wr_mem l pl c hc with rfl | rfl <;> decide
theorem piece_free (pl : Nat) (l : List Int) : 32 ∉ sg (pieceS pl l) := fun h => by
  rw [sg_piece] at h
  rcases wr_mem l pl 32 h with h | h <;> cases h
/-- the parts of a text of pieces -/
theorem split_text {pl : Nat} {ls : List (List Int)} (ne : ls ≠ []) : Txt.split (textS pl ls) ⟨#[32]⟩ = ls.map (pieceS pl) := by
  refine TL.split_join (s := 32) (S := []) rfl (by decide +kernel) (fun z => ne (List.map_eq_nil_iff.mp z)) fun p hp => ?_
  obtain ⟨l, _, rfl⟩ := List.mem_map.mp hp
  exact piece_free pl l
theorem text_flat {pl : Nat} {ls : List (List Int)} (ne : ls ≠ []) (z : Str) : Txt.replace (textS pl ls) ⟨#[32]⟩ z = Str.join z (ls.map (pieceS pl)) := by
  rw [StrLaws.replace_one, split_text ne]
end Yj
/-! Plans written: by the program and by the law. -/
namespace Kx
open PySem PySem.Spec PyProof.Rows L2 Xa Xb Xc Xd Xs Xp Xm Xr Xl Xq Ya Yb Yc Yd Ye Yf Yg Yh Yi Yj
abbrev sSigns : Stmt := top 19
abbrev sTextOf : Stmt := top 17
abbrev sWritten : Stmt := top 29
theorem sg_ext {x y : Str} (h : sg x = sg y) : x = y := by
  obtain ⟨a⟩ := x
  obtain ⟨b⟩ := y
  have h : a.toList = b.toList := h
  rw [show a = b from Array.toList_inj.mp h]
def ones (cs : List Nat) : List Str := cs.map fun c => ⟨#[c]⟩
theorem join_none : ∀ ps : List Str, sg (Str.join ⟨#[]⟩ ps) = ps.flatMap sg
  | [] => rfl
  | [p] => by
    show sg p = sg p ++ []
    rw [List.append_nil]
  | p :: q :: r => by
    rw [join_cons2, join_none (q :: r)]
    show sg p ++ [] ++ _ = _
    rw [List.append_nil]
    rfl
theorem join_ones (cs : List Nat) : sg (Txt.join (⟨#[]⟩ : Str) (ones cs)) = cs := by
  rw [glued_join, join_none]
  induction cs with
  | nil => rfl
  | cons c cs ih =>
    show [c] ++ (ones cs).flatMap sg = c :: cs
    rw [ih]
    rfl
theorem join_wr (l : List Int) (pl : Nat) : Txt.join (⟨#[]⟩ : Str) (ones (wr l pl)) = pieceS pl l := sg_ext (by rw [join_ones, sg_piece])
theorem ones_more (l : List Int) (n : Nat) : (ones (wr l (n + 1))).map V.str = (ones (wr l n)).map V.str ++ [V.str ⟨#[if (n : Int) ∈ l then 111 else 46]⟩] := by
  show (ones (wr l n ++ [_])).map V.str = _
  rw [ones, List.map_append, List.map_append]
  rfl
theorem ones_len (l : List Int) (n : Nat) : (ones (wr l n)).length = n := by
  rw [ones, List.length_map, wr_len]
theorem ones_tx (l : List Int) (n : Nat) : ∀ y ∈ ones (wr l n), Tx 1 y := fun y hy => by
  obtain ⟨c, hc, rfl⟩ := List.mem_map.mp hy
  refine ⟨Nat.le_refl 1, ok_iff.mpr fun x hx => ?_⟩
  have hx : x ∈ [c] := hx
  rw [List.mem_singleton.mp hx]
  rcases wr_mem l n c hc with rfl | rfl <;> decide
theorem tx_e : Tx 1 ("" : Str) := by
  have : ("" : Str).length ≤ 1 ∧ PyData.strOk ("" : Str) = true := by decide +kernel
  exact this
theorem tx_b : Tx 1 (" " : Str) := by
  have : (" " : Str).length ≤ 1 ∧ PyData.strOk (" " : Str) = true := by decide +kernel
  exact this
theorem inV_ints (i : Int) : ∀ l : List Int, inV (V.int i) (l.map V.int) = decide (i ∈ l)
  | [] => rfl
  | x :: l => by
    have ih := inV_ints i l
    show ((x == i) || inV (V.int i) (l.map V.int)) = _
    rw [ih]
    by_cases c : x = i
    · subst c
      simp
    · have c2 : ¬ i = x := fun z => c z.symm
      simp [c, c2]
theorem flat_ints (l : List Int) : (l.map V.int).all flatV = true := by
  rw [List.all_map]
  exact List.all_eq_true.mpr fun _ _ => rfl
section
variable {P : Program} {w : World} {K : PySem.W.Frag} {mg : Str → Option Value} {base : Heap} {f CN CP : Addr} {fd : FuncData}
def spSigns : Sp := fun xs H Q _ => ∃ (a : Addr) (l : List Int) (pl : Nat), xs = [.ref a, .int pl] ∧ H a = some (.lst (l.map V.int)) ∧ 1 ≤ pl ∧ pl ≤ 2 ∧ ∀ H', Same H H' → Q (.str (pieceS pl l)) H'
theorem scSigns : FnScope ["piece", "places", "place"] ["piece", "places"] (defScope sSigns) := ⟨rfl, rfl, rfl, by decide +kernel, rfl, by decide +kernel, by decide +kernel⟩
theorem can_signs (D : Dfn K mg "signs_of" sSigns) (B : Bi3 mg) : Can P w K mg base CX0 1 "signs_of" ["piece", "places"] spSigns := by
  obtain ⟨f, fd, F, g⟩ := D.at_
  refine FnOk.can (F.ok scSigns (fun xs H Q E h => ?_) (fun cdv A outer s H vs Q E hr h => ?_)) F g fun _ _ _ _ _ _ us hl => match us, hl with | [_, _], _ => rfl
  · obtain ⟨a, l, pl, rfl, _⟩ := h
    rfl
  · obtain ⟨a, l, pl, rfl, ha, p1, p2, q⟩ := h
    refine ⟨_, PSs.nox (pss_one (ps_ret (pe_join pe_str (pe_lc (own := [("place", 2)]) (g := gName 2) (tt := tYes) rfl scSigns.nd (pi_range1 (by rfl) B.range (pa1 (pv 1))) (blkOk_by (own := [("place", 2)]) (N := ["piece", "places", "place"]) (sc := defScope sSigns) (by decide +kernel))
      (fun _ _ _ _ _ => pg_name (i := 2) scSigns.nd rfl (Or.inl rfl)) (fun _ _ _ _ _ => pts_nil) (fun _ _ _ _ _ => pe_ifExp (pt_cmpR (r := rIn K false) op_in_seq (pv 2) (pv 0) rfl) pe_str pe_str))))), ?_⟩
    refine ⟨⟨_, rfl⟩, _, rfl, _, rfl, by omega, by omega, fun D nD => ?_⟩
    refine lc_range (lo := 0) (n := pl) (fun n H' => H' D = some (.lst ((ones (wr l n)).map V.str)) ∧ Same H H') ⟨upd_same, upd_same_as nD⟩ ?_ ?_
    · rintro n H' hn ⟨hd, sm⟩
      refine ⟨rfl, lc_yes2 ⟨_, rfl, _, rfl, a, _, rfl, .inl (SqL.of (sm _ _ ha)), rfl, flat_ints l, _, rfl, ?_⟩⟩
      have e0 : inV (V.int (0 + (n : Int))) (l.map V.int) = decide ((n : Int) ∈ l) := by rw [inV_ints, Int.zero_add]
      show if inV (V.int (0 + (n : Int))) (l.map V.int) = true then _ else _
      rw [e0]
      by_cases c : (n : Int) ∈ l
      · rw [decide_eq_true c]
        refine iteT ⟨_, hd, by rw [List.length_map, ones_len, sizeLine_eq]; omega, ?_, more_same sm nD⟩
        rw [upd_same, ones_more, if_pos c]
        rfl
      · rw [decide_eq_false c]
        refine iteF ⟨_, hd, by rw [List.length_map, ones_len, sizeLine_eq]; omega, ?_, more_same sm nD⟩
        rw [upd_same, ones_more, if_neg c]
        rfl
    · rintro H' ⟨hd, sm⟩
      refine ⟨_, D, ones (wr l pl), rfl, rfl, .inl (SqL.of hd), join_fit tx_e (ones_tx l pl) (by rw [ones_len]; omega), ?_⟩
      have := q H' sm
      rw [← join_wr] at this
      exact this
/-! ### the law's own writing -/
def spWritten : Sp := fun xs H Q _ => ∃ (a : Addr) (ks : List (Addr × List Int)) (pl : Nat), xs = [.ref a, .int pl] ∧ LL H a ks ∧ 1 ≤ pl ∧ pl ≤ 2 ∧ ks.length ≤ 1000 ∧ ∀ H', Same H H' → Q (.str (textS pl (ks.map (·.2)))) H'
theorem scWritten : FnScope ["plan", "places", "piece", "place"] ["plan", "places"] (defScope sWritten) := ⟨rfl, rfl, rfl, by decide +kernel, rfl, by decide +kernel, by decide +kernel⟩
theorem refs_at {ks : List (Addr × List Int)} {i : Nat} {x : V} (h : (ks.map fun q => V.ref q.1)[i]? = some x) : ∃ q, ks[i]? = some q ∧ x = V.ref q.1 := by
  rw [List.getElem?_map] at h
  cases e : ks[i]? with
  | none =>
    rw [e] at h
    cases h
  | some y =>
    rw [e] at h
    exact ⟨y, rfl, (Option.some.inj h).symm⟩
theorem texts_tx (pl : Nat) (p2 : pl ≤ 2) (ls : List (List Int)) : ∀ y ∈ ls.map (pieceS pl), Tx 2 y := fun y hy => by
  obtain ⟨l, _, rfl⟩ := List.mem_map.mp hy
  exact (tx_piece pl l).up p2
theorem can_written (D : Dfn K mg "_law_written" sWritten) (B : Bi3 mg) : CanG P w K mg base 1 "_law_written" ["plan", "places"] spWritten := by
  obtain ⟨f, fd, F, g⟩ := D.at_
  refine FnG.can (okG F scWritten (fun xs H Q E h => ?_) (fun cdv A outer s H vs Q E hr hn h => ?_)) F g fun _ _ _ _ _ _ us hl => match us, hl with | [_, _], _ => rfl
  · obtain ⟨a, ks, pl, rfl, _⟩ := h
    rfl
  · obtain ⟨a, ks, pl, rfl, L, p1, p2, kl, q⟩ := h
    refine ⟨_, PSs.nox (pss_one (ps_ret (pe_jn (K := K) rfl pe_str (pe_lc (own := [("piece", 2)]) (g := gName 2) (tt := tYes) rfl scWritten.nd (pi_list (pv 0)) (blkOk_by (own := [("piece", 2)]) (N := ["plan", "places", "piece", "place"]) (sc := defScope sWritten) (by decide +kernel))
            (fun _ _ _ _ _ => pg_name (i := 2) scWritten.nd rfl (Or.inr rfl)) (fun _ _ _ _ _ => pts_nil) (fun _ _ _ _ _ => (pe_jn (K := K) rfl pe_str (pe_lc (own := [("place", 3)]) (g := gName 3) (tt := tYes) rfl scWritten.nd (pi_range1 (by rfl) B.range (pa1 (pv 1))) (blkOk_by (own := [("place", 3)]) (N := ["plan", "places", "piece", "place"]) (sc := _) (by rfl))
              (fun _ _ _ _ _ => pg_name (i := 3) scWritten.nd rfl (Or.inl rfl)) (fun _ _ _ _ _ => pts_nil) (fun _ _ _ _ _ => pe_ix (r := rIxS) ix_str pe_str (pe_callTy call_int1 (by rfl) B.int (by decide +kernel) (pa1 (pe_cmpR (r := rIn K false) op_in_seq (pv 3) (pv 2) rfl))) (fun _ _ => rfl))))))))), ?_⟩
    refine ⟨⟨_, rfl⟩, _, rfl, a, rfl, ⟨_, SqL.of L.1⟩, fun D nD => ?_⟩
    refine lc_list (K := K) (a := a) (xs := ks.map fun q => V.ref q.1) (fun i H' => H' D = some (.lst ((((ks.take i).map (·.2)).map (pieceS pl)).map V.str)) ∧ Same H H') ⟨upd_same, upd_same_as nD⟩ (fun i H' _ ⟨_, s⟩ => SqL.of (s _ _ L.1)) ?_ ?_
    · rintro i x H' hx ⟨hD, sm⟩
      obtain ⟨qq, hq, rfl⟩ := refs_at hx
      have il : i < ks.length := (List.getElem?_eq_some_iff.mp hq).1
      have hqq := sm _ _ (L.2 qq (List.mem_of_getElem? hq))
      have tk : ks.take (i + 1) = ks.take i ++ [qq] := by rw [List.take_add_one, hq] <;> rfl
      refine ⟨rfl, lc_yes2 ⟨⟨_, rfl⟩, _, rfl, _, rfl, by omega, by omega, fun D2 nD2 => ?_⟩⟩
      refine lc_range (lo := 0) (n := pl) (fun n H'' => H'' D2 = some (.lst ((ones (wr qq.2 n)).map V.str)) ∧ Same H' H'') ⟨upd_same, upd_same_as nD2⟩ ?_ ?_
      · rintro n H'' hn ⟨hd, s2⟩
        refine ⟨rfl, lc_yes2 ⟨_, rfl, _, rfl, qq.1, _, rfl, .inl (SqL.of (s2 _ _ hqq)), rfl, flat_ints qq.2, .inr ⟨_, rfl, ?_⟩⟩⟩
        have e0 : inV (V.int (0 + (n : Int))) (qq.2.map V.int) = decide ((n : Int) ∈ qq.2) := by rw [inV_ints, Int.zero_add]
        have hc : atI ((".o" : Str).cps.toList) (b2i (inV (V.int (0 + (n : Int))) (qq.2.map V.int))) = some (if (n : Int) ∈ qq.2 then 111 else 46) := by
          rw [e0]
          by_cases c : (n : Int) ∈ qq.2
          · rw [decide_eq_true c, if_pos c]
            decide +kernel
          · rw [decide_eq_false c, if_neg c]
            decide +kernel
        refine ⟨_, _, _, rfl, rfl, by decide +kernel, hc, _, hd, by rw [List.length_map, ones_len, sizeLine_eq]; omega, ?_, more_same s2 nD2⟩
        rw [upd_same, ones_more]
      · rintro H'' ⟨hd, s2⟩
        refine ⟨_, D2, ones (wr qq.2 pl), rfl, rfl, .inl (SqL.of hd), join_fit tx_e (ones_tx qq.2 pl) (by rw [ones_len]; omega), ?_⟩
        refine ⟨_, s2 _ _ hD, ?_, ?_, more_same (sm.trans s2) nD⟩
        · rw [List.length_map, List.length_map, List.length_map, sizeLine_eq]
          have := List.length_take_le i ks
          omega
        · rw [upd_same, tk, List.map_append, List.map_append, List.map_append]
          show some (HO.lst (_ ++ [V.str (Txt.join (⟨#[]⟩ : Str) (ones (wr qq.2 pl)))])) = some (HO.lst (_ ++ [V.str (pieceS pl qq.2)]))
          rw [join_wr]
    · rintro H' ⟨hD, sm⟩
      rw [List.length_map, List.take_length] at hD
      refine ⟨_, D, _, rfl, rfl, .inl (SqL.of hD), join_fit tx_b (texts_tx pl p2 _) (by rw [List.length_map, List.length_map]; omega), q H' sm⟩
/-! ### text_of -/
def spTextOf (K : PySem.W.Frag) (CP CN : Addr) : Sp := fun xs H Q E => ∃ v p o b2, xs = [v, p] ∧ Pcs K H 2 v b2 ∧ Num K H p o ∧ (b2 = false → ∀ H', Same H H' → Ref E H' CP v) ∧ (b2 = true → ∃ (a : Addr) (ks : List (Addr × List Int)), v = .ref a ∧ LL H a ks ∧ ks.length ≤ 1000 ∧ (ks = [] → ∀ H', Same H H' → Ref E H' CP v) ∧
  (ks ≠ [] → (Xp.inR o 1 2 = false → ∀ H', Same H H' → Ref E H' CN p) ∧ (Xp.inR o 1 2 = true → ∃ (pl : Nat) (b : Bool), p = .int pl ∧ 1 ≤ pl ∧ pl ≤ 2 ∧ Pcs K H pl v b ∧ (b = false → ∀ H', Same H H' → Ref E H' CN p) ∧ (b = true → ∀ H', Same H H' → Q (.str (textS pl (ks.map (·.2)))) H'))))
theorem scTextOf : FnScope ["plan", "places", "piece"] ["plan", "places"] (defScope sTextOf) := ⟨rfl, rfl, rfl, by decide +kernel, rfl, by decide +kernel, by decide +kernel⟩
theorem can_textof {tm : Tok} (D : Dfn K mg "text_of" sTextOf) (B : Bi3 mg) (gM : mg "MOST_PLACES" = some (.int 2 tm)) (MP : Xc.XMake P w K mg base "InvalidPlan" CP "value") (MN : Xc.XMake P w K mg base "InvalidNumber" CN "value") (cA : Can P w K mg base CX0 4 "are_pieces" ["value", "places"] (spArePieces K))
    (cC : Can P w K mg base (L2.CX P w) 3 "check_places" ["places"] (spCkPlaces K CN)) (cS : Can P w K mg base CX0 1 "signs_of" ["piece", "places"] spSigns) : Can P w K mg base (L2.CX P w) 5 "text_of" ["plan", "places"] (spTextOf K CP CN) := by
  obtain ⟨f, fd, F, g⟩ := D.at_
  refine FnOk.can (F.ok scTextOf (fun xs H Q E h => ?_) (fun cdv A outer s H vs Q E hr h => ?_)) F g fun _ _ _ _ _ _ us hl => match us, hl with | [_, _], _ => rfl
  · obtain ⟨v, p, o, b2, rfl, _⟩ := h
    rfl
  · obtain ⟨v, p, o, b2, rfl, S2, N, no1, yes1⟩ := h
    have pass : Passes (L2.CX P w) (cxOf (L2.CX P w) P w K mg base ["plan", "places", "piece"] "text_of" (defScope sTextOf) f cdv A outer s H E) E := passes_call (takes_of rfl rfl rfl rfl) fun _ _ _ _ z => z
    have hr2 := hr.mono (show 2 ≤ 4 by decide)
    refine ⟨_, pss_cons (ps_if (PW.pt (pw_or (pt_not (pt_val (pe_can cA hr pass0 (pa_cons (pv 0) (pa1 (pe_glob (v := .int 2) (by rfl) gM ⟨_, rfl⟩)))))) (pw_or1 (pt_cmpR op_eq (pe_bi call_len_seq B.len (pa1 (pv 0))) pe_int (nomark _))))) (pss_one (ps_rz rfl MP hr2 (takes_of rfl rfl rfl rfl) (by rfl) (pv 0))) pss_nil)
      (pss_cons (ps_expr (pe_can cC (hr.mono (by decide)) pass (pa1 (pv 1))))
      (pss_cons (ps_if (pt_not (pt_val (pe_can cA hr pass0 (pa_cons (pv 0) (pa1 (pv 1)))))) (pss_one (ps_rz rfl MN hr2 (takes_of rfl rfl rfl rfl) (by rfl) (pv 1))) pss_nil)
      (pss_one (ps_ret (pe_join pe_str (pe_lc (own := [("piece", 2)]) (g := gName 2) (tt := tYes) rfl scTextOf.nd (pi_list (pv 0)) (blkOk_by (own := [("piece", 2)]) (N := ["plan", "places", "piece"]) (sc := defScope sTextOf) (by decide +kernel))
        (fun _ _ _ _ _ => pg_name (i := 2) scTextOf.nd rfl (Or.inl rfl)) (fun _ _ _ _ _ => pts_nil) (fun _ _ _ _ _ => pe_can cS (hr.mono (by decide)) pass0 (pa_cons (pv 2) (pa1 (pv 1)))))))))), ?_⟩
    refine ⟨_, rfl, v, b2, 2, rfl, S2, fun H1 s1 => ⟨_, rfl, ?_⟩⟩
    cases b2 with
    | false => exact iteT (iteT ⟨_, rfl, no1 rfl H1 s1⟩)
    | true =>
      obtain ⟨a, ks, rfl, L, kl, em, ne⟩ := yes1 rfl
      refine iteF ⟨_, rfl, a, _, rfl, .inl (SqL.of (s1 _ _ L.1)), rfl, _, rfl, ?_⟩
      have ew : decide (V.int ((ks.map fun q => V.ref q.1).length : Int) = V.int 0) = decide (ks = []) := by
        rw [List.length_map]
        by_cases c : ks = []
        · rw [decide_eq_true c, c]
          exact decide_eq_true rfl
        · rw [decide_eq_false c]
          refine decide_eq_false fun z => c (List.length_eq_zero_iff.mp ?_)
          injection z with z
          omega
      rw [ew]
      by_cases c : ks = []
      · rw [decide_eq_true c]
        exact iteT ⟨_, rfl, em c H1 s1⟩
      rw [decide_eq_false c]
      obtain ⟨bad, good⟩ := ne c
      refine iteF ⟨_, rfl, p, o, rfl, num_same s1 N, fun e => ?_, fun e => bad e H1 s1⟩
      obtain ⟨pl, b, rfl, p1, p2, S, noS, yesS⟩ := good e
      refine ⟨_, rfl, _, rfl, .ref a, b, pl, rfl, pcs_same s1 S, fun H2 s2 => ⟨_, rfl, ?_⟩⟩
      have s12 := s1.trans s2
      cases b with
      | false => exact iteT ⟨_, rfl, noS rfl H2 s12⟩
      | true =>
        refine iteF ?_
        have L2' := L.same s12
        refine ⟨⟨_, rfl⟩, _, rfl, a, rfl, ⟨_, SqL.of L2'.1⟩, fun D nD => ?_⟩
        refine lc_list (K := K) (a := a) (xs := ks.map fun q => V.ref q.1) (fun i H' => H' D = some (.lst ((((ks.take i).map (·.2)).map (pieceS pl)).map V.str)) ∧ Same H2 H') ⟨upd_same, upd_same_as nD⟩ (fun i H' _ ⟨_, s⟩ => SqL.of (s _ _ L2'.1)) ?_ ?_
        · rintro i x H' hx ⟨hD, sm⟩
          obtain ⟨qq, hq, rfl⟩ := refs_at hx
          have il : i < ks.length := (List.getElem?_eq_some_iff.mp hq).1
          have tk : ks.take (i + 1) = ks.take i ++ [qq] := by rw [List.take_add_one, hq] <;> rfl
          refine ⟨rfl, lc_yes2 ⟨_, rfl, _, rfl, qq.1, qq.2, pl, rfl, sm _ _ (L2'.2 qq (List.mem_of_getElem? hq)), p1, p2, fun H3 s3 => ?_⟩⟩
          refine ⟨_, s3 _ _ hD, ?_, ?_, more_same (sm.trans s3) nD⟩
          · rw [List.length_map, List.length_map, List.length_map, sizeLine_eq]
            have := List.length_take_le i ks
            omega
          · rw [upd_same, tk, List.map_append, List.map_append, List.map_append]
            rfl
        · rintro H' ⟨hD, sm⟩
          rw [List.length_map, List.take_length] at hD
          exact ⟨_, D, _, rfl, rfl, .inl (SqL.of hD), join_fit tx_b (texts_tx pl p2 _) (by rw [List.length_map, List.length_map]; omega), yesS rfl H' (s12.trans sm)⟩
end
end Kx
/-! Texts with drawn blanks. -/
namespace Kx
open PySem PySem.Spec PyProof.Rows L2 Xa Xb Xc Xd Xs Xp Xm Xr Xl Xq Ya Yb Yc Yd Ye Yf Yg Yh Yi Yj
abbrev sSpaced : Stmt := top 30
theorem But.same {g : Addr} {H H' H2 : Hp} (b : But g H H') (s : Same H' H2) : But g H H2 := fun c o e hc => s _ _ (b c o e hc)
theorem But.free {g c : Addr} {H H' : Hp} (b : But g H H') (h : H' c = none) (hc : c ≠ g) : H c = none := by
  cases e : H c with
  | none => rfl
  | some o =>
    rw [b c o e hc] at h
    cases h
def AllB (vs : List V) : Prop := ∀ v ∈ vs, ∃ y : Str, v = V.str y ∧ y.length ≤ 3 ∧ ∀ c ∈ sg y, isB c = true
theorem blanks5 : AllB [V.str "", V.str " ", V.str "\n", V.str "  \n", V.str "\n\n "] := by
  intro v hv
  have : ∀ w ∈ (["", " ", "\n", "  \n", "\n\n "] : List Str), w.length ≤ 3 ∧ ∀ c ∈ sg w, isB c = true := by decide +kernel
  obtain ⟨w, hw, rfl⟩ : ∃ w ∈ (["", " ", "\n", "  \n", "\n\n "] : List Str), v = V.str w := by simpa using hv
  exact ⟨w, rfl, this w hw⟩
theorem pickB {vs : List V} (h : AllB vs) {k : Nat} (hk : k < vs.length) : ∃ s : Str, atI vs (k : Int) = some (V.str s) ∧ s.length ≤ 3 ∧ ∀ c ∈ sg s, isB c = true := by
  obtain ⟨y, e, t⟩ := h vs[k] (List.getElem_mem hk)
  exact ⟨y, atI_nat (by rw [List.getElem?_eq_getElem hk, e]), t⟩
/-- u is w, with some o as O -/
def Alike (u w : List Nat) : Prop := u.length ≤ w.length ∧ ∀ k, k < u.length → ∃ a b, u[k]? = some a ∧ w[k]? = some b ∧ (a = b ∨ (b = 111 ∧ a = 79))
theorem alike_tells {pl : Nat} {u : List Nat} {l : List Int} (h : Alike u (wr l pl)) (e : u.length = pl) : Tells pl u l := by
  obtain ⟨t1, t2, t3⟩ := wr_tells pl l
  refine ⟨e, fun c hc => ?_, fun k hk => ?_⟩
  · obtain ⟨k, hk, rfl⟩ := List.getElem_of_mem hc
    obtain ⟨a, b, ha, hb, ab⟩ := h.2 k hk
    rw [List.getElem?_eq_getElem hk] at ha
    have ha : u[k] = a := Option.some.inj ha
    rw [ha]
    rcases ab with rfl | ⟨_, rfl⟩
    · exact t2 _ (List.mem_of_getElem? hb)
    · exact isS_O
  · obtain ⟨a, b, ha, hb, ab⟩ := h.2 k (by rw [e]; exact hk)
    rw [← t3 k hk]
    show (u[k]?).any isO = ((wr l pl)[k]?).any isO
    rw [ha, hb]
    rcases ab with rfl | ⟨rfl, rfl⟩
    · rfl
    · show isO 79 = isO 111
      rw [isO_o, isO_O]
theorem alike_more {u w : List Nat} {a b : Nat} (h : Alike u w) (hb : w[u.length]? = some b) (ab : a = b ∨ (b = 111 ∧ a = 79)) : Alike (u ++ [a]) w := by
  have hl : u.length < w.length := (List.getElem?_eq_some_iff.mp hb).1
  refine ⟨by rw [List.length_append]; exact hl, fun k hk => ?_⟩
  rw [List.length_append] at hk
  have hk : k < u.length + 1 := hk
  rcases Nat.lt_or_ge k u.length with c | c
  · obtain ⟨a', b', e1, e2, e3⟩ := h.2 k c
    exact ⟨a', b', by rw [List.getElem?_append_left c]; exact e1, e2, e3⟩
  · have : k = u.length := by omega
    subst this
    exact ⟨a, b, by rw [List.getElem?_append_right (Nat.le_refl _), Nat.sub_self] <;> rfl, hb, ab⟩
theorem ones_len2 (u : List Nat) : (ones u).length = u.length := by rw [ones, List.length_map]
theorem ones_fit (u : List Nat) (h : u.length ≤ 100) : ((ones u).map (·.length)).sum + (ones u).length * ("" : Str).length ≤ 16777216 := by
  have e : ((ones u).map (·.length)).sum = u.length := by
    induction u with
    | nil => rfl
    | cons c u ih =>
      show 1 + ((ones u).map (·.length)).sum = u.length + 1
      rw [ih (by have h : u.length + 1 ≤ 100 := h; omega)]
      omega
  have e2 : ("" : Str).length = 0 := rfl
  rw [e, e2]
  omega
section
variable {P : Program} {w : World} {K : PySem.W.Frag} {mg : Str → Option Value} {base : Heap} {f : Addr} {fd : FuncData}
def spSpaced : Sp := fun xs H Q _ => ∃ (g : Addr) (pl n : Nat) (ls : List (List Int)), xs = [.ref g, .str (textS pl ls)] ∧ 1 ≤ pl ∧ pl ≤ 2 ∧ ls ≠ [] ∧ ls.length ≤ 50 ∧ (∀ l ∈ ls, Rise pl l) ∧ Gen H g n ∧ n ≤ 2 ^ 39 ∧ ∀ (y : Str) H', But g H H' → Gen H' g (n + 1000) → Told pl (sg y) ls → y.length ≤ 1000 → Q (.str y) H'
theorem scSpaced : FnScope ["generator", "text", "blanks", "found", "piece", "signs", "sign"] ["generator", "text"] (defScope sSpaced) := ⟨rfl, rfl, rfl, by decide +kernel, rfl, by decide +kernel, by decide +kernel⟩
theorem can_spaced (D : Dfn K mg "_law_spaced" sSpaced) (B : Bi3 mg) {fR : Addr} {fdR fdC : FuncData} {fC : Addr} (FR : FnP K "_law_random" sRandom fR fdR) (gR : mg "_law_random" = some (.ref fR)) (FC : FnP K "_law_hash" sHash fC fdC) (gC : mg "_law_hash" = some (.ref fC)) :
    CanG P w K mg base 3 "_law_spaced" ["generator", "text"] spSpaced := by
  have GR : FnG P w K mg base 2 fR fdR ["generator", "bound"] spRandom := ok_random FR B.toBi FC gC
  have bR : Binds K fdR ["generator", "bound"] [] := FR.bindsN fun _ _ _ _ _ _ us hl => match us, hl with | [_, _], _ => rfl
  obtain ⟨f, fd, F, g⟩ := D.at_
  refine FnG.can (okG F scSpaced (fun xs H Q E h => ?_) (fun cdv A outer s H vs Q E hr hn h => ?_)) F g fun _ _ _ _ _ _ us hl => match us, hl with | [_, _], _ => rfl
  · obtain ⟨g, pl, n, ls, rfl, _⟩ := h
    rfl
  · obtain ⟨g, pl, n, ls, rfl, p1, p2, ne, few, ri, hG, hn1, q⟩ := h
    refine ⟨_, PSs.nox (pss_cons (ps_set (i := 2) scSpaced.nd rfl (.inl rfl) (pe_lst (pa_cons pe_str (pa_cons pe_str (pa_cons pe_str (pa_cons pe_str (pa1 pe_str)))))))
      (pss_cons (ps_set (i := 3) scSpaced.nd rfl (.inl rfl) (pe_ix ix_list (pv 2) (pe_callG GR hr hn rfl gR FR.kp bR (pa_cons (pv 0) (pa1 pe_int))) (fun _ _ => rfl)))
      (pss_cons (ps_for PassesOwn.never rfl (pi_list (pe_split (pv 1) pe_str)) (pg_name (i := 4) scSpaced.nd rfl (.inl rfl))
        (pss_cons (ps_set (i := 5) scSpaced.nd rfl (.inl rfl) (pe_join pe_str (pe_lc (own := [("sign", 6)]) (g := gName 6) (tt := tYes) rfl scSpaced.nd (pi_str (pv 4)) (blkOk_by (own := [("sign", 6)]) (N := ["generator", "text", "blanks", "found", "piece", "signs", "sign"]) (sc := defScope sSpaced) (by decide +kernel))
          (fun _ _ _ _ _ => pg_name (i := 6) scSpaced.nd rfl (Or.inl rfl)) (fun _ _ _ _ _ => pts_nil) (fun _ _ _ _ _ => pe_ifExp (PW.pt (pw_and (pt_cmpR op_eq (pv 6) pe_str (nomark _)) (pw_and1 (pt_cmpR op_eq (pe_callG GR hr hn rfl gR FR.kp bR (pa_cons (pv 0) (pa1 pe_int))) pe_int (nomark _))))) pe_str (pv 6)))))
        (pss_one (ps_set (i := 3) scSpaced.nd rfl (.inl rfl) (pe_op op_add_str (pe_op op_add_str (pv 3) (pv 5)) (pe_ix ix_list (pv 2) (pe_callG GR hr hn rfl gR FR.kp bR (pa_cons (pv 0) (pa1 pe_int))) (fun _ _ => rfl)))))))
      (pss_one (ps_ret (pv 3)))))), ?_⟩
    have gs : ∀ {X : Hp} {m : Nat}, Gen X g m → ∃ o, X g = some o := fun ⟨_, _, _, z, _⟩ => ⟨_, z⟩
    have Gup : ∀ {X : Hp} {m : Nat} {b : Addr} {o : HO}, Gen X g m → b ≠ g → Gen (upd X b o) g m := fun ⟨g0, g1, g2, z, r⟩ hb => ⟨g0, g1, g2, by rw [upd_ne (Ne.symm hb)]; exact z, r⟩
    have Gmono : ∀ {X : Hp} {m m' : Nat}, Gen X g m → m ≤ m' → Gen X g m' := fun ⟨g0, g1, g2, z, h1, h2, h3, h4, h5, h6⟩ hb => ⟨g0, g1, g2, z, h1, h2, h3, h4, h5, by omega⟩
    have gne : ∀ {X : Hp} {m : Nat} {b : Addr}, Gen X g m → X b = none → b ≠ g := fun G nb e => by
      obtain ⟨o, z⟩ := gs G
      rw [e, z] at nb
      cases nb
    have tl : (textS pl ls).length ≤ 500 := by
      have := (tx_join (g := ⟨#[32]⟩) tx_b (texts_tx pl p2 ls)).1
      rw [List.length_map] at this
      have e : (textS pl ls).length = (Txt.join ⟨#[32]⟩ (ls.map (pieceS pl))).length := rfl
      omega
    refine ⟨(by show 5 ≤ sizeLine; decide), fun bl nb => ?_⟩
    have bg := gne hG nb
    refine ⟨_, rfl, _, rfl, g, 5, n, rfl, by decide, by decide, Gup hG bg, by omega, fun r H1 r0 r1 G1 k1 => ?_⟩
    obtain ⟨k, rfl⟩ := Int.eq_ofNat_of_zero_le r0
    obtain ⟨b0, eb, bl3, bB⟩ := pickB blanks5 (k := k) (by show k < 5; omega)
    have hbl : H1 bl = some (.lst [V.str "", V.str " ", V.str "\n", V.str "  \n", V.str "\n\n "]) := by rw [k1 bl bg, upd_same]
    refine ⟨bl, _, (k : Int), .str b0, rfl, rfl, SqL.of hbl, eb, ?_⟩
    have but1 : But g H H1 := fun c o e hc => by
      rw [k1 c hc, upd_ne (ne_of_none e nb)]
      exact e
    refine ⟨_, rfl, ⟨_, rfl⟩, _, _, rfl, rfl, rfl, by rw [sizeLine_eq]; omega, fun p0 n0 => ?_⟩
    have es : Txt.split (textS pl ls) (" " : Str) = ls.map (pieceS pl) := split_text ne
    rw [es]
    have h0 : (upd H1 p0 (.lst ((ls.map (pieceS pl)).map V.str))) p0 = some (.lst ((ls.map (pieceS pl)).map V.str)) := upd_same
    have pg := gne G1 n0
    have G2 := Gup (o := .lst ((ls.map (pieceS pl)).map V.str)) G1 pg
    have but2 := but1.same (upd_same_as (o := .lst ((ls.map (pieceS pl)).map V.str)) n0)
    have hbl2 := upd_same_as (o := .lst ((ls.map (pieceS pl)).map V.str)) n0 _ _ hbl
    generalize upd H1 p0 (.lst ((ls.map (pieceS pl)).map V.str)) = H2 at h0 G2 but2 hbl2 ⊢
    refine ⟨p0, rfl, ⟨_, SqL.of h0⟩, ?_⟩
    refine for_list (K := K) (a := p0) (xs := (ls.map (pieceS pl)).map V.str) (fun i σ H' => ∃ (y : Str) (v4 v5 : Option V), σ = [some (.ref g), some (.str (textS pl ls)), some (.ref bl), some (.str y), v4, v5, none] ∧ Told pl (sg y) (ls.take i) ∧ y.length ≤ 3 + 5 * i ∧ Gen H' g (n + 4 + 12 * i) ∧ But g H2 H')
      ⟨b0, none, none, rfl, told_blank (z := []) (told_nil pl) bB, bl3, G2, fun c o e _ => e⟩ (fun i σ H' _ ⟨_, _, _, _, _, _, _, b⟩ => SqL.of (b _ _ h0 pg)) ?_ ?_
    · rintro i x σ H' hx ⟨y, v4, v5, rfl, td, yl, G3, but3⟩
      obtain ⟨s, hs, rfl⟩ := strs_get hx
      rw [List.getElem?_map] at hs
      obtain ⟨l, hl, rfl⟩ : ∃ l, ls[i]? = some l ∧ s = pieceS pl l := by
        cases e : ls[i]? with
        | none =>
          rw [e] at hs
          cases hs
        | some l =>
          rw [e] at hs
          exact ⟨l, rfl, (Option.some.inj hs).symm⟩
      have il : i < ls.length := (List.getElem?_eq_some_iff.mp hl).1
      have tk : ls.take (i + 1) = ls.take i ++ [l] := by rw [List.take_add_one, hl] <;> rfl
      have rl := ri l (List.mem_of_getElem? hl)
      refine ⟨⟨_, rfl⟩, _, rfl, pieceS pl l, rfl, fun D nD => ?_⟩
      have Dg := gne G3 nD
      have zs : (pieceS pl l).cps.size = pl := by
        show (wr l pl).toArray.size = pl
        rw [List.size_toArray, wr_len]
      refine lc_it (walk_str (z := pieceS pl l)) (fun k H'' => Gen H'' g (n + 4 + 12 * i + 4 * k) ∧ (∃ u : List Nat, H'' D = some (.lst ((ones u).map V.str)) ∧ u.length = k ∧ Alike u (wr l pl)) ∧ But g H' H'') ⟨Gup G3 Dg, ⟨[], upd_same, rfl, Nat.zero_le _, fun k h => absurd h (Nat.not_lt_zero _)⟩, fun c o e hc => by rw [upd_ne (ne_of_none e nD)]; exact e⟩ (fun _ _ _ _ => trivial) ?_ ?_
      · rintro k x H4 H5 hk ⟨G4, ⟨u, hD, ul, al⟩, b4⟩ ⟨rfl, c, hc, rfl⟩
        have hc := str_get hc
        rw [sg_piece] at hc
        have kp : k < pl := by rw [← zs]; exact hk
        have fin : ∀ (a : Nat) (H6 : Hp), Gen H6 g (n + 4 + 12 * i + 4 * (k + 1)) → H6 D = some (.lst ((ones u).map V.str)) → But g H' H6 → (a = c ∨ (c = 111 ∧ a = 79)) →
            ∃ acc, H6 D = some (.lst acc) ∧ acc.length < sizeLine ∧ (Gen (upd H6 D (.lst (acc ++ [V.str ⟨#[a]⟩]))) g (n + 4 + 12 * i + 4 * (k + 1)) ∧ (∃ u : List Nat, (upd H6 D (.lst (acc ++ [V.str ⟨#[a]⟩]))) D = some (.lst ((ones u).map V.str)) ∧ u.length = k + 1 ∧ Alike u (wr l pl)) ∧ But g H' (upd H6 D (.lst (acc ++ [V.str ⟨#[a]⟩])))) := fun a H6 G6 h6 b6 ac => by
          refine ⟨_, h6, by rw [List.length_map, ones_len2, sizeLine_eq]; omega, Gup G6 Dg, ⟨u ++ [a], ?_, by rw [List.length_append, ul] <;> rfl, alike_more al (by rw [ul]; exact hc) ac⟩, fun c o e hc => ?_⟩
          · rw [upd_same, ones, ones, List.map_append, List.map_append]
            rfl
          · rw [upd_ne (ne_of_none e nD)]
            exact b6 c o e hc
        refine ⟨rfl, lc_yes2 ⟨_, rfl, rfl, _, rfl, ?_⟩⟩
        have ec : decide (V.str ⟨#[c]⟩ = V.str ("o" : Str)) = decide (c = 111) := by
          by_cases z : c = 111
          · rw [decide_eq_true z, z]
            exact decide_eq_true rfl
          · rw [decide_eq_false z]
            refine decide_eq_false fun y => z ?_
            have y : (⟨#[c]⟩ : Str) = ⟨#[111]⟩ := by injection y
            injection y with y
            have := congrArg (fun a => a.toList) y
            simpa using this
        show if decide (V.str ⟨#[c]⟩ = V.str ("o" : Str)) = true then _ else _
        rw [ec]
        by_cases z : c = 111
        · rw [decide_eq_true z]
          refine iteT ⟨_, rfl, g, 3, _, rfl, by decide, by decide, G4, by omega, fun r2 H6 a2 b2 G6 k6 => ⟨rfl, _, rfl, ?_⟩⟩
          have h6 : H6 D = some (.lst ((ones u).map V.str)) := by rw [k6 D Dg]; exact hD
          have bb : But g H' H6 := fun c o e hc => by rw [k6 c hc]; exact b4 c o e hc
          refine ite2 (fun _ => ?_) (fun _ => ?_)
          · exact fin 79 H6 (Gmono G6 (by omega)) h6 bb (.inr ⟨z, rfl⟩)
          · exact ⟨_, rfl, fin c H6 (Gmono G6 (by omega)) h6 bb (.inl rfl)⟩
        · rw [decide_eq_false z]
          exact iteF ⟨_, rfl, fin c H5 (Gmono G4 (by omega)) hD b4 (.inl rfl)⟩
      · rintro H4 ⟨G4, ⟨u, hD, ul, al⟩, b4⟩
        rw [zs] at G4 ul
        have tt := alike_tells al ul
        refine ⟨_, D, ones u, rfl, rfl, .inl (SqL.of hD), ones_fit u (by omega), ?_⟩
        have but4 : But g H2 H4 := fun c o e hc => b4 c o (but3 c o e hc) hc
        have ej : sg (Txt.join (⟨#[]⟩ : Str) (ones u)) = u := join_ones u
        have lj : (Txt.join (⟨#[]⟩ : Str) (ones u)).length = pl := by rw [← len_sg, ej, ul]
        refine ⟨_, rfl, _, rfl, _, _, rfl, rfl, ?_, _, rfl, _, rfl, g, 5, _, rfl, by decide, by decide, G4, by omega, fun r2 H6 a2 b2 G6 k6 => ?_⟩
        · show y.length + (Txt.join (⟨#[]⟩ : Str) (ones u)).length ≤ sizeLine
          rw [lj, sizeLine_eq]
          omega
        obtain ⟨k2, rfl⟩ := Int.eq_ofNat_of_zero_le a2
        obtain ⟨b5, eb5, bl5, bB5⟩ := pickB blanks5 (k := k2) (by show k2 < 5; omega)
        refine ⟨bl, _, (k2 : Int), .str b5, rfl, rfl, SqL.of (by rw [k6 bl bg]; exact but4 _ _ hbl2 bg), eb5, ?_⟩
        have ly : (y ++ Txt.join (⟨#[]⟩ : Str) (ones u)).length = y.length + pl := by
          rw [← len_sg, sg_append, List.length_append, ej, ul, len_sg]
        refine ⟨_, _, rfl, rfl, ?_, ?_⟩
        · show (y ++ Txt.join (⟨#[]⟩ : Str) (ones u)).length + b5.length ≤ sizeLine
          rw [ly, sizeLine_eq]
          omega
        · refine ⟨_, _, _, rfl, ?_, ?_, Gmono G6 (by omega), fun c o e hc => by rw [k6 c hc]; exact but4 c o e hc⟩
          · show Told pl (sg (y ++ Txt.join (⟨#[]⟩ : Str) (ones u) ++ b5)) _
            rw [sg_append, sg_append, ej, tk]
            exact told_blank (told_tells p1 td tt rl) bB5
          · show (y ++ Txt.join (⟨#[]⟩ : Str) (ones u) ++ b5).length ≤ _
            rw [← len_sg, sg_append, List.length_append, len_sg, len_sg, ly]
            omega
    · rintro σ H' ⟨y, v4, v5, rfl, td, yl, G3, but3⟩
      rw [List.length_map, List.length_map] at td yl G3
      rw [List.take_length] at td
      exact ⟨_, rfl, q y H' (fun c o e hc => but3 c o (but2 c o e hc) hc) (Gmono G3 (by omega)) td (by omega)⟩
end
end Kx
/-! The law's catching. -/
namespace Kx
open PySem PySem.Spec PyProof.Rows L2 Xa Xb Xc Xd Xs Xp Xm Xr Xl Xk Xq Ya Yb Yc Yd Ye Yf Yg Yh Yi Yj
abbrev sCaught : Stmt := top 31
/-- what of the error classes the text says -/
structure ErrF (K : PySem.W.Frag) (mg : Str → Option Value) (CW CN CP : Addr) : Prop where
  w : mg "WatchError" = some (.ref CW)
  n : mg "InvalidNumber" = some (.ref CN)
  p : mg "InvalidPlan" = some (.ref CP)
  kNN : PySem.W.kitOne K (.ref CN) (.ref CN) = some true
  kNP : PySem.W.kitOne K (.ref CN) (.ref CP) = some false
  kPN : PySem.W.kitOne K (.ref CP) (.ref CN) = some false
  kPP : PySem.W.kitOne K (.ref CP) (.ref CP) = some true
  xN : PySem.W.exmOne K (.ref CN) (.ref CW) = some true
  xP : PySem.W.exmOne K (.ref CP) (.ref CW) = some true
  cN : XCls K CN "value"
  cP : XCls K CP "value"
/-- an error with the value v is told -/
def Ans (K : PySem.W.Frag) (H : Hp) (v : V) (b1 b2 : Bool) (Q : VK) : Prop := ∃ t H2, Res K H v t H2 ∧ ∀ r H', Same H2 H' → H r = none → H' r = some (.lst [.bl b1, .bl b2, .str t]) → Q (.ref r) H'
section
variable {P : Program} {w : World} {K : PySem.W.Frag} {mg : Str → Option Value} {base : Heap} {f CW CN CP : Addr} {fd : FuncData}
def spCaught (K : PySem.W.Frag) : Sp := fun xs H Q _ => ∃ v p o b2, xs = [v, p] ∧ Pcs K H 2 v b2 ∧ Num K H p o ∧ (b2 = false → Ans K H v true false Q) ∧ (b2 = true → ∃ (a : Addr) (ks : List (Addr × List Int)), v = .ref a ∧ LL H a ks ∧ ks.length ≤ 1000 ∧ (ks = [] → Ans K H v true false Q) ∧
  (ks ≠ [] → (Xp.inR o 1 2 = false → Ans K H p false true Q) ∧ (Xp.inR o 1 2 = true → ∃ (pl : Nat) (b : Bool), p = .int pl ∧ 1 ≤ pl ∧ pl ≤ 2 ∧ Pcs K H pl v b ∧ (b = false → Ans K H p false true Q) ∧ (b = true → ∀ H', Same H H' → Q .non H'))))
theorem scCaught : FnScope ["plan", "places", "caught", "error"] ["plan", "places"] (defScope sCaught) := ⟨rfl, rfl, rfl, by decide +kernel, rfl, by decide +kernel, by decide +kernel⟩
theorem can_caught (D : Dfn K mg "_law_caught" sCaught) (B : Bi3 mg) (EF : ErrF K mg CW CN CP) (cT : Can P w K mg base (L2.CX P w) 5 "text_of" ["plan", "places"] (spTextOf K CP CN)) : CanG P w K mg base 6 "_law_caught" ["plan", "places"] (spCaught K) := by
  obtain ⟨f, fd, F, g⟩ := D.at_
  obtain ⟨fr, fdr, FR, gR, kR, bR⟩ := cT
  refine FnG.can (okG F scCaught (fun xs H Q E h => ?_) (fun cdv A outer s H vs Q E hr hn h => ?_)) F g fun _ _ _ _ _ _ us hl => match us, hl with | [_, _], _ => rfl
  · obtain ⟨v, p, o, b2, rfl, _⟩ := h
    rfl
  · obtain ⟨v, p, o, b2, rfl, S2, N, no1, yes1⟩ := h
    -- behind the try
    have tail : ∃ t : TS, PSs (cxOf CX0 P w K mg base ["plan", "places", "caught", "error"] "_law_caught" (defScope sCaught) f cdv A outer s H E).nox ((defBody sCaught).drop 2) t ∧
        (∀ H' (e : Option V), Q .non H' → t { nx := fun _ H' => Q .non H', rt := Q } [some v, some p, some .non, e] H') ∧
        (∀ (Ce dx a : Addr) (u : V) (b1 b2 : Bool) (e : Option V) (H0 : Hp), XCls K Ce "value" → PySem.W.kitOne K (.ref Ce) (.ref CP) = some b1 → PySem.W.kitOne K (.ref Ce) (.ref CN) = some b2 → Ans K H u b1 b2 Q → Same H H0 → H0 dx = none → (upd H0 dx (.xd [("value", u)])) a = none →
          t { nx := fun _ H' => Q .non H', rt := Q } [some v, some p, some (.ref a), e] (upd (upd H0 dx (.xd [("value", u)])) a (xob a Ce dx))) := by
      refine ⟨_, PSs.nox (pss_cons (ps_if (pt_cmpR op_isN (pv 2) pe_non (nomark _)) (pss_one (ps_ret pe_non)) pss_nil)
        (pss_cons (ps_if (pt_val (pe_bi call_kd B.isi (pa_cons (pe_xv (pv 2)) (pa1 (pe_tyv "list" B.list))))) (pss_one (ps_expr (pe_bm PySem.F.plainAttrs_list PySem.F.slot_list_append PySem.F.type_list_append mt_append (pe_xv (pv 2)) (pa1 pe_str)))) pss_nil)
        (pss_one (ps_ret (pe_lst (pa_cons (pe_bi call_isx B.isi (pa_cons (pv 2) (pa1 (pe_glob (v := .ref CP) (by rfl) EF.p rfl))))
          (pa_cons (pe_bi call_isx B.isi (pa_cons (pv 2) (pa1 (pe_glob (v := .ref CN) (by rfl) EF.n rfl))))
          (pa1 (pe_bi (call_repr hn hr.units) B.repr (pa1 (pe_xv (pv 2)))))))))))), fun H' e q => ?_, fun Ce dx a u b1 b2 e H0 X k1 k2 an s0 nd na => ?_⟩
      · exact ⟨_, rfl, rfl, _, rfl, iteT q⟩
      · have dxa : dx ≠ a := fun z => by
          rw [← z, upd_same] at na
          cases na
        have sm : Same H (upd (upd H0 dx (.xd [("value", u)])) a (xob a Ce dx)) := fun c o e => by
          have y : (upd H0 dx (.xd [("value", u)])) c = some o := by
            rw [upd_ne (ne_of_none (s0 _ _ e) nd)]
            exact s0 _ _ e
          rw [upd_ne (ne_of_none y na)]
          exact y
        have h3a : (upd (upd H0 dx (.xd [("value", u)])) a (xob a Ce dx)) a = some (xob a Ce dx) := upd_same
        have h3d : (upd (upd H0 dx (.xd [("value", u)])) a (xob a Ce dx)) dx = some (.xd [("value", u)]) := by
          rw [upd_ne dxa]
          exact upd_same
        generalize upd (upd H0 dx (.xd [("value", u)])) a (xob a Ce dx) = G at sm h3a h3d ⊢
        refine ⟨_, rfl, rfl, _, rfl, iteF ?_⟩
        obtain ⟨t, H2, res, fin⟩ := an
        cases res with
        | other k r =>
          refine ⟨_, rfl, a, Ce, dx, _, u, rfl, h3a, h3d, X, rfl, u, "list", false, rfl, isk_same sm k, false, rfl, iteF ?_⟩
          obtain ⟨d, ls, hq, q1, q2, q3, q4, q5, rfl⟩ := rep_same sm r
          refine ⟨_, rfl, a, Ce, dx, _, _, _, b1, rfl, h3a, h3d, X.isx, .own CP, k1, _, rfl, a, Ce, dx, _, _, _, b2, rfl, h3a, h3d, X.isx, .own CN, k2, _, rfl, a, Ce, dx, _, u, rfl, h3a, h3d, X, rfl, u, d, ls, rfl, hq, q1, q2, q3, q4, ?_⟩
          refine ⟨(by show 3 ≤ sizeLine; decide), fun z nu => ?_⟩
          exact fin z _ (fun c o e => by rw [upd_ne (ne_of_none (sm c o e) nu)]; exact sm c o e) (sm.free nu) upd_same
        | @list a0 xs t e z r =>
          have g0 := sm _ _ e
          have aa : a ≠ a0 := ne_of h3a g0 (by intro z; cases z)
          have da : dx ≠ a0 := ne_of h3d g0 (by intro z; cases z)
          refine ⟨_, rfl, a, Ce, dx, _, .ref a0, rfl, h3a, h3d, X, rfl, _, "list", true, rfl, isk_lst g0 _ (by decide +kernel), true, rfl, iteT ?_⟩
          refine ⟨_, rfl, a, Ce, dx, _, .ref a0, rfl, h3a, h3d, X, rfl, .inl ⟨rfl, _, SqL.of g0⟩, a0, xs, _, rfl, rfl, g0, small1000 (by omega), ?_⟩
          have sm2 : Same (upd H a0 (.lst (xs ++ [.str "more"]))) (upd G a0 (.lst (xs ++ [.str "more"]))) := fun c o q => by
            by_cases ca : c = a0
            · rw [ca, upd_same] at q ⊢
              exact q
            · rw [upd_ne ca] at q ⊢
              exact sm c o q
          have h4a : (upd G a0 (.lst (xs ++ [.str "more"]))) a = some (xob a Ce dx) := by
            rw [upd_ne aa]
            exact h3a
          have h4d : (upd G a0 (.lst (xs ++ [.str "more"]))) dx = some (.xd [("value", V.ref a0)]) := by
            rw [upd_ne da]
            exact h3d
          obtain ⟨d, ls, hq, q1, q2, q3, q4, q5, rfl⟩ := rep_same sm2 r
          refine ⟨_, rfl, a, Ce, dx, _, _, _, b1, rfl, h4a, h4d, X.isx, .own CP, k1, _, rfl, a, Ce, dx, _, _, _, b2, rfl, h4a, h4d, X.isx, .own CN, k2, _, rfl, a, Ce, dx, _, .ref a0, rfl, h4a, h4d, X, rfl, .ref a0, d, ls, rfl, hq, q1, q2, q3, q4, ?_⟩
          refine ⟨(by show 3 ≤ sizeLine; decide), fun u nu => ?_⟩
          refine fin u _ (fun c o q => by rw [upd_ne (ne_of_none (sm2 c o q) nu)]; exact sm2 c o q) ?_ upd_same
          have n2 := sm2.free nu
          by_cases ua : u = a0
          · rw [ua, upd_same] at n2
            cases n2
          · rw [upd_ne ua] at n2
            exact n2
    obtain ⟨t, ht, tN, tE⟩ := tail
    refine ⟨_, pss_cons (ps_set (i := 2) scCaught.nd rfl (.inl rfl) pe_non) (pss_cons (ps_keep (i := 3) (j := 2) (cv := .ref CW) rfl rfl rfl scCaught.nd rfl rfl (by show 3 < 4; decide) ⟨by rfl, by decide, .inl EF.w⟩
      (fun W pn xe tk po => pss_one (ps_expr (pe_callS (E := WE W) FR hr rfl gR kR bR (passAt tk) (pa_cons (pv 0) (pa1 (pv 1))))))
      (fun a pn => pss_one (ps_asg (pv 3) (pg_name (i := 2) scCaught.nd rfl (.inl rfl))))) ht), ?_⟩
    refine ⟨_, rfl, _, rfl, v, p, o, b2, rfl, S2, N, fun z H1 s1 d nd => ?_, fun z => ?_⟩
    · exact ⟨CP, d, rfl, rfl, EF.xP, fun a na => tE CP d a v true false _ H1 EF.cP EF.kPP EF.kPN (no1 z) s1 nd na⟩
    · obtain ⟨a, ks, rfl, L, kl, em, ne⟩ := yes1 z
      refine ⟨a, ks, rfl, L, kl, fun z2 H1 s1 d nd => ?_, fun z2 => ?_⟩
      · exact ⟨CP, d, rfl, rfl, EF.xP, fun a' na => tE CP d a' (.ref a) true false _ H1 EF.cP EF.kPP EF.kPN (em z2) s1 nd na⟩
      · obtain ⟨bad, good⟩ := ne z2
        refine ⟨fun z3 H1 s1 d nd => ?_, fun z3 => ?_⟩
        · exact ⟨CN, d, rfl, rfl, EF.xN, fun a' na => tE CN d a' p false true _ H1 EF.cN EF.kNP EF.kNN (bad z3) s1 nd na⟩
        · obtain ⟨pl, b, rfl, p1, p2, S, noS, yesS⟩ := good z3
          exact ⟨pl, b, rfl, p1, p2, S, fun z4 H1 s1 d nd => ⟨CN, d, rfl, rfl, EF.xN, fun a' na => tE CN d a' (.int pl) false true _ H1 EF.cN EF.kNP EF.kNN (noS z4) s1 nd na⟩, fun z4 H1 s1 => tN H1 _ (yesS z4 H1 s1)⟩
end
end Kx
/-! Own ground, part U: written data, laid anew, that may hold lists that stood before. -/
namespace Xu
open PySem PySem.Spec PyProof.Rows L2 Xa Xb Xc Xp Xr Xl Xk Xt Xq
mutual
inductive Lu (O : Addr → Prop) (H : Hp) : V → PyData → List Addr → Prop
  | non : Lu O H .non .none []
  | bl (b : Bool) : Lu O H (.bl b) (.bool b) []
  | int (i : Int) : Lu O H (.int i) (.int i) []
  | str (z : Str) : Lu O H (.str z) (.str z) []
  | lst {a : Addr} {xs : List V} {ds : List PyData} {ls : List Addr} : H a = some (.lst xs) → Lus O H xs ds ls → Lu O H (.ref a) (.list ds) (a :: ls)
  | tup {a : Addr} {xs : List V} {ds : List PyData} {ls : List Addr} : H a = some (.tup xs) → Lus O H xs ds ls → Lu O H (.ref a) (.tuple ds) ls
  | dic {a : Addr} : H a = some (.dK []) → Lu O H (.ref a) (.dict []) []
  | old {a : Addr} {l : List Int} : O a → H a = some (.lst (l.map V.int)) → Lu O H (.ref a) (lstD l) []
inductive Lus (O : Addr → Prop) (H : Hp) : List V → List PyData → List Addr → Prop
  | nil : Lus O H [] [] []
  | cons {v : V} {vs : List V} {d : PyData} {ds : List PyData} {l1 l2 : List Addr} : Lu O H v d l1 → Lus O H vs ds l2 → Lus O H (v :: vs) (d :: ds) (l1 ++ l2)
end
section
variable {O : Addr → Prop} {H H' : Hp} {K : PySem.W.Frag}
mutual
/-- read as data; the lists named are some list -/
theorem lu_dq : ∀ {v : V} {d : PyData} {ls : List Addr}, Lu O H v d ls → ∃ ls', Dq K H v d ls'
  | _, _, _, .non => ⟨_, .non⟩
  | _, _, _, .bl b => ⟨_, .bl b⟩
  | _, _, _, .int i => ⟨_, .int i⟩
  | _, _, _, .str z => ⟨_, .str z⟩
  | _, _, _, .lst h t => let ⟨_, q⟩ := lus_dq t; ⟨_, .lst (SqL.of h) q⟩
  | _, _, _, .tup h t => let ⟨_, q⟩ := lus_dq t; ⟨_, .tup (SqT.of h) q⟩
  | _, _, _, .dic h => ⟨_, .dic (kvs := []) (ds := []) h .nil .nil⟩
  | _, _, _, .old _ h => ⟨_, .lst (SqL.of h) (dqs_ints _)⟩
theorem lus_dq : ∀ {v : List V} {d : List PyData} {ls : List Addr}, Lus O H v d ls → ∃ ls', Dqs K H v d ls'
  | _, _, _, .nil => ⟨_, .nil⟩
  | _, _, _, .cons h t => let ⟨_, q⟩ := lu_dq h; let ⟨_, r⟩ := lus_dq t; ⟨_, .cons q r⟩
end
mutual
theorem lu_but {a : Addr} (e : ∀ c o, H c = some o → c ≠ a → H' c = some o) (ha : ∃ xs, H a = some (.lst xs)) (hO : ¬ O a) : ∀ {v : V} {d : PyData} {ls : List Addr}, Lu O H v d ls → a ∉ ls → Lu O H' v d ls
  | _, _, _, .non, _ => .non
  | _, _, _, .bl b, _ => .bl b
  | _, _, _, .int i, _ => .int i
  | _, _, _, .str z, _ => .str z
  | _, _, _, .lst h t, n => .lst (e _ _ h fun z => n (by rw [z] <;> exact List.mem_cons_self)) (lus_but e ha hO t fun z => n (List.mem_cons_of_mem _ z))
  | _, _, _, .tup h t, n => .tup (e _ _ h fun z => by obtain ⟨xs, q⟩ := ha; rw [z, q] at h; cases h) (lus_but e ha hO t n)
  | _, _, _, .dic h, _ => .dic (e _ _ h fun z => by obtain ⟨xs, q⟩ := ha; rw [z, q] at h; cases h)
  | _, _, _, .old o h, _ => .old o (e _ _ h fun z => hO (by rw [← z] <;> exact o))
theorem lus_but {a : Addr} (e : ∀ c o, H c = some o → c ≠ a → H' c = some o) (ha : ∃ xs, H a = some (.lst xs)) (hO : ¬ O a) : ∀ {v : List V} {d : List PyData} {ls : List Addr}, Lus O H v d ls → a ∉ ls → Lus O H' v d ls
  | _, _, _, .nil, _ => .nil
  | _, _, _, .cons h t, n => .cons (lu_but e ha hO h fun z => n (List.mem_append_left _ z)) (lus_but e ha hO t fun z => n (List.mem_append_right _ z))
end
mutual
theorem lu_same (e : Same H H') : ∀ {v : V} {d : PyData} {ls : List Addr}, Lu O H v d ls → Lu O H' v d ls
  | _, _, _, .non => .non
  | _, _, _, .bl b => .bl b
  | _, _, _, .int i => .int i
  | _, _, _, .str z => .str z
  | _, _, _, .lst h t => .lst (e _ _ h) (lus_same e t)
  | _, _, _, .tup h t => .tup (e _ _ h) (lus_same e t)
  | _, _, _, .dic h => .dic (e _ _ h)
  | _, _, _, .old o h => .old o (e _ _ h)
theorem lus_same (e : Same H H') : ∀ {v : List V} {d : List PyData} {ls : List Addr}, Lus O H v d ls → Lus O H' v d ls
  | _, _, _, .nil => .nil
  | _, _, _, .cons h t => .cons (lu_same e h) (lus_same e t)
end
mutual
theorem lu_at : ∀ {v : V} {d : PyData} {ls : List Addr}, Lu O H v d ls → ∀ a ∈ ls, ∃ xs, H a = some (.lst xs)
  | _, _, _, .non, _, z => nomatch z
  | _, _, _, .bl b, _, z => nomatch z
  | _, _, _, .int i, _, z => nomatch z
  | _, _, _, .str s, _, z => nomatch z
  | _, _, _, .lst h t, b, z => (List.mem_cons.mp z).elim (fun q => ⟨_, (congrArg H q).trans h⟩) fun q => lus_at t b q
  | _, _, _, .tup h t, b, z => lus_at t b z
  | _, _, _, .dic h, _, z => nomatch z
  | _, _, _, .old o h, _, z => nomatch z
theorem lus_at : ∀ {v : List V} {d : List PyData} {ls : List Addr}, Lus O H v d ls → ∀ a ∈ ls, ∃ xs, H a = some (.lst xs)
  | _, _, _, .nil, _, z => nomatch z
  | _, _, _, .cons h t, b, z => (List.mem_append.mp z).elim (lu_at h b) (lus_at t b)
end
theorem lus_app : ∀ {vs vs' : List V} {ds ds' : List PyData} {ls ls' : List Addr}, Lus O H vs ds ls → Lus O H vs' ds' ls' → Lus O H (vs ++ vs') (ds ++ ds') (ls ++ ls')
  | _, _, _, _, _, _, .nil, t => t
  | _, _, _, _, _, _, .cons (l1 := l1) (l2 := l2) h t, t' => by
    rw [List.append_assoc]
    exact .cons h (lus_app t t')
theorem lus_len : ∀ {vs : List V} {ds : List PyData} {ls : List Addr}, Lus O H vs ds ls → vs.length = ds.length
  | _, _, _, .nil => rfl
  | _, _, _, .cons _ t => congrArg Nat.succ (lus_len t)
theorem lu_num {v : V} {d : PyData} {ls : List Addr} (h : Lu O H v d ls) : Num K H v (numD d) := by
  cases h with
  | non => exact .no whl_non
  | bl b => exact .no (whl_bl b)
  | int i => exact .is i
  | str z => exact .no (whl_str z)
  | lst h t => exact .no (whl_lst h)
  | tup h t => exact .no (whl_tup h)
  | dic h => exact .no (whl_dic h)
  | old o h => exact .no (whl_lst h)
theorem lu_isk {v : V} {d : PyData} {ls : List Addr} {T : String} {b : Bool} (h : Lu O H v d ls) (e : kitB (kindD d) T = some b) : IsK K H v T b := by
  cases h with
  | non => exact isk_non _ e
  | bl b => exact isk_bl b _ e
  | int i => exact isk_int i _ e
  | str z => exact isk_str z _ e
  | lst h t => exact isk_lst h _ e
  | tup h t => exact isk_tup h _ e
  | dic h => exact isk_dic h _ e
  | old o h => exact isk_lst h _ e
end
/-! ### displays -/
/-- v is no object that stood before -/
def Frs (H : Hp) (v : V) : Prop := ∀ a, v = .ref a → H a = none
theorem frs_ref {H : Hp} {p : Addr} (n : H p = none) : Frs H (.ref p) := fun a e => by
  injection e with e
  rw [← e]
  exact n
def tLu (S : L2.St → Hp → Prop) (O : Addr → Prop) (d : PyData) : TE := fun σ H Q => S σ H ∧ ∀ v H' ls, Same H H' → Lu O H' v d ls → ls.Nodup → (∀ a ∈ ls, H a = none) → Frs H v → Q v H'
def tLus (S : L2.St → Hp → Prop) (O : Addr → Prop) (ds : List PyData) : TA := fun σ H Q => S σ H ∧ ∀ vs H' ls, Same H H' → Lus O H' vs ds ls → ls.Nodup → (∀ a ∈ ls, H a = none) → (∀ v ∈ vs, Frs H v) → Q vs H'
/-- a list laid anew, and its elements -/
def tTop (S : L2.St → Hp → Prop) (O : Addr → Prop) (ds : List PyData) : TE := fun σ H Q => S σ H ∧ ∀ p vs H' ls, Same H H' → H' p = some (.lst vs) → Lus O H' vs ds ls → (p :: ls).Nodup → (∀ a ∈ p :: ls, H a = none) → (∀ v ∈ vs, Frs H v) → Q (.ref p) H'
/-- kept when more is laid -/
def Stays (S : L2.St → Hp → Prop) : Prop := ∀ σ H H', S σ H → Same H H' → S σ H'
section
variable {X : Cx} {S : L2.St → Hp → Prop} {O : Addr → Prop} {d : PyData} {ds : List PyData} {e : Expr} {es : List Expr} {pos : Pos}
theorem lu_non {j : Nat} : PE X (.Constant .none j pos) (tLu S O .none) := pe_of (fun σ H Q h => h.2 .non H [] (Same.refl H) .non List.nodup_nil (fun _ z => nomatch z) fun _ z => nomatch z) pe_non
theorem lu_bl {b : Bool} {j : Nat} : PE X (.Constant (.bool b) j pos) (tLu S O (.bool b)) := pe_of (fun σ H Q h => h.2 (.bl b) H [] (Same.refl H) (.bl b) List.nodup_nil (fun _ z => nomatch z) fun _ z => nomatch z) pe_bl
theorem lu_str {x : Str} {j : Nat} : PE X (.Constant (.str x) j pos) (tLu S O (.str x)) := pe_of (fun σ H Q h => h.2 (.str x) H [] (Same.refl H) (.str x) List.nodup_nil (fun _ z => nomatch z) fun _ z => nomatch z) pe_str
theorem lu_int {i : Int} {j : Nat} : PE X (.Constant (.int i) j pos) (tLu S O (.int i)) := pe_of (fun σ H Q h => h.2 (.int i) H [] (Same.refl H) (.int i) List.nodup_nil (fun _ z => nomatch z) fun _ z => nomatch z) pe_int
theorem lu_neg {i : Int} {j : Nat} {pos2 : Pos} : PE X (.UnaryOp .USub (.Constant (.int i) j pos) pos2) (tLu S O (.int (-i))) := pe_of (fun σ H Q h => ⟨i, rfl, h.2 (.int (-i)) H [] (Same.refl H) (.int (-i)) List.nodup_nil (fun _ z => nomatch z) fun _ z => nomatch z⟩) (pe_un un_neg pe_int)
theorem lu_dic : PE X (.Dict [] [] pos) (tLu S O (.dict [])) := pe_of (fun σ H Q h p np => h.2 (.ref p) _ [] (upd_same_as np) (.dic upd_same) List.nodup_nil (fun _ z => nomatch z) (frs_ref np)) pe_dnewK
theorem lus_nil : PA X [] (tLus S O []) := pa_of (fun σ H Q h => h.2 [] H [] (Same.refl H) .nil List.nodup_nil (fun _ z => nomatch z) fun _ z => nomatch z) pa_nil
theorem lus_cons (st : Stays S) (h : PE X e (tLu S O d)) (t : PA X es (tLus S O ds)) (hs : starEach (e :: es) X.env = (false, eval e X.env) :: starEach es X.env := by rfl) : PA X (e :: es) (tLus S O (d :: ds)) := by
  refine pa_of (fun σ H Q q => ?_) (pa_cons h t hs)
  refine ⟨q.1, fun v H1 l1 s1 t1 n1 f1 o1 => ⟨st _ _ _ q.1 s1, fun vs H2 l2 s2 t2 n2 f2 o2 => q.2 (v :: vs) H2 (l1 ++ l2) (s1.trans s2) (.cons (lu_same s2 t1) t2) ?_ (fun a z => ?_) fun u hu => ?_⟩⟩
  · refine List.nodup_append.mpr ⟨n1, n2, fun a z b z2 e => ?_⟩
    obtain ⟨xs, y⟩ := lu_at t1 a z
    rw [e, f2 b z2] at y
    cases y
  · rcases List.mem_append.mp z with z | z
    · exact f1 a z
    · exact s1.free (f2 a z)
  · rcases List.mem_cons.mp hu with rfl | hu
    · exact o1
    · exact fun a e => s1.free (o2 u hu a e)
theorem lu_tup {x : Nat} (h : PA X es (tLus S O ds)) (z : ds.length ≤ 1000) : PE X (.Tuple es x pos) (tLu S O (.tuple ds)) := by
  refine pe_of (fun σ H Q q => ?_) (pe_tup h)
  refine ⟨q.1, fun vs H1 ls s1 t1 n1 f1 o1 => ⟨?_, fun p np => q.2 (.ref p) _ ls (s1.trans (upd_same_as np)) (.tup upd_same (lus_same (upd_same_as np) t1)) n1 f1 (frs_ref (s1.free np))⟩⟩
  rw [lus_len t1, sizeLine_eq]
  omega
theorem new_nodup {H1 : Hp} {vs : List V} {ls : List Addr} {p : Addr} (t1 : Lus O H1 vs ds ls) (np : H1 p = none) (n1 : ls.Nodup) : (p :: ls).Nodup := by
  refine List.nodup_cons.mpr ⟨fun z => ?_, n1⟩
  obtain ⟨xs, y⟩ := lus_at t1 p z
  rw [np] at y
  cases y
theorem lu_top (h : PA X es (tLus S O ds)) (z : ds.length ≤ 1000) : PE X (.List es pos) (tTop S O ds) := by
  refine pe_of (fun σ H Q q => ?_) (pe_lst h)
  refine ⟨q.1, fun vs H1 ls s1 t1 n1 f1 o1 => ⟨?_, fun p np => q.2 p vs _ ls (s1.trans (upd_same_as np)) upd_same (lus_same (upd_same_as np) t1) (new_nodup t1 np n1) (fun a z => ?_) o1⟩⟩
  · rw [lus_len t1, sizeLine_eq]
    omega
  · rcases List.mem_cons.mp z with z | z
    · rw [z]
      exact s1.free np
    · exact f1 a z
theorem lu_lst (h : PA X es (tLus S O ds)) (z : ds.length ≤ 1000) : PE X (.List es pos) (tLu S O (.list ds)) := by
  refine pe_of (fun σ H Q q => ?_) (lu_top h z)
  exact ⟨q.1, fun p vs H1 ls s1 hp t1 n1 f1 o1 => q.2 (.ref p) H1 (p :: ls) s1 (.lst hp t1) n1 f1 (frs_ref (f1 p List.mem_cons_self))⟩
end
/-- a plan that stood before, element by element -/
theorem old_lus {O : Addr → Prop} {H : Hp} : ∀ ks : List (Addr × List Int), (∀ q ∈ ks, O q.1) → (∀ q ∈ ks, H q.1 = some (.lst (q.2.map V.int))) → Lus O H (ks.map fun q => V.ref q.1) ((ks.map (·.2)).map lstD) []
  | [], _, _ => .nil
  | q :: ks, o, h => .cons (l1 := []) (.old (o q List.mem_cons_self) (h q List.mem_cons_self)) (old_lus ks (fun z hz => o z (List.mem_cons_of_mem _ hz)) fun z hz => h z (List.mem_cons_of_mem _ hz))
end Xu
/-! Own ground: what repr shows is made of signs. -/
namespace Xu
open PySem PySem.Spec PyProof.Rows L2 Xa Xb Xc Xp Xr Xl Xk Xt Xq Ya Yh
theorem ofStr_ok (s : String) : PyData.strOk (Str.ofString s) = true := by
  refine ok_iff.mpr fun c hc => ?_
  have hc : c ∈ (Str.ofString s).cps.toList := hc
  rw [Str.ofString_eq_toList] at hc
  obtain ⟨x, _, rfl⟩ := List.mem_map.mp hc
  have h := x.valid
  show x.val.toNat < 1114112
  rcases h with h | ⟨_, h⟩
  · have : x.val.toNat < 55296 := h
    omega
  · have : x.val.toNat < 1114112 := h
    omega
theorem app_ok {x y : Str} (a : PyData.strOk x = true) (b : PyData.strOk y = true) : PyData.strOk (x ++ y) = true := (tx_app (m := x.length) (n := y.length) ⟨Nat.le_refl _, a⟩ ⟨Nat.le_refl _, b⟩).2
theorem textFrom_ok : ∀ (ts : List Str) (i : Nat) (z : Str), PyData.strOk z = true → (∀ t ∈ ts, PyData.strOk t = true) → PyData.strOk (textFrom i z ts) = true
  | [], _, _, h, _ => h
  | t :: ts, i, z, h, a => by
    unfold textFrom
    refine textFrom_ok ts _ _ (app_ok (app_ok h ?_) (a t List.mem_cons_self)) fun q hq => a q (List.mem_cons_of_mem _ hq)
    split <;> exact ofStr_ok _
theorem strJoin_ok {g : Str} (hg : PyData.strOk g = true) : ∀ (ts : List Str), (∀ t ∈ ts, PyData.strOk t = true) → PyData.strOk (Str.join g ts) = true
  | [], _ => by simp [Str.join]; exact ok_iff.mpr fun c hc => nomatch hc
  | [t], a => by simpa [Str.join] using a t List.mem_cons_self
  | t :: u :: ts, a => by
    rw [Str.join]
    exact app_ok (app_ok (a t List.mem_cons_self) hg) (strJoin_ok hg (u :: ts) fun q hq => a q (List.mem_cons_of_mem _ hq))
    simp
mutual
def shOk : PyData → Bool
  | .none => true
  | .bool _ => true
  | .int _ => true
  | .str x => PyData.strOk (reprText x)
  | .list xs => shAll xs
  | .tuple xs => shAll xs
  | .dict _ => false
def shAll : List PyData → Bool
  | [] => true
  | x :: xs => shOk x && shAll xs
end
mutual
theorem shown_ok : ∀ d : PyData, shOk d = true → PyData.strOk d.shown = true
  | .none, _ => by simp only [PyData.shown]; exact ofStr_ok _
  | .bool b, _ => by cases b <;> exact ofStr_ok _
  | .int i, _ => by simp only [PyData.shown]; exact ofStr_ok _
  | .str x, h => by simp only [PyData.shown]; exact h
  | .list xs, h => by
    have q := shAll_ok xs h
    simp only [PyData.shown]
    exact app_ok (textFrom_ok _ _ _ (ofStr_ok _) q) (ofStr_ok _)
  | .tuple xs, h => by
    have q := shAll_ok xs h
    simp only [PyData.shown]
    exact app_ok (app_ok (ofStr_ok _) (strJoin_ok (ofStr_ok _) _ q)) (ofStr_ok _)
  | .dict _, h => nomatch h
theorem shAll_ok : ∀ ds : List PyData, shAll ds = true → ∀ t ∈ PyData.shownAll ds, PyData.strOk t = true
  | [], _, t, ht => by simp [PyData.shownAll] at ht
  | x :: xs, h, t, ht => by
    simp only [shAll, Bool.and_eq_true] at h
    simp only [PyData.shownAll] at ht
    rcases List.mem_cons.mp ht with rfl | ht
    · exact shown_ok x h.1
    · exact shAll_ok xs h.2 t ht
end
/-- one that may stand in a list that is shown -/
def good1 (d : PyData) : Bool := d.showable && PyData.leavesShort 32 d && decide (d.depth ≤ 5) && decide (d.weight ≤ 400) && shOk d && !d.hasDict
theorem all_showable : ∀ ds : List PyData, (∀ d ∈ ds, good1 d = true) → PyData.showableAll ds = true ∧ PyData.leavesShortAll 32 ds = true ∧ PyData.depthAll ds ≤ 5 ∧ PyData.weightAll ds ≤ 401 * ds.length ∧ shAll ds = true ∧ PyData.hasDictAll ds = false
  | [], _ => by simp [PyData.showableAll, PyData.leavesShortAll, PyData.depthAll, PyData.weightAll, shAll, PyData.hasDictAll]
  | x :: xs, h => by
    have q := all_showable xs fun d hd => h d (List.mem_cons_of_mem _ hd)
    have r := h x List.mem_cons_self
    simp only [good1, Bool.and_eq_true, decide_eq_true_eq, Bool.not_eq_true'] at r
    obtain ⟨⟨⟨⟨⟨r1, r2⟩, r3⟩, r4⟩, r5⟩, r6⟩ := r
    obtain ⟨q1, q2, q3, q4, q5, q6⟩ := q
    refine ⟨by simp [PyData.showableAll, r1, q1], by simp [PyData.leavesShortAll, r2, q2], ?_, ?_, by simp [shAll, r5, q5], by simp [PyData.hasDictAll, r6, q6]⟩
    · simp only [PyData.depthAll]
      omega
    · simp only [PyData.weightAll, List.length_cons]
      omega
theorem okD_list (ds : List PyData) (h : ∀ d ∈ ds, good1 d = true) (n : ds.length ≤ 1000) : okD (.list ds) = true := by
  obtain ⟨q1, q2, q3, q4, q5, q6⟩ := all_showable ds h
  have a := PyData.shown_le 32 (by decide) (.list ds) (by simpa [PyData.leavesShort] using q2)
  have b : (PyData.list ds).weight ≤ 401 * 1000 + 100 := by simp only [PyData.weight]; omega
  have c : (PyData.list ds).shown.length ≤ sizeLine := by
    have d : (32 + 2) * (PyData.list ds).weight ≤ 34 * (401 * 1000 + 100) := Nat.mul_le_mul (Nat.le_refl _) b
    rw [sizeLine_eq]
    omega
  have e : PyData.strOk (PyData.list ds).shown = true := shown_ok _ (by simpa [shOk] using q5)
  have f : (PyData.list ds).depth ≤ 60 := by simp only [PyData.depth]; omega
  have g : (PyData.list ds).hasDict = false := by simpa [PyData.hasDict] using q6
  have k : (PyData.list ds).showable = true := by simpa [PyData.showable] using q1
  simp [okD, e, f, g, k, c]
theorem okD_tuple (ds : List PyData) (h : ∀ d ∈ ds, good1 d = true) (n : ds.length ≤ 1000) : okD (.tuple ds) = true := by
  obtain ⟨q1, q2, q3, q4, q5, q6⟩ := all_showable ds h
  have a := PyData.shown_le 32 (by decide) (.tuple ds) (by simpa [PyData.leavesShort] using q2)
  have b : (PyData.tuple ds).weight ≤ 401 * 1000 + 100 := by simp only [PyData.weight]; omega
  have c : (PyData.tuple ds).shown.length ≤ sizeLine := by
    have d : (32 + 2) * (PyData.tuple ds).weight ≤ 34 * (401 * 1000 + 100) := Nat.mul_le_mul (Nat.le_refl _) b
    rw [sizeLine_eq]
    omega
  have e : PyData.strOk (PyData.tuple ds).shown = true := shown_ok _ (by simpa [shOk] using q5)
  have f : (PyData.tuple ds).depth ≤ 60 := by simp only [PyData.depth]; omega
  have g : (PyData.tuple ds).hasDict = false := by simpa [PyData.hasDict] using q6
  have k : (PyData.tuple ds).showable = true := by simpa [PyData.showable] using q1
  simp [okD, e, f, g, k, c]
theorem good_lst (l : List Int) (n : l.length ≤ 3) (h : ∀ z ∈ l, z.natAbs < 10 ^ 30) : good1 (lstD l) = true := by
  have h1 := ints_showable l h
  have h2 := ints_short l h
  have h3 := ints_weight l h
  have h4 := ints_depth l
  have h5 : ∀ l : List Int, shAll (l.map .int) = true ∧ PyData.hasDictAll (l.map .int) = false := by
    intro l
    induction l with
    | nil => simp [shAll, PyData.hasDictAll]
    | cons x xs ih => simp [shAll, PyData.hasDictAll, shOk, PyData.hasDict, ih]
  have h6 : (lstD l).weight ≤ 400 := by simp only [lstD, PyData.weight]; omega
  have h7 : (lstD l).depth ≤ 5 := by simp only [lstD, PyData.depth]; omega
  simp [good1, h6, h7]
  simp [lstD, PyData.showable, PyData.leavesShort, shOk, PyData.hasDict, h1, h2, h5 l]
end Xu
/-! What is refused, as data. -/
namespace Kx
open PySem PySem.Spec PyProof.Rows L2 Xa Xb Xc Xd Xs Xp Xm Xr Xl Xk Xq Xt Xu Ya Yb Yc Yd Ye Yf Yg Yh Yi Yj
/-! ### pieces, of data -/
def pceD (pl : Nat) : PyData → Bool
  | .list ds => pceB pl (ds.map numD)
  | _ => false
def pcsD (pl : Nat) : PyData → Bool
  | .list ds => (ds.map (pceD pl)).all id
  | _ => false
def short1 : PyData → Bool
  | .list ds => decide (ds.length ≤ 100)
  | _ => true
def short2 : PyData → Bool
  | .list ds => decide (ds.length ≤ 1000) && ds.all short1
  | _ => true
section
variable {O : Addr → Prop} {H : Hp} {K : PySem.W.Frag}
theorem nums_of_ints : ∀ l : List Int, Nums K H (l.map V.int) ((l.map PyData.int).map numD)
  | [] => .nil
  | x :: l => .cons (.is x) (nums_of_ints l)
theorem lus_nums : ∀ {vs : List V} {ds : List PyData} {ls : List Addr}, Lus O H vs ds ls → Nums K H vs (ds.map numD)
  | _, _, _, .nil => .nil
  | _, _, _, .cons h t => .cons (lu_num h) (lus_nums t)
theorem lu_pce {pl : Nat} {v : V} {d : PyData} {ls : List Addr} (t : Lu O H v d ls) (s : short1 d = true) : Pce K H pl v (pceD pl d) := by
  cases t with
  | lst h t => exact .lst h (lus_nums t) (by rw [lus_len t]; exact of_decide_eq_true s)
  | old o h => exact .lst h (nums_of_ints _) (by rw [List.length_map]; have := of_decide_eq_true s; rw [List.length_map] at this; exact this)
  | non => exact .kind (isk_non _ (by decide +kernel))
  | bl b => exact .kind (isk_bl b _ (by decide +kernel))
  | int i => exact .kind (isk_int i _ (by decide +kernel))
  | str z => exact .kind (isk_str z _ (by decide +kernel))
  | tup h t => exact .kind (isk_tup h _ (by decide +kernel))
  | dic h => exact .kind (isk_dic h _ (by decide +kernel))
theorem lus_pces {pl : Nat} : ∀ {vs : List V} {ds : List PyData} {ls : List Addr}, Lus O H vs ds ls → ds.all short1 = true → Pces K H pl vs (ds.map (pceD pl))
  | _, _, _, .nil, _ => .nil
  | _, _, _, .cons h t, s => by
    rw [List.all_cons] at s
    obtain ⟨s1, s2⟩ := He.ba s
    exact .cons (lu_pce h s1) (lus_pces t s2)
theorem ints_short1 : ∀ l : List Int, (l.map PyData.int).all short1 = true
  | [] => rfl
  | x :: l => by rw [List.map_cons, List.all_cons, ints_short1 l] <;> rfl
theorem lu_pcs {pl : Nat} {v : V} {d : PyData} {ls : List Addr} (t : Lu O H v d ls) (s : short2 d = true) : Pcs K H pl v (pcsD pl d) := by
  cases t with
  | lst h t =>
    obtain ⟨s1, s2⟩ := He.ba s
    exact .lst h (lus_pces t s2) (by rw [lus_len t]; exact of_decide_eq_true s1)
  | @old a l o h =>
    obtain ⟨s1, s2⟩ := He.ba s
    have q : Lus O H (l.map V.int) (l.map .int) [] := by
      clear h s s1 s2
      induction l with
      | nil => exact .nil
      | cons x l ih => exact .cons (l1 := []) (.int x) ih
    exact .lst h (lus_pces q s2) (by rw [lus_len q]; exact of_decide_eq_true s1)
  | non => exact .kind (isk_non _ (by decide +kernel))
  | bl b => exact .kind (isk_bl b _ (by decide +kernel))
  | int i => exact .kind (isk_int i _ (by decide +kernel))
  | str z => exact .kind (isk_str z _ (by decide +kernel))
  | tup h t => exact .kind (isk_tup h _ (by decide +kernel))
  | dic h => exact .kind (isk_dic h _ (by decide +kernel))
/-- lists of ints, told so -/
theorem lus_ll : ∀ {vs : List V} {ls : List Addr} (ps : List (List Int)), Lus O H vs (ps.map lstD) ls → ∃ ks : List (Addr × List Int), vs = (ks.map fun q => V.ref q.1) ∧ (∀ q ∈ ks, H q.1 = some (.lst (q.2.map V.int))) ∧ ks.map (·.2) = ps
  | vs, ls, [], t => by
    cases t
    exact ⟨[], rfl, (fun _ h => nomatch h), rfl⟩
  | vs, ls, l :: ps, t => by
    rw [List.map_cons] at t
    generalize hd : lstD l = d at t
    cases t with
    | @cons v _ _ _ _ _ h t =>
      obtain ⟨ks, rfl, e2, e3⟩ := lus_ll ps t
      have : ∃ a, v = V.ref a ∧ H a = some (.lst (l.map V.int)) := by
        cases h with
        | lst h t =>
          injection hd with hd
          subst hd
          refine ⟨_, rfl, ?_⟩
          rw [h]
          have : ∀ {xs : List V} {l : List Int} {ls : List Addr}, Lus O H xs (l.map .int) ls → xs = l.map V.int := by
            intro xs l
            induction l generalizing xs with
            | nil =>
              intro ls t
              cases t
              rfl
            | cons x l ih =>
              intro ls t
              cases t with
              | cons h t =>
                cases h
                rw [ih t]
                rfl
          rw [this t]
        | @old a l2 o h =>
          refine ⟨_, rfl, ?_⟩
          have e : l = l2 := by
            have : ∀ l l2 : List Int, l.map PyData.int = l2.map .int → l = l2 := by
              intro l
              induction l with
              | nil => intro l2 h; cases l2 with
                | nil => rfl
                | cons _ _ => cases h
              | cons x l ih => intro l2 h; cases l2 with
                | nil => cases h
                | cons y l2 =>
                  injection h with h1 h2
                  injection h1 with h1
                  rw [h1, ih l2 h2]
            exact this _ _ (PyData.list.inj hd)
          rw [h, e]
        | _ => cases hd
      obtain ⟨a, rfl, ha⟩ := this
      refine ⟨(a, l) :: ks, rfl, fun q hq => ?_, by rw [List.map_cons, e3]⟩
      rcases List.mem_cons.mp hq with rfl | hq
      · exact ha
      · exact e2 q hq
/-- a list told as lists of ints -/
theorem lu_ll {v : V} {ls : List Addr} {ps : List (List Int)} (ne : ps ≠ []) (t : Lu O H v (llD ps) ls) : ∃ a ks, v = .ref a ∧ LL H a ks ∧ ks.map (·.2) = ps := by
  unfold llD at t
  generalize hd : ps.map lstD = d at t
  generalize hd2 : PyData.list d = d2 at t
  cases t with
  | lst h t =>
    injection hd2 with hd2
    subst hd2
    subst hd
    obtain ⟨ks, rfl, e2, e3⟩ := lus_ll ps t
    exact ⟨_, ks, rfl, ⟨h, e2⟩, e3⟩
  | @old a l o h =>
    injection hd2 with hd2
    cases ps with
    | nil => exact absurd rfl ne
    | cons p ps =>
      rw [← hd] at hd2
      cases l with
      | nil => cases hd2
      | cons x l =>
        injection hd2 with hd2 _
        cases hd2
  | _ => cases hd2
theorem lu_rep {v : V} {d : PyData} {ls : List Addr} (t : Lu O H v d ls) (hd : d = .dict [] ∨ d.hasDict = false) (e : okD d = true) : Rep K H v d.shown := by
  obtain ⟨_, e⟩ := He.ba e
  obtain ⟨e2, e⟩ := He.ba e
  obtain ⟨e3, e⟩ := He.ba e
  obtain ⟨e4, e5⟩ := He.ba e
  rcases hd with rfl | hd
  · cases t with
    | dic h => exact ⟨.dict [], _, .dic (kvs := []) (ds := []) h .nil .nil, fun _ => List.not_mem_nil, e2, of_decide_eq_true e3, of_decide_eq_true e4, e5, rfl⟩
  · obtain ⟨ls', q⟩ := lu_dq (K := K) t
    exact ⟨d, ls', q, fun z => (by rw [hd] at z; cases z), e2, of_decide_eq_true e3, of_decide_eq_true e4, e5, rfl⟩
end
/-! ### a written list gone through, whose lists are lengthened -/
def badOk : PyData → Prop
  | .list es => es.length < 900 ∧ okD (.list (es ++ [.str "more"])) = true ∧ (PyData.list (es ++ [.str "more"])).hasDict = false
  | d => okD d = true ∧ kitB (kindD d) "list" = some false ∧ (d = .dict [] ∨ d.hasDict = false)
structure Inv (O : Addr → Prop) (H0 : Hp) (L : Addr) (vs : List V) (ds : List PyData) (i : Nat) (H' : Hp) : Prop where
  same : Same H0 H'
  at_ : H' L = some (.lst vs)
  new : H0 L = none
  own : ∀ v ∈ vs, Frs H0 v
  old : ∀ a, O a → ∃ o, H0 a = some o
  rest : ∃ ls, Lus O H' (vs.drop i) (ds.drop i) ls ∧ ls.Nodup ∧ L ∉ ls ∧ ∀ a ∈ ls, H0 a = none
section
variable {O : Addr → Prop} {H0 H' : Hp} {K : PySem.W.Frag} {L : Addr} {vs : List V} {ds : List PyData} {i : Nat} {x : V}
theorem Inv.up (I : Inv O H0 L vs ds i H') {H2 : Hp} (s : Same H' H2) : Inv O H0 L vs ds i H2 :=
  let ⟨ls, t, n, l, f⟩ := I.rest
  ⟨I.same.trans s, s _ _ I.at_, I.new, I.own, I.old, ls, lus_same s t, n, l, f⟩
theorem Inv.step (I : Inv O H0 L vs ds i H') (hx : vs[i]? = some x) : ∃ d l1, ds[i]? = some d ∧ Lu O H' x d l1 ∧ (badOk d → ∃ t H2, Res K H' x t H2 ∧ Inv O H0 L vs ds (i + 1) H2) := by
  obtain ⟨ls, t, nd, nl, fr⟩ := I.rest
  obtain ⟨il, rfl⟩ := List.getElem?_eq_some_iff.mp hx
  rw [List.drop_eq_getElem_cons il] at t
  have dl : i < ds.length := by
    have := lus_len t
    rw [List.length_cons, List.length_drop, List.length_drop] at this
    omega
  rw [List.drop_eq_getElem_cons dl] at t
  generalize hd : ds[i] = d at t
  generalize hv : vs[i] = v at t
  have memv : v ∈ vs := by rw [← hv]; exact List.getElem_mem il
  cases t with
  | @cons _ _ _ _ l1 l2 h t =>
  obtain ⟨n1, n2, n3⟩ := List.nodup_append.mp nd
  refine ⟨d, l1, by rw [List.getElem?_eq_getElem dl, hd], h, fun ok => ?_⟩
  have keep : Inv O H0 L vs ds (i + 1) H' := ⟨I.same, I.at_, I.new, I.own, I.old, l2, t, n2, fun z => nl (List.mem_append_right _ z), fun a z => fr a (List.mem_append_right _ z)⟩
  have other : okD d = true ∧ kitB (kindD d) "list" = some false ∧ (d = .dict [] ∨ d.hasDict = false) → ∃ t H2, Res K H' v t H2 ∧ Inv O H0 L vs ds (i + 1) H2 := fun ⟨o1, o2, o3⟩ => ⟨_, _, .other (lu_isk h o2) (lu_rep h o3 o1), keep⟩
  cases h with
  | non => exact other ok
  | bl b => exact other ok
  | int i => exact other ok
  | str z => exact other ok
  | tup h t => exact other ok
  | dic h => exact other ok
  | old o h =>
    obtain ⟨_, y⟩ := I.old _ o
    rw [I.own _ memv _ rfl] at y
    cases y
  | @lst a xs es le h te =>
    obtain ⟨o1, o2, o3⟩ := ok
    have na : H0 a = none := I.own _ memv _ rfl
    have nO : ¬ O a := fun z => by
      obtain ⟨_, y⟩ := I.old _ z
      rw [na] at y
      cases y
    have ev : ∀ c o, H' c = some o → c ≠ a → (upd H' a (.lst (xs ++ [.str "more"]))) c = some o := fun c o e n => by rw [upd_ne n]; exact e
    obtain ⟨m1, m2⟩ := List.nodup_cons.mp n1
    have te2 := lus_app (lus_but ev ⟨_, h⟩ nO te m1) (.cons (.str "more") .nil)
    refine ⟨_, _, .list h (by rw [lus_len te]; exact o1) (lu_rep (.lst upd_same te2) (.inr o3) o2), fun c o e => ?_, ?_, I.new, I.own, I.old, l2, ?_, n2, fun z => nl (List.mem_append_right _ z), fun a z => fr a (List.mem_append_right _ z)⟩
    · exact ev c o (I.same _ _ e) (ne_of_none e na)
    · exact ev L _ I.at_ fun z => nl (by rw [z]; exact List.mem_append_left _ List.mem_cons_self)
    · exact lus_but ev ⟨_, h⟩ nO t fun z => n3 a List.mem_cons_self a z rfl
end
/-! ### what is no plan -/
def Bad (d : PyData) : Prop := badOk d ∧ short2 d = true ∧ (pcsD 2 d = false ∨ d = .list [])
def dsA (ps : List (List Int)) : List PyData := [.none, .int 3, .list [], .tuple [], .tuple (ps.map lstD), .str "o.", .dict [], .list [.none], .list [.tuple [.int 0]], .list (ps.map lstD ++ [.list [.int 2]]), .list ([.list [.int (-1)]] ++ ps.map lstD), .list [.list [.int 1, .int 0]]]
def dsB : List PyData := [.list [.list [.bool true]], .list [.list [.int 0, .int 0]]]
theorem rise_len {pl : Nat} (h : pl ≤ 2) {l : List Int} (r : Rise pl l) : l.length ≤ 3 ∧ ∀ z ∈ l, z.natAbs < 10 ^ 30 := by
  obtain ⟨r1, r2⟩ := r
  refine ⟨?_, fun z hz => ?_⟩
  · match l, r1, r2 with
    | [], _, _ => exact Nat.zero_le _
    | [_], _, _ => exact Nat.le_of_ble_eq_true rfl
    | [_, _], _, _ => exact Nat.le_of_ble_eq_true rfl
    | a :: b :: c :: l, r1, r2 =>
      have h1 := (List.pairwise_cons.mp r1).1 b (by simp)
      have h2 := (List.pairwise_cons.mp (List.pairwise_cons.mp r1).2).1 c (by simp)
      have h3 := r2 a (by simp)
      have h4 := r2 c (by simp)
      omega
  · have := r2 z hz
    omega
theorem lsts_short1 {pl : Nat} (h : pl ≤ 2) (ps : List (List Int)) (r : ∀ l ∈ ps, Rise pl l) : (ps.map lstD).all short1 = true := by
  refine List.all_eq_true.mpr fun d hd => ?_
  obtain ⟨l, hl, rfl⟩ := List.mem_map.mp hd
  have := (rise_len h (r l hl)).1
  show decide ((l.map PyData.int).length ≤ 100) = true
  rw [List.length_map]
  exact decide_eq_true (by omega)
theorem all_good {pl : Nat} (h : pl ≤ 2) (ps : List (List Int)) (r : ∀ l ∈ ps, Rise pl l) : ∀ d ∈ ps.map lstD, good1 d = true := fun d hd => by
  obtain ⟨l, hl, rfl⟩ := List.mem_map.mp hd
  exact good_lst l (rise_len h (r l hl)).1 (rise_len h (r l hl)).2
theorem noDict (ds : List PyData) (h : ∀ d ∈ ds, good1 d = true) : (PyData.list ds).hasDict = false ∧ (PyData.tuple ds).hasDict = false := by
  obtain ⟨_, _, _, _, _, q⟩ := all_showable ds h
  simp [PyData.hasDict, q]
theorem bad_list {ds : List PyData} (g : ∀ d ∈ ds, good1 d = true) (n : ds.length ≤ 200) (s : ds.all short1 = true) (p : pcsD 2 (.list ds) = false ∨ PyData.list ds = .list []) : Bad (.list ds) := by
  have g2 : ∀ d ∈ ds ++ [.str "more"], good1 d = true := fun d hd => by
    rcases List.mem_append.mp hd with hd | hd
    · exact g d hd
    · obtain rfl := List.mem_singleton.mp hd
      decide +kernel
  refine ⟨⟨by omega, okD_list _ g2 (by rw [List.length_append]; simp; omega), (noDict _ g2).1⟩, ?_, p⟩
  show (decide (ds.length ≤ 1000) && ds.all short1) = true
  rw [s, decide_eq_true (by omega)]
  rfl
theorem dsA_bad {pl : Nat} (h : pl ≤ 2) (ps : List (List Int)) (n : ps.length ≤ 100) (r : ∀ l ∈ ps, Rise pl l) : ∀ d ∈ dsA ps, Bad d := by
  have g := all_good h ps r
  have s := lsts_short1 h ps r
  have c1 : good1 (.list [.int 2]) = true ∧ good1 (.list [.int (-1)]) = true := by decide +kernel
  intro d hd
  simp only [dsA, List.mem_cons, List.not_mem_nil, or_false] at hd
  rcases hd with rfl | rfl | rfl | rfl | rfl | rfl | rfl | rfl | rfl | rfl | rfl | rfl
  · exact ⟨⟨by decide +kernel, by decide +kernel, .inr (by decide +kernel)⟩, rfl, .inl rfl⟩
  · exact ⟨⟨by decide +kernel, by decide +kernel, .inr (by decide +kernel)⟩, rfl, .inl rfl⟩
  · exact bad_list (fun _ h => nomatch h) (by decide) rfl (.inr rfl)
  · exact ⟨⟨by decide +kernel, by decide +kernel, .inr (by decide +kernel)⟩, rfl, .inl rfl⟩
  · exact ⟨⟨okD_tuple _ g (by rw [List.length_map]; omega), by show kitB "tuple" "list" = some false; decide +kernel, .inr (noDict _ g).2⟩, rfl, .inl rfl⟩
  · exact ⟨⟨by decide +kernel, by decide +kernel, .inr (by decide +kernel)⟩, rfl, .inl rfl⟩
  · exact ⟨⟨by decide +kernel, by decide +kernel, .inl rfl⟩, rfl, .inl rfl⟩
  · exact bad_list (fun d hd => by obtain rfl := List.mem_singleton.mp hd; decide +kernel) (by decide) rfl (.inl rfl)
  · exact bad_list (fun d hd => by obtain rfl := List.mem_singleton.mp hd; decide +kernel) (by decide) rfl (.inl rfl)
  · refine bad_list (fun d hd => ?_) (by rw [List.length_append, List.length_map]; simp; omega) (by rw [List.all_append, s]; rfl) (.inl ?_)
    · rcases List.mem_append.mp hd with hd | hd
      · exact g d hd
      · obtain rfl := List.mem_singleton.mp hd
        exact c1.1
    · show ((ps.map lstD ++ [PyData.list [.int 2]]).map (pceD 2)).all id = false
      rw [List.map_append, List.all_append]
      have : (([PyData.list [.int 2]]).map (pceD 2)).all id = false := by decide +kernel
      rw [this, Bool.and_false]
  · refine bad_list (fun d hd => ?_) (by rw [List.length_append, List.length_map]; simp; omega) (by rw [List.all_append, s]; rfl) (.inl ?_)
    · rcases List.mem_append.mp hd with hd | hd
      · obtain rfl := List.mem_singleton.mp hd
        exact c1.2
      · exact g d hd
    · show (([PyData.list [.int (-1)]] ++ ps.map lstD).map (pceD 2)).all id = false
      rw [List.map_append, List.all_append]
      have : (([PyData.list [.int (-1)]]).map (pceD 2)).all id = false := by decide +kernel
      rw [this, Bool.false_and]
  · exact bad_list (fun d hd => by obtain rfl := List.mem_singleton.mp hd; decide +kernel) (by decide) rfl (.inl (by decide +kernel))
theorem dsB_bad : ∀ d ∈ dsB, Bad d := by
  intro d hd
  simp only [dsB, List.mem_cons, List.not_mem_nil, or_false] at hd
  rcases hd with rfl | rfl
  · exact bad_list (fun d hd => by obtain rfl := List.mem_singleton.mp hd; decide +kernel) (by decide) rfl (.inl (by decide +kernel))
  · exact bad_list (fun d hd => by obtain rfl := List.mem_singleton.mp hd; decide +kernel) (by decide) rfl (.inl (by decide +kernel))
/-- what is no number of places -/
def Bad2 (d : PyData) : Prop := badOk d ∧ Xp.inR (numD d) 1 2 = false
def dsC : List PyData := [.none, .int 0, .int 3, .int (-1), .bool true, .str "1", .list [.int 1], .dict []]
theorem dsC_bad : ∀ d ∈ dsC, Bad2 d := by
  intro d hd
  simp only [dsC, List.mem_cons, List.not_mem_nil, or_false] at hd
  rcases hd with rfl | rfl | rfl | rfl | rfl | rfl | rfl | rfl
  · exact ⟨⟨by decide +kernel, by decide +kernel, .inr (by decide +kernel)⟩, by decide +kernel⟩
  · exact ⟨⟨by decide +kernel, by decide +kernel, .inr (by decide +kernel)⟩, by decide +kernel⟩
  · exact ⟨⟨by decide +kernel, by decide +kernel, .inr (by decide +kernel)⟩, by decide +kernel⟩
  · exact ⟨⟨by decide +kernel, by decide +kernel, .inr (by decide +kernel)⟩, by decide +kernel⟩
  · exact ⟨⟨by decide +kernel, by decide +kernel, .inr (by decide +kernel)⟩, by decide +kernel⟩
  · exact ⟨⟨by decide +kernel, by decide +kernel, .inr (by decide +kernel)⟩, by decide +kernel⟩
  · exact ⟨⟨by decide, by decide +kernel, by decide +kernel⟩, by decide +kernel⟩
  · exact ⟨⟨by decide +kernel, by decide +kernel, .inl rfl⟩, by decide +kernel⟩
/-- pieces that rise are pieces of so many places and more -/
theorem asc_rise : ∀ l : List Int, l.Pairwise (· < ·) → asc l = true
  | [], _ => rfl
  | [_], _ => rfl
  | x :: y :: r, h => by
    obtain ⟨h1, h2⟩ := List.pairwise_cons.mp h
    rw [asc, decide_eq_true (h1 y List.mem_cons_self), asc_rise (y :: r) h2]
    rfl
theorem intsO_some : ∀ l : List Int, intsO ((l.map PyData.int).map numD) = l
  | [] => rfl
  | x :: l => by
    show x :: intsO ((l.map PyData.int).map numD) = _
    rw [intsO_some l]
theorem rise_pce {pl m : Nat} (h : pl ≤ m) {l : List Int} (r : Rise pl l) : pceD m (lstD l) = true := by
  show (((l.map PyData.int).map numD).all (fun o => Xp.inR o 0 ((m : Int) - 1)) && asc (intsO ((l.map PyData.int).map numD))) = true
  rw [intsO_some, asc_rise l r.1, Bool.and_true]
  refine List.all_eq_true.mpr fun o ho => ?_
  rw [List.map_map] at ho
  obtain ⟨z, hz, rfl⟩ := List.mem_map.mp ho
  have := r.2 z hz
  show (decide (0 ≤ z) && decide (z ≤ (m : Int) - 1)) = true
  rw [decide_eq_true this.1, decide_eq_true (by omega)]
  rfl
theorem rise_pces {pl m : Nat} (h : pl ≤ m) (ps : List (List Int)) (r : ∀ l ∈ ps, Rise pl l) : ((ps.map lstD).map (pceD m)).all id = true := by
  rw [List.map_map]
  refine List.all_eq_true.mpr fun b hb => ?_
  obtain ⟨l, hl, rfl⟩ := List.mem_map.mp hb
  exact rise_pce h (r l hl)
/-- a plan, as pieces -/
theorem plan_pcs {K : PySem.W.Frag} {H : Hp} {pl m : Nat} {a : Addr} {ks : List (Addr × List Int)} (h : pl ≤ m) (p2 : pl ≤ 2) (L : LL H a ks) (n : ks.length ≤ 500) (r : ∀ q ∈ ks, Rise pl q.2) : Pcs K H m (.ref a) true := by
  have r2 : ∀ l ∈ ks.map (·.2), Rise pl l := fun l hl => by
    obtain ⟨q, hq, rfl⟩ := List.mem_map.mp hl
    exact r q hq
  have q := lus_pces (K := K) (pl := m) (old_lus (O := fun _ => True) ks (fun _ _ => trivial) L.2) (lsts_short1 p2 _ r2)
  have e := Pcs.lst L.1 q (by rw [List.length_map]; omega)
  rw [rise_pces h _ r2] at e
  exact e
end Kx
/-! The law's refusals. -/
namespace Kx
open PySem PySem.Spec PyProof.Rows L2 Xa Xb Xc Xd Xs Xp Xm Xr Xl Xk Xq Xt Xu Ya Yb Yc Yd Ye Yf Yg Yh Yi Yj
abbrev sRefused : Stmt := top 32
/-- the plan at pa stands where it stood -/
def SP0 (H0 : Hp) (pa : Addr) : L2.St → Hp → Prop := fun σ H => σ[0]? = some (some (.ref pa)) ∧ Same H0 H
def O0 (H0 : Hp) : Addr → Prop := fun a => ∃ o, H0 a = some o
theorem sp0_stays (H0 : Hp) (pa : Addr) : Stays (SP0 H0 pa) := fun _ _ _ h s => ⟨h.1, h.2.trans s⟩
theorem lit_fin {K : PySem.W.Frag} {H7 : Hp} {t : Str} {r : Addr} {b1 b2 : Bool} {Q : VK} (h7 : H7 r = some (.lst [.bl b1, .bl b2, .str t])) (tok : PyData.strOk t = true) (q : ∀ H8, Same H7 H8 → Q (.bl false) H8) :
    3 ≤ sizeLine ∧ ∀ u, H7 u = none → rNeD K (.ref r) (.ref u) (upd H7 u (.lst [.bl b1, .bl b2, .str t])) Q := by
  refine ⟨by decide, fun u nu => ?_⟩
  refine ⟨triple b1 b2 _, triple b1 b2 _, triple_at (by rw [upd_ne (ne_of_none h7 nu)] <;> exact h7), triple_at upd_same, triple_shaped _ _ tok, triple_shaped _ _ tok, ?_⟩
  rw [triple_eqv]
  exact q _ (upd_same_as nu)
theorem res_one {K : PySem.W.Frag} {H : Hp} : Res K H (.int 1) "1" H := by
  have r := lu_rep (O := fun _ => False) (H := H) (K := K) (.int 1) (.inr (by decide +kernel)) (by decide +kernel)
  have e : (PyData.int 1).shown = "1" := by decide +kernel
  rw [e] at r
  exact .other (isk_int 1 _ (by decide +kernel)) r
theorem lu_nil {O : Addr → Prop} {H : Hp} {v : V} {ls : List Addr} (t : Lu O H v (.list []) ls) : ∃ a, v = .ref a ∧ H a = some (.lst []) := by
  generalize hd : PyData.list [] = d at t
  cases t with
  | lst h t =>
    injection hd with hd
    subst hd
    cases t
    exact ⟨_, rfl, h⟩
  | @old a l o h =>
    injection hd with hd
    cases l with
    | nil => exact ⟨_, rfl, h⟩
    | cons _ _ => cases hd
  | _ => cases hd
section
variable {X : Cx} {H0 : Hp} {pa : Addr} {ks : List (Addr × List Int)} {e : Expr} {ds : List PyData} {p pos : Pos} {S : L2.St → Hp → Prop} {O : Addr → Prop}
/-- what S tells of the plan -/
def Tells0 (S : L2.St → Hp → Prop) (O : Addr → Prop) (pa : Addr) (ks : List (Addr × List Int)) : Prop := (∀ σ H, S σ H → σ[0]? = some (some (.ref pa)) ∧ LL H pa ks) ∧ (∀ q ∈ ks, O q.1) ∧ ks.length ≤ 500
theorem lu_tuple (st : Stays S) (SO : Tells0 S O pa ks) (hm : X.mg "tuple" = none) (he : PE X e (tVar 0)) (hg : Gl X "tuple" := by rfl) (hs : starEach (e :: []) X.env = (false, eval e X.env) :: starEach [] X.env := by rfl) (hpl : (backTo pos (starEach [] X.env)).any (·.1) = false := by rfl) :
    PE X (.Call (.Name "tuple" p) [e] [] pos) (tLu S O (.tuple ((ks.map (·.2)).map lstD))) := by
  refine pe_of (fun σ H Q h => ?_) (pe_callTy call_tuple_of hg hm (by decide +kernel) (pa_cons he pa_nil hs) (by decide) (by decide) hs hpl)
  obtain ⟨s0, q⟩ := h
  obtain ⟨v0, L⟩ := SO.1 σ H s0
  refine ⟨.ref pa, v0, pa, _, rfl, .inl ⟨SqL.of L.1, fun t nt => ?_⟩⟩
  refine q (.ref t) _ [] (upd_same_as nt) (.tup upd_same (lus_same (upd_same_as nt) (old_lus ks SO.2.1 L.2))) List.nodup_nil (fun a z => nomatch z) (frs_ref nt)
theorem ints_lus {O : Addr → Prop} {H : Hp} : ∀ l : List Int, Lus O H (l.map V.int) (l.map .int) []
  | [] => .nil
  | x :: l => .cons (l1 := []) (.int x) (ints_lus l)
/-- a list that was told: what stands in it -/
theorem lu_items {O : Addr → Prop} {H : Hp} {v : V} {ls : List Addr} (t : Lu O H v (.list ds) ls) : ∃ a zs l2, v = .ref a ∧ H a = some (.lst zs) ∧ Lus O H zs ds l2 ∧ (∀ c ∈ l2, c ∈ ls) ∧ (ls.Nodup → l2.Nodup) := by
  generalize hd : PyData.list ds = d at t
  cases t with
  | lst h t =>
    injection hd with hd
    subst hd
    exact ⟨_, _, _, rfl, h, t, fun c hc => List.mem_cons_of_mem _ hc, fun n => (List.nodup_cons.mp n).2⟩
  | old o h =>
    injection hd with hd
    subst hd
    exact ⟨_, _, _, rfl, h, ints_lus _, fun c hc => hc, fun n => n⟩
  | _ => cases hd
theorem lu_cat (st : Stays S) (SO : Tells0 S O pa ks) {e2 : Expr} (he : PE X e (tVar 0)) (h2 : PE X e2 (tLu S O (.list ds))) (z : ds.length ≤ 400 := by exact Nat.le_of_ble_eq_true rfl) : PE X (.BinOp e .Add e2 pos) (tLu S O (.list ((ks.map (·.2)).map lstD ++ ds))) := by
  refine pe_of (fun σ H Q h => ?_) (pe_op op_cat he h2)
  obtain ⟨s0, q⟩ := h
  obtain ⟨v0, L⟩ := SO.1 σ H s0
  refine ⟨.ref pa, v0, s0, fun v H1 ls s1 t1 n1 f1 o1 => ?_⟩
  obtain ⟨a, zs, l2, rfl, ha, tz, sub, nd⟩ := lu_items t1
  have few := SO.2.2
  refine ⟨pa, a, _, zs, rfl, rfl, s1 _ _ L.1, ha, ?_, fun p np => ?_⟩
  · rw [List.length_map, lus_len tz, sizeLine_eq]
    omega
  · have tt := lus_app (old_lus ks SO.2.1 (L.same s1).2) tz
    refine q (.ref p) _ (p :: l2) (s1.trans (upd_same_as np)) (.lst upd_same (lus_same (upd_same_as np) tt)) (new_nodup tt np (nd n1)) (fun c hc => ?_) (frs_ref (s1.free np))
    rcases List.mem_cons.mp hc with hc | hc
    · rw [hc]
      exact s1.free np
    · exact f1 c (sub c hc)
theorem lu_tac (st : Stays S) (SO : Tells0 S O pa ks) {e2 : Expr} (h2 : PE X e2 (tLu S O (.list ds))) (he : PE X e (tVar 0)) (z : ds.length ≤ 400 := by exact Nat.le_of_ble_eq_true rfl) : PE X (.BinOp e2 .Add e pos) (tLu S O (.list (ds ++ (ks.map (·.2)).map lstD))) := by
  refine pe_of (fun σ H Q h => ?_) (pe_op op_cat h2 he)
  obtain ⟨s0, q⟩ := h
  obtain ⟨v0, L⟩ := SO.1 σ H s0
  refine ⟨s0, fun v H1 ls s1 t1 n1 f1 o1 => ⟨.ref pa, v0, ?_⟩⟩
  obtain ⟨a, zs, l2, rfl, ha, tz, sub, nd⟩ := lu_items t1
  have few := SO.2.2
  refine ⟨a, pa, zs, _, rfl, rfl, ha, s1 _ _ L.1, ?_, fun p np => ?_⟩
  · rw [List.length_map, lus_len tz, sizeLine_eq]
    omega
  · have tt := lus_app tz (old_lus ks SO.2.1 (L.same s1).2)
    rw [List.append_nil] at tt
    refine q (.ref p) _ (p :: l2) (s1.trans (upd_same_as np)) (.lst upd_same (lus_same (upd_same_as np) tt)) (new_nodup tt np (nd n1)) (fun c hc => ?_) (frs_ref (s1.free np))
    rcases List.mem_cons.mp hc with hc | hc
    · rw [hc]
      exact s1.free np
    · exact f1 c (sub c hc)
end
/-- a told triple is the one asked for -/
theorem loop_fin {K : PySem.W.Frag} {H6 H7 : Hp} {x : V} {t : Str} {r : Addr} {b1 b2 : Bool} {Q : VK} (rp : Rep K H6 x t) (s7 : Same H6 H7) (h7 : H7 r = some (.lst [.bl b1, .bl b2, .str t])) (q : ∀ H8, Same H6 H8 → Q (.bl false) H8) :
    rRepr K [x] H7 fun v H8 => 3 ≤ sizeLine ∧ ∀ u, H8 u = none → rNeD K (.ref r) (.ref u) (upd H8 u (.lst [.bl b1, .bl b2, v])) Q := by
  have rp := rep_same s7 rp
  have tok := rp.ok
  refine rep_r rp ⟨by decide, fun u nu => ?_⟩
  refine ⟨triple b1 b2 _, triple b1 b2 _, triple_at (by rw [upd_ne (ne_of_none h7 nu)] <;> exact h7), triple_at upd_same, triple_shaped _ _ tok, triple_shaped _ _ tok, ?_⟩
  rw [triple_eqv]
  exact q _ (s7.trans (upd_same_as nu))
section
variable {P : Program} {w : World} {K : PySem.W.Frag} {mg : Str → Option Value} {base : Heap} {f : Addr} {fd : FuncData}
def spRefused : Sp := fun xs H Q _ => ∃ (a : Addr) (ks : List (Addr × List Int)) (pl : Nat), xs = [.ref a, .int pl] ∧ 1 ≤ pl ∧ pl ≤ 2 ∧ LL H a ks ∧ ks ≠ [] ∧ ks.length ≤ 100 ∧ (∀ q ∈ ks, Rise pl q.2) ∧ ∀ H', Same H H' → Q (.bl true) H'
theorem scRefused : FnScope ["plan", "places", "odd", "bad"] ["plan", "places"] (defScope sRefused) := ⟨rfl, rfl, rfl, by decide +kernel, rfl, by decide +kernel, by decide +kernel⟩
theorem can_refused (D : Dfn K mg "_law_refused" sRefused) (B : Bi3 mg) (TB : mg "tuple" = none) (cC : CanG P w K mg base 6 "_law_caught" ["plan", "places"] (spCaught K)) : CanG P w K mg base 7 "_law_refused" ["plan", "places"] spRefused := by
  obtain ⟨f, fd, F, g⟩ := D.at_
  refine FnG.can (okG F scRefused (fun xs H Q E h => ?_) (fun cdv A outer s H vs Q E hr hn h => ?_)) F g fun _ _ _ _ _ _ us hl => match us, hl with | [_, _], _ => rfl
  · obtain ⟨a, ks, pl, rfl, _⟩ := h
    rfl
  · obtain ⟨pa, ks, pl, rfl, p1, p2, PL, ne, few, ri, q⟩ := h
    have hO : ∀ q ∈ ks, O0 H q.1 := fun q hq => ⟨_, PL.2 q hq⟩
    obtain ⟨S, hSd⟩ : ∃ S, S = SP0 H pa := ⟨_, rfl⟩
    obtain ⟨O, hOd⟩ : ∃ O, O = O0 H := ⟨_, rfl⟩
    have st : Stays S := by rw [hSd]; exact sp0_stays H pa
    have SO : Tells0 S O pa ks := by
      rw [hSd, hOd]
      exact ⟨fun σ H' h => ⟨h.1, PL.same h.2⟩, hO, by omega⟩
    refine ⟨_, PSs.nox (pss_cons (ps_set (i := 2) scRefused.nd rfl (.inl rfl) (lu_top (S := S) (O := O) (lus_cons st lu_non (lus_cons st lu_int (lus_cons st (lu_lst lus_nil (Nat.le_of_ble_eq_true rfl)) (lus_cons st (lu_tup lus_nil (Nat.le_of_ble_eq_true rfl)) (lus_cons st (lu_tuple st SO TB (pv 0)) (lus_cons st lu_str (lus_cons st lu_dic (lus_cons st (lu_lst (lus_cons st lu_non lus_nil) (Nat.le_of_ble_eq_true rfl)) (lus_cons st (lu_lst (lus_cons st (lu_tup (lus_cons st lu_int lus_nil) (Nat.le_of_ble_eq_true rfl)) lus_nil) (Nat.le_of_ble_eq_true rfl)) (lus_cons st (lu_cat st SO (pv 0) (lu_lst (lus_cons st (lu_lst (lus_cons st lu_int lus_nil) (Nat.le_of_ble_eq_true rfl)) lus_nil) (Nat.le_of_ble_eq_true rfl))) (lus_cons st (lu_tac st SO (lu_lst (lus_cons st (lu_lst (lus_cons st lu_neg lus_nil) (Nat.le_of_ble_eq_true rfl)) lus_nil) (Nat.le_of_ble_eq_true rfl)) (pv 0)) (lus_cons st (lu_lst (lus_cons st (lu_lst (lus_cons st lu_int (lus_cons st lu_int lus_nil)) (Nat.le_of_ble_eq_true rfl)) lus_nil) (Nat.le_of_ble_eq_true rfl)) lus_nil)))))))))))) (Nat.le_of_ble_eq_true rfl))) (pss_cons (ps_for PassesOwn.never rfl (pi_list (pe_op op_cat (pv 2) (lu_top (S := S) (O := O) (lus_cons st (lu_lst (lus_cons st (lu_lst (lus_cons st lu_bl lus_nil) (Nat.le_of_ble_eq_true rfl)) lus_nil) (Nat.le_of_ble_eq_true rfl)) (lus_cons st (lu_lst (lus_cons st (lu_lst (lus_cons st lu_int (lus_cons st lu_int lus_nil)) (Nat.le_of_ble_eq_true rfl)) lus_nil) (Nat.le_of_ble_eq_true rfl)) lus_nil)) (Nat.le_of_ble_eq_true rfl)))) (pg_name (i := 3) scRefused.nd rfl (.inl rfl)) (pss_one (ps_if (pt_cmpR (op_neD hr.units) (pe_canG cC hr hn (pa_cons (pv 3) (pa1 pe_non))) (pe_lst (pa_cons pe_bl (pa_cons pe_bl (pa1 (pe_bi (call_repr hn hr.units) B.repr (pa1 (pv 3))))))) (nomark _)) (pss_one (ps_ret pe_bl)) pss_nil))) (pss_cons (ps_for PassesOwn.never rfl (pi_list (lu_top (S := S) (O := O) (lus_cons st lu_non (lus_cons st lu_int (lus_cons st lu_int (lus_cons st lu_neg (lus_cons st lu_bl (lus_cons st lu_str (lus_cons st (lu_lst (lus_cons st lu_int lus_nil) (Nat.le_of_ble_eq_true rfl)) (lus_cons st lu_dic lus_nil)))))))) (Nat.le_of_ble_eq_true rfl))) (pg_name (i := 3) scRefused.nd rfl (.inl rfl)) (pss_one (ps_if (pt_cmpR (op_neD hr.units) (pe_canG cC hr hn (pa_cons (pv 0) (pa1 (pv 3)))) (pe_lst (pa_cons pe_bl (pa_cons pe_bl (pa1 (pe_bi (call_repr hn hr.units) B.repr (pa1 (pv 3))))))) (nomark _)) (pss_one (ps_ret pe_bl)) pss_nil))) (pss_cons (ps_if (PW.pt (pw_or (pt_cmpR (op_neD hr.units) (pe_canG cC hr hn (pa_cons (lu_cat (S := S) (O := O) st SO (pv 0) (lu_lst (lus_cons st (lu_lst (lus_cons st lu_int lus_nil) (Nat.le_of_ble_eq_true rfl)) lus_nil) (Nat.le_of_ble_eq_true rfl))) (pa1 pe_int))) (pe_lst (pa_cons pe_bl (pa_cons pe_bl (pa1 pe_str)))) (nomark _)) (pw_or1 (pt_cmpR (op_neD hr.units) (pe_canG cC hr hn (pa_cons (lu_lst (S := S) (O := O) (lus_cons st (lu_lst (lus_cons st lu_int (lus_cons st lu_int lus_nil)) (Nat.le_of_ble_eq_true rfl)) lus_nil) (Nat.le_of_ble_eq_true rfl)) (pa1 pe_int))) (pe_lst (pa_cons pe_bl (pa_cons pe_bl (pa1 pe_str)))) (nomark _))))) (pss_one (ps_ret pe_bl)) pss_nil) (pss_one (ps_ret (pe_and (pe_cmpR op_isN (pe_canG cC hr hn (pa_cons (pv 0) (pa1 (pv 1)))) pe_non (nomark _)) (pe_one (pe_cmpR op_isN (pe_canG cC hr hn (pa_cons (pv 0) (pa1 pe_int))) pe_non (nomark _)))))))))), ?_⟩
    subst hSd hOd
    have r2 : ∀ l ∈ ks.map (·.2), Rise pl l := fun l hl => by
      obtain ⟨q, hq, rfl⟩ := List.mem_map.mp hl
      exact ri q hq
    have n2 : (ks.map (·.2)).length ≤ 100 := by rw [List.length_map]; exact few
    refine ⟨⟨rfl, Same.refl _⟩, fun L1 vs1 H1 ls1 s1 h1 t1 n1 f1 o1 => ?_⟩
    replace t1 : Lus (O0 H) H1 vs1 (dsA (ks.map (·.2))) ls1 := t1
    refine ⟨_, rfl, ⟨rfl, s1⟩, fun L2 vs2 H2 ls2 s2 h2 t2 m2 f2 o2 => ?_⟩
    replace t2 : Lus (O0 H) H2 vs2 dsB ls2 := t2
    refine ⟨L1, L2, vs1, vs2, rfl, rfl, s2 _ _ h1, h2, ?_, fun L nL => ?_⟩
    · rw [lus_len t1, lus_len t2, sizeLine_eq]
      exact Nat.le_of_ble_eq_true rfl
    have I0 : Inv (O0 H) H L (vs1 ++ vs2) (dsA (ks.map (·.2)) ++ dsB) 0 (upd H2 L (.lst (vs1 ++ vs2))) := by
      refine ⟨s1.trans (s2.trans (upd_same_as nL)), upd_same, s1.free (s2.free nL), fun v hv => ?_, fun a z => z, ls1 ++ ls2, lus_same (upd_same_as nL) (lus_app (lus_same s2 t1) t2), ?_, ?_, fun a z => ?_⟩
      · rcases List.mem_append.mp hv with hv | hv
        · exact o1 v hv
        · exact fun a e => s1.free (o2 v hv a e)
      · refine List.nodup_append.mpr ⟨(List.nodup_cons.mp n1).2, (List.nodup_cons.mp m2).2, fun a z b z2 e => ?_⟩
        obtain ⟨xs, y⟩ := lus_at t1 a z
        rw [e, f2 b (List.mem_cons_of_mem _ z2)] at y
        cases y
      · intro z
        obtain ⟨xs, y⟩ := lus_at (lus_app (lus_same s2 t1) t2) L z
        rw [nL] at y
        cases y
      · rcases List.mem_append.mp z with z | z
        · exact f1 a (List.mem_cons_of_mem _ z)
        · exact s1.free (f2 a (List.mem_cons_of_mem _ z))
    generalize upd H2 L (.lst (vs1 ++ vs2)) = H5 at I0 ⊢
    have bads : ∀ d ∈ dsA (ks.map (·.2)) ++ dsB, Bad d := fun d hd => (List.mem_append.mp hd).elim (dsA_bad p2 _ n2 r2 d) (dsB_bad d)
    refine ⟨L, rfl, ⟨_, SqL.of I0.at_⟩, for_list (K := K) (a := L) (xs := vs1 ++ vs2) (fun i σ H' => ∃ tv : Option V, σ = [some (.ref pa), some (.int pl), some (.ref L1), tv] ∧ Inv (O0 H) H L (vs1 ++ vs2) (dsA (ks.map (·.2)) ++ dsB) i H') ⟨_, rfl, I0⟩ (fun i σ H' _ ⟨_, _, I⟩ => SqL.of I.at_) ?_ ?_⟩
    · rintro i x σ H' hx ⟨tv, rfl, I⟩
      obtain ⟨d, l1, hd, lt, st⟩ := I.step (K := K) hx
      obtain ⟨bo, sh, pc⟩ := bads d (List.mem_of_getElem? hd)
      obtain ⟨t, H6, res, I6⟩ := st bo
      have an : ∀ {Q : VK}, (∀ r H7, Same H6 H7 → H7 r = some (.lst [.bl true, .bl false, .str t]) → Q (.ref r) H7) → Ans K H' x true false Q := fun q => ⟨t, H6, res, fun r H7 s7 _ h7 => q r H7 s7 h7⟩
      refine ⟨_, rfl, x, .non, none, _, rfl, lu_pcs lt sh, .no whl_non, fun e => an fun r H7 s7 h7 => ?_, fun e => ?_⟩
      · exact ⟨_, rfl, loop_fin res.rep s7 h7 fun H8 s8 => ⟨_, rfl, iteF ⟨some x, rfl, I6.up s8⟩⟩⟩
      · rcases pc with pc | rfl
        · rw [pc] at e
          cases e
        · obtain ⟨a, rfl, ha⟩ := lu_nil lt
          exact ⟨a, [], rfl, ⟨ha, fun _ h => nomatch h⟩, Nat.zero_le _, fun _ => an fun r H7 s7 h7 => ⟨_, rfl, loop_fin res.rep s7 h7 fun H8 s8 => ⟨_, rfl, iteF ⟨some (.ref a), rfl, I6.up s8⟩⟩⟩, fun z => absurd rfl z⟩
    · rintro σ H' ⟨tv, rfl, I⟩
      have sA := I.same
      clear I I0 bads t1 t2
      refine ⟨⟨rfl, sA⟩, fun L3 vs3 H6 ls3 s3 h3 t3 n3 f3 o3 => ?_⟩
      replace t3 : Lus (O0 H) H6 vs3 dsC ls3 := t3
      have I0 : Inv (O0 H) H L3 vs3 dsC 0 H6 := ⟨sA.trans s3, h3, sA.free (f3 L3 List.mem_cons_self), fun v hv a e => sA.free (o3 v hv a e), fun a z => z, ls3, t3, (List.nodup_cons.mp n3).2, (List.nodup_cons.mp n3).1, fun a z => sA.free (f3 a (List.mem_cons_of_mem _ z))⟩
      have pcs : ∀ {H7 : Hp} {m : Nat}, Same H H7 → pl ≤ m → Pcs K H7 m (.ref pa) true := fun s h => plan_pcs h p2 (PL.same s) (by omega) ri
      refine ⟨L3, rfl, ⟨_, SqL.of I0.at_⟩, for_list (K := K) (a := L3) (xs := vs3) (fun i σ H' => ∃ tv : Option V, σ = [some (.ref pa), some (.int pl), some (.ref L1), tv] ∧ Inv (O0 H) H L3 vs3 dsC i H') ⟨_, rfl, I0⟩ (fun i σ H' _ ⟨_, _, I⟩ => SqL.of I.at_) ?_ ?_⟩
      · rintro i x σ H7 hx ⟨tv, rfl, I⟩
        obtain ⟨d, l1, hd, lt, st⟩ := I.step (K := K) hx
        obtain ⟨bo, od⟩ := dsC_bad d (List.mem_of_getElem? hd)
        obtain ⟨t, H8, res, I8⟩ := st bo
        refine ⟨_, rfl, _, rfl, .ref pa, x, numD d, _, rfl, pcs I.same p2, lu_num lt, (fun e => nomatch e), fun _ => ⟨pa, ks, rfl, PL.same I.same, by omega, fun z => absurd z ne, fun _ => ⟨fun _ => ⟨t, H8, res, fun r H9 s9 _ h9 => ?_⟩, fun e => ?_⟩⟩⟩
        · exact ⟨_, rfl, loop_fin res.rep s9 h9 fun H8 s8 => ⟨_, rfl, iteF ⟨some x, rfl, I8.up s8⟩⟩⟩
        · rw [od] at e
          cases e
      · rintro σ H7 ⟨tv, rfl, I⟩
        have sB := I.same
        clear I I0 t3
        refine ⟨⟨rfl, sB⟩, fun v8 H8 ls8 s8 t8 n8 f8 o8 => ?_⟩
        obtain ⟨a8, ks8, rfl, L8, e8⟩ := lu_ll (ps := ks.map (·.2) ++ [[1]]) (by simp) (by rw [llD, List.map_append]; exact t8)
        have len8 : ks8.length ≤ 200 := by
          have := congrArg List.length e8
          rw [List.length_map, List.length_append, List.length_map, List.length_singleton] at this
          omega
        have ne8 : ks8 ≠ [] := fun z => by
          have := congrArg List.length e8
          rw [z, List.length_map, List.length_append, List.length_singleton] at this
          simp at this
        have ss := lsts_short1 p2 _ r2
        have sh8 : short2 (.list ((ks.map (·.2)).map lstD ++ [.list [.int 1]])) = true := by
          show (decide (_ ≤ 1000) && List.all _ short1) = true
          rw [List.all_append, ss, decide_eq_true (by rw [List.length_append, List.length_map, List.length_singleton]; omega)]
          rfl
        have k8 : pcsD 2 (.list ((ks.map (·.2)).map lstD ++ [.list [.int 1]])) = true := by
          show (List.map (pceD 2) _).all id = true
          rw [List.map_append, List.all_append, rise_pces p2 _ r2]
          decide +kernel
        have k9 : pcsD 1 (.list ((ks.map (·.2)).map lstD ++ [.list [.int 1]])) = false := by
          show (List.map (pceD 1) _).all id = false
          rw [List.map_append, List.all_append]
          have : (List.map (pceD 1) [PyData.list [.int 1]]).all id = false := by decide +kernel
          rw [this, Bool.and_false]
        have P8 := lu_pcs (K := K) (pl := 2) t8 sh8
        rw [k8] at P8
        have P9 := lu_pcs (K := K) (pl := 1) t8 sh8
        rw [k9] at P9
        refine ⟨.ref a8, .int 1, some 1, _, rfl, P8, .is 1, (fun e => nomatch e), fun _ => ⟨a8, ks8, rfl, L8, by omega, fun z => absurd z ne8, fun _ => ⟨(fun e => nomatch e), fun _ => ⟨1, _, rfl, by decide, by decide, P9, fun _ => ⟨_, H8, res_one, fun r H9 s9 _ h9 => ?_⟩, (fun e => nomatch e)⟩⟩⟩⟩
        refine lit_fin h9 (by decide +kernel) fun H10 s10 => ⟨_, rfl, iteF ?_⟩
        have sC := sB.trans (s8.trans (s9.trans s10))
        refine ⟨⟨rfl, sC⟩, fun v11 H11 ls11 s11 t11 n11 f11 o11 => ?_⟩
        obtain ⟨a11, ks11, rfl, L11, e11⟩ := lu_ll (ps := [[0, 1]]) (by simp) t11
        have ne11 : ks11 ≠ [] := fun z => by
          rw [z] at e11
          cases e11
        have len11 : ks11.length ≤ 1000 := by
          have := congrArg List.length e11
          rw [List.length_map] at this
          rw [this]
          decide
        have P11 := lu_pcs (K := K) (pl := 2) t11 (by decide +kernel)
        have P12 := lu_pcs (K := K) (pl := 1) t11 (by decide +kernel)
        have k11 : pcsD 2 (.list [.list [.int 0, .int 1]]) = true := by decide +kernel
        have k12 : pcsD 1 (.list [.list [.int 0, .int 1]]) = false := by decide +kernel
        rw [k11] at P11
        rw [k12] at P12
        refine ⟨.ref a11, .int 1, some 1, _, rfl, P11, .is 1, (fun e => nomatch e), fun _ => ⟨a11, ks11, rfl, L11, len11, fun z => absurd z ne11, fun _ => ⟨(fun e => nomatch e), fun _ => ⟨1, _, rfl, by decide, by decide, P12, fun _ => ⟨_, H11, res_one, fun r2 H12 s12 _ h12 => ?_⟩, (fun e => nomatch e)⟩⟩⟩⟩
        refine lit_fin h12 (by decide +kernel) fun H13 s13 => ⟨_, rfl, iteF ?_⟩
        have sD := sC.trans (s11.trans (s12.trans s13))
        have inr : Xp.inR (some (pl : Int)) 1 2 = true := by
          show (decide (1 ≤ (pl : Int)) && decide ((pl : Int) ≤ 2)) = true
          rw [decide_eq_true (by omega), decide_eq_true (by omega)]
          rfl
        refine ⟨_, rfl, _, rfl, .ref pa, .int pl, some pl, _, rfl, pcs sD p2, .is pl, (fun e => nomatch e), fun _ => ⟨pa, ks, rfl, PL.same sD, by omega, fun z => absurd z ne, fun _ => ⟨fun e => ?_, fun _ => ⟨pl, _, rfl, p1, p2, pcs sD (Nat.le_refl _), (fun e => nomatch e), fun _ H14 s14 => ?_⟩⟩⟩⟩
        · rw [inr] at e
          cases e
        · refine ⟨rfl, ?_⟩
          refine ⟨_, rfl, iteT ⟨_, rfl, .ref pa, .int 2, some 2, _, rfl, pcs (sD.trans s14) p2, .is 2, (fun e => nomatch e), fun _ => ⟨pa, ks, rfl, PL.same (sD.trans s14), by omega, fun z => absurd z ne, fun _ => ⟨(fun e => nomatch e), fun _ => ⟨2, _, rfl, by decide, by decide, pcs (sD.trans s14) p2, (fun e => nomatch e), fun _ H15 s15 => ?_⟩⟩⟩⟩⟩
          exact ⟨rfl, q H15 (sD.trans (s14.trans s15))⟩
end
end Kx
/-! Own ground: loops whose bodies want a token; a text times an int; texts that tell, repeated. -/
namespace Yk
open PySem PySem.Spec PyProof.Rows L2 Ya Yi Yj Yh
theorem thnT {α : Type} {t : Sem α} {Q Q' : α → Shared → Prop} {M : Model} {A : Around} {E : Value → Shared → Prop} {s : Shared} {n : Nat} (hn : n ≤ s.toks) (h : wpAny M A t Q E s) (hQ : ∀ a s', n ≤ s'.toks → Q a s' → Q' a s') : wpAny M A t Q' E s :=
  wpAny_mono (PySem.wpAny_toks_of hn h) (fun a s' z => hQ a s' z.1 z.2) fun _ _ z => z.2
theorem psst_nox {X : Cx} {st : List Stmt} {t : TS} (h : PSsT X.nox st t) : PSsT X st t := fun pins s σ H D h0 I hw =>
  wpAny_mono (h pins s σ H D h0 (I.wish _) hw) (fun _ _ q => q.unwish) fun _ _ z => False.elim z
/-- a text, so many times -/
def repS (z : Str) (k : Nat) : Str := ⟨(List.replicate k z.cps).foldl (· ++ ·) #[]⟩
theorem foldl_arr : ∀ (n : Nat) (a b : Array Nat), ((List.replicate n a).foldl (· ++ ·) b).toList = b.toList ++ (List.replicate n a.toList).flatten
  | 0, a, b => by simp
  | n + 1, a, b => by
    rw [List.replicate_succ, List.foldl_cons, foldl_arr n, List.replicate_succ, List.flatten_cons]
    simp
theorem sg_repS (z : Str) (k : Nat) : sg (repS z k) = (List.replicate k (sg z)).flatten := by
  show ((List.replicate k z.cps).foldl (· ++ ·) #[]).toList = _
  rw [foldl_arr]
  rfl
theorem len_repS (z : Str) : ∀ k : Nat, (repS z k).length = z.length * k := fun k => by
  rw [← len_sg, sg_repS]
  induction k with
  | zero => rfl
  | succ k ih =>
    rw [List.replicate_succ, List.flatten_cons, List.length_append, ih, len_sg, Nat.mul_succ, Nat.add_comm]
section
variable {X : Cx}
/-- for, tokens told in the body, too -/
theorem pst_forT {tg iter : Expr} {body : List Stmt} {wi : TI} {g : TG} {tb : TS} {pos : Pos} (hp : PassesOwn (model X.prog X.w) X.A X.env X.xe) (hc : X.calm = true) (hi : PIT X tg iter wi) (hg : PG X tg g) (hb : PSsT X body tb)
    (hs : ∀ x, foldedSetIterable iter X.env x = pure x := by intro _; rfl) : PST X (.For tg iter body [] pos) (tFor wi g tb) := by
  intro pins s σ H D h0 I h
  refine wpAny_For (thnT h0 (hi pins s σ H _ h0 I h) fun v s1 k1 h1 => thnT k1 h1 fun itv s2 k2 h2 => ?_) hs
  obtain ⟨it, fp, tn, J, H2, e, I2, T, st2, f2, W, ⟨m0, w0⟩, turn⟩ := h2
  subst e
  have stat : ∀ {H' : Hp}, (∀ b ∈ fp, H' b = none) → ∀ b ∈ fp, FpOk X pins H' b := fun hn b hb => ⟨hn b hb, (f2 b hb).2⟩
  refine codeAny_forLoop_any (fun n s' => 1 ≤ s'.toks ∧ ∃ i σ' H', Inv X pins σ' H' s' ∧ tn i s'.heap ∧ (∀ b ∈ fp, H' b = none) ∧ W i n σ' H') ?_ m0 ⟨k2, 0, σ, H2, I2, st2, fun b hb => (f2 b hb).1, w0⟩
  rintro n s3 ⟨k3, i, σ3, H3, I3, st3, fr3, w3⟩
  rcases turn i n σ3 H3 w3 with ⟨stop, qn⟩ | ⟨go, N, hN, step⟩
  · refine wpAny_passesOwn hp (thn (T.done X rfl rfl rfl hc i pins s3 σ3 H3 X.xe I3 (stat fr3) st3 stop) fun r s4 ⟨hr, I4⟩ => ?_)
    subst hr
    exact wpAny_execs_nil ⟨σ3, H3, I4, qn⟩
  · refine wpAny_passesOwn hp (thnT k3 (T.item X rfl rfl rfl hc i pins s3 σ3 H3 X.xe I3 (stat fr3) st3 go) fun r s4 k4 ⟨u, hr, h4⟩ => ?_)
    subst hr
    refine wpAny_passesOwn hp (thnT k4 h4 fun _ s5 k5 ⟨x, H5, I5, r5, y5, st5, fr5⟩ => ?_)
    have I5' := I5.pinned (stat fr5) (T.obj _ _ st5)
    refine wpAny_passesOwn hp (thnT k5 (hg.run _ s5 σ3 H5 x u _ I5' r5 (step x H5 y5)) fun _ s6 k6 ⟨σ6, H6, I6, q6⟩ => ?_)
    refine wpAny_passesOwn hp (thnT k6 (hb _ s6 σ6 H6 _ k6 I6 q6) fun f s7 k7 q7 => ?_)
    have again : ∀ {σ7 : L2.St} {H7 : Hp}, Inv X (pins ++ pinsAt fp s5.heap) σ7 H7 s7 → N σ7 H7 → ∃ m, m < n ∧ 1 ≤ s7.toks ∧ ∃ i σ' H', Inv X pins σ' H' s7 ∧ tn i s7.heap ∧ (∀ b ∈ fp, H' b = none) ∧ W i m σ' H' := fun {σ7 H7} I7 n7 => by
      obtain ⟨m', hm, w7⟩ := hN σ7 H7 n7
      refine ⟨m', hm, k7, i + 1, σ7, H7, I7.unpinned, T.keep _ _ _ st5 fun b hb o e => (I7.pin (b, o) (List.mem_append_right _ (List.mem_append_right _ (mem_pinsAt hb e)))).1, fun b hb => ?_, w7⟩
      obtain ⟨o, e, d⟩ := T.obj _ _ st5 b hb
      exact (I7.pin (b, o) (List.mem_append_right _ (List.mem_append_right _ (mem_pinsAt hb e)))).2.1
    cases f with
    | next => obtain ⟨σ7, H7, I7, n7⟩ := q7; exact again I7 n7
    | cont => obtain ⟨σ7, H7, I7, n7⟩ := q7; exact again I7 n7
    | brk => obtain ⟨σ7, H7, I7, q7⟩ := q7; exact ⟨σ7, H7, I7.unpinned, q7⟩
    | ret v => obtain ⟨x7, σ7, H7, I7, r7, q7⟩ := q7; exact ⟨x7, σ7, H7, I7.unpinned, r7, q7⟩
theorem PIT.of {tg iter : Expr} {wi : TI} (h : PI X tg iter wi) : PIT X tg iter wi := fun pins s σ H R _ I q => h.run pins s σ H R I q
def rRepS : R2 := fun x y H Q => ∃ (z : Str) (k : Nat), x = .str z ∧ y = .int k ∧ 2 ≤ k ∧ k ≤ 100000 ∧ 1 ≤ z.length ∧ z.length ≤ 100 ∧ Q (.str (repS z k)) H
theorem op_repS : OpR X (binaryOp .Mult) rRepS := by
  intro pins s σ H x y v u Q I rx ry h
  obtain ⟨z, k, rfl, rfl, k1, k2, z1, z2, q⟩ := h
  obtain ⟨t, rfl⟩ := rx
  obtain ⟨t2, rfl⟩ := ry
  have zk : z.length * k ≤ 100 * 100000 := Nat.mul_le_mul z2 k2
  refine PySem.P.mul_str ?_ (fun _ _ => ?_) (fun _ _ => ?_) ?_
  · rw [decide_eq_false (by omega), decide_eq_false (by omega)]
    rfl
  · have h1 : (100 : Int) ≤ (2 ^ 63 - 1) / (k : Int) := by
      refine (Int.le_ediv_iff_mul_le (by omega)).mpr ?_
      omega
    omega
  · show decide (_ > sizeLine) = false
    rw [sizeLine_eq]
    exact decide_eq_false (by rw [Int.toNat_natCast]; omega)
  · rw [if_neg (by omega), if_neg ?_]
    · rw [Int.toNat_natCast]
      exact ⟨(by show (repS z k).length ≤ _; rw [len_repS, sizeLine_eq]; omega), .str (repS z k), H, I.tok _, ⟨_, rfl⟩, q⟩
    · intro c
      rcases Bool.or_eq_true_iff.mp c with c | c
      · have := eq_of_beq c
        omega
      · have := eq_of_beq c
        omega
end
theorem told_blanks {pl : Nat} {b : List Nat} (hb : ∀ c ∈ b, isB c = true) (k : Nat) : Told pl ((List.replicate k b).flatten) [] := by
  have := told_blank (b := (List.replicate k b).flatten) (told_nil pl) fun c hc => by
    obtain ⟨l, hl, hc⟩ := List.mem_flatten.mp hc
    rw [(List.mem_replicate.mp hl).2] at hc
    exact hb c hc
  exact this
theorem told_rep {pl : Nat} {u b : List Nat} {l : List Int} (hp : 1 ≤ pl) (tt : Tells pl u l) (r : Rise pl l) (hb : ∀ c ∈ b, isB c = true) : ∀ k : Nat, Told pl ((List.replicate k (u ++ b)).flatten) (List.replicate k l)
  | 0 => told_nil pl
  | k + 1 => by
    rw [List.replicate_succ', List.flatten_append, List.replicate_succ']
    have := told_blank (told_tells hp (told_rep hp tt r hb k) tt r) hb
    rw [List.append_assoc] at this
    simpa using this
end Yk
/-! The law. -/
namespace Kx
open PySem PySem.Spec PyProof.Rows L2 Xa Xb Xc Xd Xs Xp Xm Xr Xl Xk Xq Xt Xu Ya Yb Yc Yd Ye Yf Yg Yh Yi Yj Yk
theorem But.all {g : Addr} {H H' : Hp} (b : But g H H') (n : H g = none) : Same H H' := fun c o e => b c o e (ne_of_none e n)
theorem ll_but {g a : Addr} {H H' : Hp} {ks : List (Addr × List Int)} (L : LL H a ks) (ag : a ≠ g) (kg : ∀ q ∈ ks, q.1 ≠ g) (b : But g H H') : LL H' a ks := ⟨b _ _ L.1 ag, fun q hq => b _ _ (L.2 q hq) (kg q hq)⟩
theorem but_trans {g : Addr} {H H1 H2 : Hp} (a : But g H H1) (b : But g H1 H2) : But g H H2 := fun c o e hc => b c o (a c o e hc) hc
theorem inr12 {pl : Nat} (p1 : 1 ≤ pl) (p2 : pl ≤ 2) : Xp.inR (some (pl : Int)) 1 2 = true := by
  show (decide (1 ≤ (pl : Int)) && decide ((pl : Int) ≤ 2)) = true
  rw [decide_eq_true (by omega), decide_eq_true (by omega)]
  rfl
section
variable {K : PySem.W.Frag} {H : Hp} {Q : VK} {E : XK} {CN CT CP : Addr}
theorem read_at {z : Str} {pl : Nat} {ps : List (List Int)} (t : Told pl (sg z) ps) (ne : ps ≠ []) (zl : z.length ≤ 10000) (p1 : 1 ≤ pl) (p2 : pl ≤ 2) (q : ∀ b kb H', Same H H' → H b = none → LL H' b kb → New H b kb → kb.map (·.2) = ps → Q (.ref b) H') : spRead K CN CT [.str z, .int pl] H Q E := by
  have du := due_told p1 t ne
  refine ⟨.str z, .int pl, some pl, rfl, .is pl, fun e => ?_, fun _ => ⟨pl, rfl, p1, p2, true, isk_str z _ (by decide +kernel), (fun e => nomatch e), fun _ => ⟨z, rfl, zl, fun e => ?_, fun ps' e b kb H' s nb L N eb => ?_⟩⟩⟩
  · rw [inr12 p1 p2] at e
    cases e
  · rw [du] at e
    cases e
  · rw [du] at e
    exact q b kb H' s nb L N (eb.trans (Option.some.inj e).symm)
theorem text_at {a : Addr} {ks : List (Addr × List Int)} {pl m : Nat} (L : LL H a ks) (ne : ks ≠ []) (few : ks.length ≤ 100) (ri : ∀ q ∈ ks, Rise pl q.2) (p1 : 1 ≤ pl) (pm : pl ≤ m) (p2 : m ≤ 2) (q : ∀ H', Same H H' → Q (.str (textS m (ks.map (·.2)))) H') : spTextOf K CP CN [.ref a, .int m] H Q E := by
  refine ⟨.ref a, .int m, some m, true, rfl, plan_pcs (by omega) (by omega) L (by omega) ri, .is m, (fun e => nomatch e), fun _ => ⟨a, ks, rfl, L, by omega, fun e => absurd e ne, fun _ => ⟨fun e => ?_, fun _ => ⟨m, true, rfl, by omega, p2, plan_pcs pm (by omega) L (by omega) ri, (fun e => nomatch e), fun _ => q⟩⟩⟩⟩
  rw [inr12 (by omega) p2] at e
  cases e
theorem ll_rep {a : Addr} {ks : List (Addr × List Int)} {pl : Nat} (L : LL H a ks) (few : ks.length ≤ 100) (ri : ∀ q ∈ ks, Rise pl q.2) (p2 : pl ≤ 2) : Rep K H (.ref a) (llD (ks.map (·.2))).shown := by
  have r2 : ∀ l ∈ ks.map (·.2), Rise pl l := fun l hl => by
    obtain ⟨q, hq, rfl⟩ := List.mem_map.mp hl
    exact ri q hq
  have g := all_good p2 _ r2
  exact lu_rep (O := fun _ => True) (.lst L.1 (old_lus ks (fun _ _ => trivial) L.2)) (.inr (noDict _ g).1) (okD_list _ g (by rw [List.length_map, List.length_map]; omega))
theorem dp_il {a : Addr} {l : List Int} (h : H a = some (.lst (l.map V.int))) : Dp K H (.ref a) (lstD l) := .lst (SqL.of h) (dp_ints l)
theorem il_shaped (l : List Int) : SeqAt.shaped (lstD l) = true := by
  have h1 := ints_lay l
  have h2 := ints_depth l
  have h3 : (lstD l).depth ≤ 64 := by
    simp only [lstD, PyData.depth]
    omega
  have h4 : (lstD l).canLay0 = true := by simp [lstD, PyData.canLay0, h1]
  simp [SeqAt.shaped, h4, h3]
theorem il_eqv (l : List Int) : PyData.eqv (lstD l) (lstD l) = true := SeqAt.eqv_refl _ (by simp [lstD, PyData.canLay0, ints_lay])
theorem neD_ll {a b : Addr} {ks kb : List (Addr × List Int)} (L : LL H a ks) (L2 : LL H b kb) (e : ks.map (·.2) = kb.map (·.2)) (q : Q (.bl false) H) : rNeD K (.ref a) (.ref b) H Q := by
  refine ⟨_, _, dp_ll L, dp_ll L2, ll_shaped _, ll_shaped _, ?_⟩
  rw [e, ll_eqv]
  exact q
theorem eqD_ll {a b : Addr} {ks kb : List (Addr × List Int)} (L : LL H a ks) (L2 : LL H b kb) (e : ks.map (·.2) = kb.map (·.2)) (q : Q (.bl true) H) : rEqD K (.ref a) (.ref b) H Q := by
  refine ⟨_, _, dp_ll L, dp_ll L2, ll_shaped _, ll_shaped _, ?_⟩
  rw [e, ll_eqv]
  exact q
end
/-! ### the written texts at the end -/
theorem tells1 : Tells 1 [111] [0] ∧ Tells 1 [46] [] ∧ Tells 2 [111, 46] [0] ∧ Tells 2 [111, 111] [0, 1] := by
  refine ⟨⟨rfl, by decide +kernel, fun k hk => ?_⟩, ⟨rfl, by decide +kernel, fun k hk => ?_⟩, ⟨rfl, by decide +kernel, fun k hk => ?_⟩, ⟨rfl, by decide +kernel, fun k hk => ?_⟩⟩
  · match k, hk with
    | 0, _ => decide +kernel
  · match k, hk with
    | 0, _ => decide +kernel
  · match k, hk with
    | 0, _ => decide +kernel
    | 1, _ => decide +kernel
  · match k, hk with
    | 0, _ => decide +kernel
    | 1, _ => decide +kernel
theorem rise0 : Rise 1 [0] ∧ Rise 1 [] ∧ Rise 2 [0] ∧ Rise 2 [0, 1] := by
  refine ⟨⟨by decide, by decide⟩, ⟨by decide, by decide⟩, ⟨by decide, by decide⟩, ⟨by decide, by decide⟩⟩
theorem toldA : Told 1 (sg (repS " " 4996 ++ "oo.\n")) [[0], [0], []] := by
  rw [sg_append, sg_repS]
  have h := told_blanks (pl := 1) (b := sg " ") (by decide +kernel) 4996
  have h := told_tells (by decide) h tells1.1 rise0.1
  have h := told_tells (by decide) h tells1.1 rise0.1
  have h := told_tells (by decide) h tells1.2.1 rise0.2.1
  have h := told_blank (b := [10]) h (by decide +kernel)
  rw [List.append_assoc, List.append_assoc, List.append_assoc] at h
  exact h
theorem toldC : Told 1 (sg (repS " " 4990 ++ ".\n")) [[]] := by
  rw [sg_append, sg_repS]
  have h := told_blanks (pl := 1) (b := sg " ") (by decide +kernel) 4990
  have h := told_tells (by decide) h tells1.2.1 rise0.2.1
  have h := told_blank (b := [10]) h (by decide +kernel)
  rw [List.append_assoc] at h
  exact h
theorem toldB : Told 2 (sg (repS ("o." ++ repS " " 23) 200)) (List.replicate 200 [0]) := by
  rw [sg_repS, sg_append, sg_repS]
  exact told_rep (u := [111, 46]) (b := (List.replicate 23 (sg " ")).flatten) (by decide) tells1.2.2.1 rise0.2.2.1 (by decide +kernel) 200
theorem toldD : Told 2 (sg (repS "o" 200)) (List.replicate 100 [0, 1]) := by
  rw [sg_repS]
  have e : (List.replicate 200 (sg "o")).flatten = (List.replicate 100 ([111, 111] ++ [])).flatten := by decide +kernel
  rw [e]
  exact told_rep (by decide) tells1.2.2.2 rise0.2.2.2 (fun c h => absurd h List.not_mem_nil) 100
theorem lenS (z : Str) (k n : Nat) (h : z.length * k = n) : (repS z k).length = n := by rw [len_repS, h]
end Kx
/-! The law. -/
namespace Kx
open PySem PySem.Spec PyProof.Rows L2 Xa Xb Xc Xd Xs Xp Xm Xr Xl Xk Xq Xt Xu Ya Yb Yc Yd Ye Yf Yg Yh Yi Yj Yk
abbrev sLaw : Stmt := top 33
def rLen (K : PySem.W.Frag) : List V → Hp → VK → Prop := fun xs H Q => ∃ p ys, xs = [.ref p] ∧ (SqL K H p ys ∨ SqT K H p ys) ∧ Q (.int ys.length) H
def rListOf (K : PySem.W.Frag) : List V → Hp → VK → Prop := fun xs H Q => ∃ p ys, xs = [.ref p] ∧ (SqL K H p ys ∨ SqT K H p ys) ∧ ∀ l, H l = none → Q (.ref l) (upd H l (.lst ys))
theorem pass00 {X : Cx} : Passes (L2.CX X.prog X.w) X E0 := fun _ _ _ _ _ _ _ ⟨_, _, _, _, _, _, _, _, _, _, _, _, q⟩ => False.elim q
section
variable {P : Program} {w : World} {K : PySem.W.Frag} {mg : Str → Option Value} {base : Heap} {f CN CP CT : Addr} {fd : FuncData}
structure LawF (P : Program) (w : World) (K : PySem.W.Frag) (mg : Str → Option Value) (base : Heap) (CN CP CT : Addr) : Prop where
  gen : CanG P w K mg base 2 "_law_generator" ["script", "index"] (spGener K)
  ran : CanG P w K mg base 2 "_law_random" ["generator", "bound"] spRandom
  any : CanG P w K mg base 3 "_law_any_plan" ["generator", "places", "many"] spAnyPlan
  wri : CanG P w K mg base 1 "_law_written" ["plan", "places"] spWritten
  spa : CanG P w K mg base 3 "_law_spaced" ["generator", "text"] spSpaced
  ref : CanG P w K mg base 7 "_law_refused" ["plan", "places"] spRefused
  txt : Can P w K mg base (L2.CX P w) 5 "text_of" ["plan", "places"] (spTextOf K CP CN)
  rea : Can P w K mg base (L2.CX P w) 4 "read_plan" ["text", "places"] (spRead K CN CT)
def spLaw (K : PySem.W.Frag) : Sp := fun xs H Q _ => ∃ (a : Addr) (ns : List Int), xs = [.ref a] ∧ SqL K H a (ns.map V.int) ∧ ∀ H', Q (.bl true) H'
theorem scLaw : FnScope ["script", "index", "generator", "places", "plan", "kept_here", "text", "some", "told", "piece"] ["script"] (defScope sLaw) := ⟨rfl, rfl, rfl, by decide +kernel, rfl, by decide +kernel, by decide +kernel⟩
theorem fn_law (F : FnP K "law" sLaw f fd) (B : Bi3 mg) (LF : LawF P w K mg base CN CP CT) : FnG P w K mg base 8 f fd ["script"] (spLaw K) := by
  obtain ⟨cG, cR, cA, cW, cS, cO, cT, cP⟩ := LF
  refine okGT F scLaw (by decide +kernel) (by decide) (fun xs H Q E h => ?_) (fun cdv A outer s H vs Q E hr hn h => ?_)
  · obtain ⟨a, ns, rfl, _⟩ := h
    rfl
  · obtain ⟨sa, ns, rfl, hS, q⟩ := h
    have h1 := hr.mono (show 1 ≤ 7 by decide)
    have h2 := hr.mono (show 2 ≤ 7 by decide)
    have h3 := hr.mono (show 3 ≤ 7 by decide)
    have h4 := hr.mono (show 4 ≤ 7 by decide)
    have h5 := hr.mono (show 5 ≤ 7 by decide)
    have h7 := hr
    obtain ⟨spT, hT⟩ : ∃ spT, spT = spTextOf K CP CN := ⟨_, rfl⟩
    obtain ⟨spR, hR⟩ : ∃ spR, spR = spRead K CN CT := ⟨_, rfl⟩
    obtain ⟨rr, hrr⟩ : ∃ rr, rr = rRepr K := ⟨_, rfl⟩
    rw [← hT] at cT
    rw [← hR] at cP
    have read_at : ∀ {H : Hp} {Q : VK} {E : XK} {z : Str} {pl : Nat} {ps : List (List Int)}, Told pl (sg z) ps → ps ≠ [] → z.length ≤ 10000 → 1 ≤ pl → pl ≤ 2 → (∀ b kb H', Same H H' → H b = none → LL H' b kb → New H b kb → kb.map (·.2) = ps → Q (.ref b) H') → spR [.str z, .int pl] H Q E := fun t ne zl p1 p2 q => by
      rw [hR]
      exact Kx.read_at t ne zl p1 p2 q
    have text_at : ∀ {H : Hp} {Q : VK} {E : XK} {a : Addr} {ks : List (Addr × List Int)} {pl m : Nat}, LL H a ks → ks ≠ [] → ks.length ≤ 100 → (∀ q ∈ ks, Rise pl q.2) → 1 ≤ pl → pl ≤ m → m ≤ 2 → (∀ H', Same H H' → Q (.str (textS m (ks.map (·.2)))) H') → spT [.ref a, .int m] H Q E := fun L ne few ri p1 pm p2 q => by
      rw [hT]
      exact Kx.text_at L ne few ri p1 pm p2 q
    have rep_r : ∀ {H : Hp} {Q : VK} {v : V} {t : Str}, Rep K H v t → Q (.str t) H → rr [v] H Q := fun r q => by
      rw [hrr]
      exact Xr.rep_r r q
    refine ⟨_, psst_nox (psst_cons (pst_forT PassesOwn.never rfl (PIT.of (pi_range1 (by rfl) B.range (pa1 pe_int))) (pg_name (i := 1) scLaw.nd rfl (.inl rfl)) (psst_cons (PST.of (ps_set (i := 2) scLaw.nd rfl (.inl rfl) (pe_canG cG h2 hn (pa_cons (pv 0) (pa1 (pv 1)))))) (psst_cons (PST.of (ps_set (i := 3) scLaw.nd rfl (.inl rfl) (pe_op op_add pe_int (pe_canG cR h2 hn (pa_cons (pv 2) (pa1 pe_int)))))) (psst_cons (PST.of (ps_set (i := 4) scLaw.nd rfl (.inl rfl) (pe_canG cA h3 hn (pa_cons (pv 2) (pa_cons (pv 3) (pa1 (pe_op op_add pe_int (pe_canG cR h2 hn (pa_cons (pv 2) (pa1 pe_int)))))))))) (psst_cons (PST.of (ps_setLc (i := 5) (own := [("piece", 9)]) (g := gName 9) (tt := tYes) rfl scLaw.nd rfl rfl (sw_true rfl rfl rfl (by decide +kernel)) (pi_list (pv 4)) (blkOk_by (own := [("piece", 9)]) (N := ["script", "index", "generator", "places", "plan", "kept_here", "text", "some", "told", "piece"]) (sc := defScope sLaw) (by decide +kernel)) (fun _ _ _ _ _ => pg_name (i := 9) scLaw.nd rfl (Or.inl rfl)) (fun _ _ _ _ _ => pts_nil) (fun _ _ _ _ _ => (pe_callTy (show CallR _ (.type "list") (rListOf K) from call_list_of) (by rfl) B.list (show bootBuiltins "list" = some (.type "list") by decide +kernel) (pa1 (pv 9)))))) (psst_cons (PST.of (ps_set (i := 6) scLaw.nd rfl (.inl rfl) (pe_can cT h5 pass00 (pa_cons (pv 4) (pa1 (pv 3)))))) (psst_cons (PST.of (ps_if (PW.pt (pw_or (pt_cmpR op_ne (pv 6) (pe_canG cW h1 hn (pa_cons (pv 5) (pa1 (pv 3)))) (nomark _)) (pw_or1 (pt_cmpR (op_neD hr.units) (pv 4) (pv 5) (nomark _))))) (pss_one (ps_ret pe_bl)) pss_nil)) (psst_cons (pst_for PassesOwn.never rfl (pit_list (pet_lst (pat_cons (CwR.PET.of (pv 6)) (pat_cons (CwR.PET.of (pe_canG cS h3 hn (pa_cons (pv 2) (pa1 (pv 6))))) (pat_cons (CwR.PET.of (pe_canG cS h3 hn (pa_cons (pv 2) (pa1 (pv 6))))) (pat_cons (CwR.pet_replC (pv 6)) pat_nil)))))) (pg_name (i := 7) scLaw.nd rfl (.inl rfl)) (pss_cons (ps_set (i := 8) scLaw.nd rfl (.inl rfl) (pe_can cP h4 pass00 (pa_cons (pv 7) (pa1 (pv 3))))) (pss_cons (ps_if (pt_cmpR op_ne (pe_bi (show CallR _ (.builtin "repr") rr from (by rw [hrr]; exact call_repr hn hr.units)) B.repr (pa1 (pv 8))) (pe_bi (show CallR _ (.builtin "repr") rr from (by rw [hrr]; exact call_repr hn hr.units)) B.repr (pa1 (pv 4))) (nomark _)) (pss_one (ps_ret pe_bl)) pss_nil) (pss_cons (ps_for PassesOwn.never rfl (pi_list (pv 8)) (pg_name (i := 9) scLaw.nd rfl (.inl rfl)) (pss_one (ps_expr (pe_bm PySem.F.plainAttrs_list PySem.F.slot_list_append PySem.F.type_list_append mt_append (pv 9) (pa1 pe_non))))) (pss_one (ps_if (PW.pt (pw_or (pt_cmpR (op_neD hr.units) (pe_lc (own := [("piece", 9)]) (g := gName 9) (tt := tYes) rfl scLaw.nd (pi_list (pv 8)) (blkOk_by (own := [("piece", 9)]) (N := ["script", "index", "generator", "places", "plan", "kept_here", "text", "some", "told", "piece"]) (sc := defScope sLaw) (by decide +kernel)) (fun _ _ _ _ _ => pg_name (i := 9) scLaw.nd rfl (Or.inl rfl)) (fun _ _ _ _ _ => pts_nil) (fun _ _ _ _ _ => (pe_callB (show CallR _ (.builtin "len") (rLen K) from call_len_seq) (by rfl) B.len PySem.boot_len (pa1 (pv 9))))) (pe_lc (own := [("piece", 9)]) (g := gName 9) (tt := tYes) rfl scLaw.nd (pi_list (pv 4)) (blkOk_by (own := [("piece", 9)]) (N := ["script", "index", "generator", "places", "plan", "kept_here", "text", "some", "told", "piece"]) (sc := defScope sLaw) (by decide +kernel)) (fun _ _ _ _ _ => pg_name (i := 9) scLaw.nd rfl (Or.inl rfl)) (fun _ _ _ _ _ => pts_nil) (fun _ _ _ _ _ => (pe_op op_add (pe_callB (show CallR _ (.builtin "len") (rLen K) from call_len_seq) (by rfl) B.len PySem.boot_len (pa1 (pv 9))) pe_int))) (nomark _)) (pw_or1 (pt_cmpR (op_neD hr.units) (pe_can cP h4 pass00 (pa_cons (pv 7) (pa1 (pv 3)))) (pv 4) (nomark _))))) (pss_one (ps_ret pe_bl)) pss_nil)))))) (CwR.psst_one (PST.of (ps_if (PW.pt (pw_or (pt_cmpR op_ne (pe_can cT h5 pass00 (pa_cons (pv 4) (pa1 pe_int))) (pe_canG cW h1 hn (pa_cons (pv 4) (pa1 pe_int))) (nomark _)) (pw_or1 (pt_not (pt_val (pe_canG cO h7 hn (pa_cons (pv 4) (pa1 (pv 3))))))))) (pss_one (ps_ret pe_bl)) pss_nil))))))))))) (PSsT.of (pss_cons (ps_if (PW.pt (pw_or (pt_cmpR (op_neD hr.units) (pe_can cP h4 pass00 (pa_cons (pe_op op_add_str (pe_op op_repS pe_str pe_int) pe_str) (pa1 pe_int))) (pe_lst (pa_cons (pe_lst (pa1 pe_int)) (pa_cons (pe_lst (pa1 pe_int)) (pa1 (pe_lst pa_nil))))) (nomark _)) (pw_or1 (pt_cmpR (op_neD hr.units) (pe_can cP h4 pass00 (pa_cons (pe_op op_repS (pe_op op_add_str pe_str (pe_op op_repS pe_str pe_int)) pe_int) (pa1 pe_int))) (pe_op op_rep (pe_lst (pa1 (pe_lst (pa1 pe_int)))) pe_int) (nomark _))))) (pss_one (ps_ret pe_bl)) pss_nil) (pss_one (ps_ret (pe_and (pe_cmpR (op_eqD hr.units) (pe_can cP h4 pass00 (pa_cons (pe_op op_add_str (pe_op op_repS pe_str pe_int) pe_str) (pa1 pe_int))) (pe_lst (pa1 (pe_lst pa_nil))) (nomark _)) (pe_one (pe_cmpR (op_eqD hr.units) (pe_can cP h4 pass00 (pa_cons (pe_op op_repS pe_str pe_int) (pa1 pe_int))) (pe_op op_rep (pe_lst (pa1 (pe_lst (pa_cons pe_int (pa1 pe_int))))) pe_int) (nomark _))))))))), ?_⟩
    refine ⟨_, rfl, by decide, by decide, for_range (lo := 0) (n := 5) (fun i σ H' => ∃ a1 a2 a3 a4 a5 a6 a7 a8 a9 : Option V, σ = [some (.ref sa), a1, a2, a3, a4, a5, a6, a7, a8, a9] ∧ Same H H')
      ⟨_, _, _, _, _, _, _, _, _, rfl, Same.refl _⟩ ?_ ?_⟩
    · rintro i σ H' hi ⟨a1, a2, a3, a4, a5, a6, a7, a8, a9, rfl, sm⟩
      refine ⟨_, rfl, _, rfl, sa, ns, i, (by rw [Int.zero_add]; rfl), by omega, sm.seq hS, fun g H1 ng s1 G1 => ?_⟩
      have gs : ∀ {X : Hp} {m : Nat}, Gen X g m → ∃ o, X g = some o := fun ⟨_, _, _, z, _⟩ => ⟨_, z⟩
      have Gsm : ∀ {X Y : Hp} {m : Nat}, Gen X g m → Same X Y → Gen Y g m := fun ⟨g0, g1, g2, z, r⟩ s => ⟨g0, g1, g2, s _ _ z, r⟩
      have Gmono : ∀ {X : Hp} {m m' : Nat}, Gen X g m → m ≤ m' → Gen X g m' := fun ⟨g0, g1, g2, z, h1, h2, h3, h4, h5, h6⟩ hb => ⟨g0, g1, g2, z, h1, h2, h3, h4, h5, by omega⟩
      have gne : ∀ {X : Hp} {m : Nat} {b : Addr}, Gen X g m → X b = none → b ≠ g := fun G nb e => by
        obtain ⟨o, z⟩ := gs G
        rw [e, z] at nb
        cases nb
      refine ⟨_, rfl, g, 2, _, rfl, by decide, by decide, G1, by omega, fun r H2 r0 r1 G2 k2 => ?_⟩
      obtain ⟨m0, rfl⟩ := Int.eq_ofNat_of_zero_le r0
      refine ⟨_, _, rfl, rfl, ?_⟩
      obtain ⟨pl, epl, p1, p2⟩ : ∃ pl : Nat, (1 : Int) + (m0 : Int) = pl ∧ 1 ≤ pl ∧ pl ≤ 2 := ⟨1 + m0, by omega, by omega, by omega⟩
      show gName 3 (V.int (1 + (m0 : Int))) _ _ _
      rw [epl]
      refine ⟨_, rfl, _, rfl, _, rfl, g, 40, _, rfl, by decide, by decide, G2, by omega, fun r H3 r0' r1' G3 k3 => ?_⟩
      obtain ⟨m, rfl⟩ := Int.eq_ofNat_of_zero_le r0'
      refine ⟨_, _, rfl, rfl, g, pl, 1 + m, _, (by rw [Int.natCast_add]; rfl), p1, p2, by omega, G3, by omega, fun a ks H4 b4 G4 na LLk N4 pc lk => ?_⟩
      have ag : a ≠ g := gne G3 na
      have kg : ∀ q ∈ ks, q.1 ≠ g := fun q hq => gne G3 (N4.1 q hq).1
      have ri : ∀ q ∈ ks, Rise pl q.2 := pc
      have r2 : ∀ l ∈ ks.map (·.2), Rise pl l := fun l hl => by
        obtain ⟨q, hq, rfl⟩ := List.mem_map.mp hl
        exact ri q hq
      have ne : ks ≠ [] := fun z => by
        rw [z] at lk
        simp at lk
        omega
      have ne2 : ks.map (·.2) ≠ [] := fun z => ne (List.map_eq_nil_iff.mp z)
      have few : ks.length ≤ 50 := by omega
      have few2 : (ks.map (·.2)).length ≤ 50 := by rw [List.length_map]; exact few
      have but4 : But g H1 H4 := fun c o e hc => b4 c o (by rw [k3 c hc, k2 c hc]; exact e) hc
      -- the lists kept
      refine ⟨_, rfl, a, rfl, ⟨_, SqL.of LLk.1⟩, fun D nD => ?_⟩
      refine lc_list (K := K) (a := a) (xs := ks.map fun q => V.ref q.1) (fun k H' => ∃ k2 : List (Addr × List Int), LL H' D k2 ∧ New H4 D k2 ∧ k2.map (·.2) = (ks.take k).map (·.2) ∧ Same H4 H') ⟨[], ⟨upd_same, fun _ h => nomatch h⟩, New.nil, rfl, upd_same_as nD⟩ (fun k H' _ ⟨_, _, _, _, s⟩ => SqL.of (s _ _ LLk.1)) ?_ ?_
      · rintro k x H5 hx ⟨k2, L2, N2, e2, s5⟩
        obtain ⟨qq, hq, rfl⟩ := refs_at hx
        have kl : k < ks.length := (List.getElem?_eq_some_iff.mp hq).1
        have tk : ks.take (k + 1) = ks.take k ++ [qq] := by rw [List.take_add_one, hq] <;> rfl
        refine ⟨rfl, lc_yes2 ⟨_, rfl, qq.1, _, rfl, .inl (SqL.of (s5 _ _ (LLk.2 qq (List.mem_of_getElem? hq)))), fun l nl => ?_⟩⟩
        obtain ⟨m1, m2, m3⟩ := ll_more (H3 := upd H5 l (.lst (qq.2.map V.int))) L2 N2 (fun c o e _ => s5 c o e) (upd_same_as nl) nl upd_same
        have k2l : k2.length ≤ 50 := by
          have := congrArg List.length e2
          rw [List.length_map, List.length_map] at this
          have := List.length_take_le k ks
          omega
        refine ⟨_, m1, by rw [List.length_map, sizeLine_eq]; omega, k2 ++ [(l, qq.2)], m2, m3, ?_, more_same (s5.trans (upd_same_as nl)) nD⟩
        rw [List.map_append, e2, tk, List.map_append]
        rfl
      rintro H5 ⟨k2, L2, N2, e2, s5⟩
      rw [List.length_map, List.take_length] at e2
      have k2l : k2.length ≤ 50 := by
        have := congrArg List.length e2
        rw [List.length_map, List.length_map] at this
        omega
      have L5 := LLk.same s5
      have G5 := Gsm G4 s5
      -- the text
      refine ⟨_, rfl, _, rfl, text_at L5 ne (by omega) ri p1 (Nat.le_refl _) p2 fun H6 s6 => ?_⟩
      obtain ⟨T, eT⟩ : ∃ T, T = textS pl (ks.map (·.2)) := ⟨_, rfl⟩
      rw [← eT]
      refine ⟨_, rfl, _, rfl, _, rfl, D, k2, pl, rfl, L2.same s6, p1, p2, by omega, fun H7 s7 => ⟨rfl, _, rfl, ?_⟩⟩
      rw [e2, ← eT]
      show (if (!decide (V.str _ = V.str _)) = true then _ else _)
      rw [decide_eq_true rfl]
      have s57 := s6.trans s7
      refine iteF ⟨_, rfl, _, rfl, neD_ll (L5.same s57) (L2.same s57) e2.symm ⟨_, rfl, iteF ?_⟩⟩
      have s47 : Same H4 H7 := s5.trans s57
      have G7 := Gsm G4 s47
      have eT1 : ∀ y : Str, y = T → y.length ≤ 500 := fun y e => by
        rw [e, eT]
        have := (tx_join (g := ⟨#[32]⟩) tx_b (texts_tx pl p2 (ks.map (·.2)))).1
        rw [List.length_map] at this
        have e : (textS pl (ks.map (·.2))).length = (Txt.join ⟨#[32]⟩ ((ks.map (·.2)).map (pieceS pl))).length := rfl
        omega
      have lT := eT1 T rfl
      have tT : Told pl (sg T) (ks.map (·.2)) := by rw [eT]; exact told_text p1 r2
      refine ⟨_, rfl, _, rfl, _, rfl, g, pl, _, ks.map (·.2), by rw [← eT]; rfl, p1, p2, ne2, few2, r2, G7, by omega, fun y1 H8 b8 G8 t8 l8 => ?_⟩
      refine ⟨_, rfl, _, rfl, g, pl, _, ks.map (·.2), by rw [← eT]; rfl, p1, p2, ne2, few2, r2, G8, by omega, fun y2 H9 b9 G9 t9 l9 => ?_⟩
      refine ⟨_, rfl, T, rfl, (by have : ("" : Str).length = 0 := by decide +kernel
                                  rw [this]; omega), (by show 4 ≤ sizeLine; decide), fun L nL => ?_⟩
      have Lg := gne G9 nL
      obtain ⟨y3, e3⟩ : ∃ y3, y3 = Txt.replace T " " "" := ⟨_, rfl⟩
      rw [← e3]
      have t3 : Told pl (sg y3) (ks.map (·.2)) ∧ y3.length ≤ 1000 := by
        have e : y3 = Str.join "" ((ks.map (·.2)).map (pieceS pl)) := by
          rw [e3, eT]
          exact text_flat ne2 _
        rw [e]
        refine ⟨told_join p1 (by decide +kernel) _ _ rfl r2, ?_⟩
        have te : Tx 1 ("" : Str) := by
          have : ("" : Str).length ≤ 1 ∧ PyData.strOk ("" : Str) = true := by decide +kernel
          exact this
        have := (tx_join te (texts_tx pl p2 (ks.map (·.2)))).1
        rw [List.length_map] at this
        have e : (Str.join "" ((ks.map (·.2)).map (pieceS pl))).length = (Txt.join "" ((ks.map (·.2)).map (pieceS pl))).length := by rw [glued_join]
        omega
      have all4 : ∀ (k : Nat) (x : V), ([V.str T, .str y1, .str y2, .str y3] : List V)[k]? = some x → ∃ y : Str, x = .str y ∧ Told pl (sg y) (ks.map (·.2)) ∧ y.length ≤ 1000 := fun k x hx => by
        match k, hx with
        | 0, hx => exact ⟨T, (Option.some.inj hx).symm, tT, by omega⟩
        | 1, hx => exact ⟨y1, (Option.some.inj hx).symm, t8, l8⟩
        | 2, hx => exact ⟨y2, (Option.some.inj hx).symm, t9, l9⟩
        | 3, hx => exact ⟨y3, (Option.some.inj hx).symm, t3⟩
        | k + 4, hx => simp at hx
      have hL : (upd H9 L (.lst [.str T, .str y1, .str y2, .str y3])) L = some (.lst [.str T, .str y1, .str y2, .str y3]) := upd_same
      have but9 : But g H7 (upd H9 L (.lst [.str T, .str y1, .str y2, .str y3])) := fun c o e hc => upd_same_as nL _ _ (b9 c o (b8 c o e hc) hc)
      have GL := Gsm G9 (upd_same_as (o := .lst [.str T, .str y1, .str y2, .str y3]) nL)
      generalize upd H9 L (.lst [.str T, .str y1, .str y2, .str y3]) = HL at hL but9 GL ⊢
      have LL4 : LL HL a ks := ll_but (LLk.same s47) ag kg but9
      refine ⟨L, rfl, ⟨_, SqL.of hL⟩, for_list (K := K) (a := L) (xs := [V.str T, .str y1, .str y2, .str y3]) (fun k σ H' => ∃ c7 c8 c9 : Option V, σ = [some (.ref sa), some (.int (0 + (i : Int))), some (.ref g), some (.int pl), some (.ref a), some (.ref D), some (.str T), c7, c8, c9] ∧ Same HL H')
        ⟨_, _, _, rfl, Same.refl _⟩ (fun k σ H' _ ⟨_, _, _, _, s⟩ => SqL.of (s _ _ hL)) ?_ ?_⟩
      · rintro k x σ H10 hx ⟨c7, c8, c9, rfl, s10⟩
        obtain ⟨y, rfl, ty, ly⟩ := all4 k x hx
        refine ⟨_, rfl, _, rfl, read_at ty ne2 (by omega) p1 p2 fun b kb H11 s11 nb Lb Nb eb => ?_⟩
        have LL11 := LL4.same (s10.trans s11)
        have kbl : kb.length ≤ 50 := by
          have := congrArg List.length eb
          rw [List.length_map, List.length_map] at this
          omega
        have rb : ∀ q ∈ kb, Rise pl q.2 := fun q hq => r2 _ (by rw [← eb]; exact List.mem_map.mpr ⟨q, hq, rfl⟩)
        refine ⟨_, rfl, rep_r (ll_rep Lb (by omega) rb p2) ⟨_, rfl, rep_r (ll_rep LL11 (by omega) ri p2) ⟨rfl, _, rfl, ?_⟩⟩⟩
        rw [eb]
        show (if (!decide (V.str _ = V.str _)) = true then _ else _)
        rw [decide_eq_true rfl]
        refine iteF ?_
        -- the told lists are lengthened
        have kq : ∀ q ∈ kb, H11 q.1 = some (.lst (q.2.map V.int)) := Lb.2
        refine ⟨_, rfl, b, rfl, ⟨_, SqL.of Lb.1⟩, for_list (K := K) (a := b) (xs := kb.map fun q => V.ref q.1) (fun n σ H' => ∃ c9 : Option V, σ = [some (.ref sa), some (.int (0 + (i : Int))), some (.ref g), some (.int pl), some (.ref a), some (.ref D), some (.str T), some (.str y), some (.ref b), c9] ∧ Same H10 H' ∧ H' b = some (.lst (kb.map fun q => V.ref q.1)) ∧ ∀ (j : Nat) (q : Addr × List Int), kb[j]? = some q → H' q.1 = some (.lst (q.2.map V.int ++ if j < n then [.non] else [])))
          ⟨_, rfl, s11, Lb.1, fun j q hq => by rw [kq q (List.mem_of_getElem? hq), if_neg (Nat.not_lt_zero j), List.append_nil]⟩ (fun n σ H' _ ⟨_, _, _, hb, _⟩ => SqL.of hb) ?_ ?_⟩
        · rintro n x σ H12 hx ⟨c9, rfl, s12, hb, el⟩
          obtain ⟨q, hq, rfl⟩ := refs_at hx
          have hq12 := el n q hq
          rw [if_neg (Nat.lt_irrefl n), List.append_nil] at hq12
          have nq := Nb.1 q (List.mem_of_getElem? hq)
          have ql := (rise_len p2 (rb q (List.mem_of_getElem? hq))).1
          refine ⟨_, rfl, .inl ⟨rfl, _, SqL.of hq12⟩, q.1, _, _, rfl, rfl, hq12, by rw [List.length_map, sizeLine_eq]; omega, _, rfl, fun c o e => ?_, ?_, fun j q2 hq2 => ?_⟩
          · rw [upd_ne (ne_of_none e nq.1)]
            exact s12 c o e
          · rw [upd_ne (Ne.symm nq.2)]
            exact hb
          · by_cases jn : j = n
            · subst jn
              rw [hq] at hq2
              obtain rfl := Option.some.inj hq2
              rw [upd_same, if_pos (Nat.lt_succ_self j)]
            · have ne12 : q2.1 ≠ q.1 := fun z => by
                have h1 : (kb.map (·.1))[j]? = some q2.1 := by rw [List.getElem?_map, hq2] <;> rfl
                have h2 : (kb.map (·.1))[n]? = some q.1 := by rw [List.getElem?_map, hq] <;> rfl
                rw [z] at h1
                have jl := (List.getElem?_eq_some_iff.mp h1).1
                exact jn ((List.getElem?_inj jl Nb.2).mp (h1.trans h2.symm))
              rw [upd_ne ne12, el j q2 hq2]
              have : (j < n) = (j < n + 1) := by
                refine propext ⟨fun h => by omega, fun h => by omega⟩
              simp only [this]
        rintro σ H12 ⟨c9, rfl, s12, hb, el⟩
        rw [List.length_map] at el
        have el2 : ∀ (j : Nat) (q : Addr × List Int), kb[j]? = some q → H12 q.1 = some (.lst (q.2.map V.int ++ [.non])) := fun j q hq => by
          rw [el j q hq, if_pos (List.getElem?_eq_some_iff.mp hq).1]
        have LL12 := LL4.same (s10.trans s12)
        -- how long they are
        refine ⟨_, rfl, b, rfl, ⟨_, SqL.of hb⟩, fun D1 nD1 => ?_⟩
        refine lc_list (K := K) (a := b) (xs := kb.map fun q => V.ref q.1) (fun n H' => H' D1 = some (.lst (((kb.take n).map fun q => (q.2.length : Int) + 1).map V.int)) ∧ Same H12 H') ⟨upd_same, upd_same_as nD1⟩ (fun n H' _ ⟨_, s⟩ => SqL.of (s _ _ hb)) ?_ ?_
        · rintro n x H13 hx ⟨hD1, s13⟩
          obtain ⟨q, hq, rfl⟩ := refs_at hx
          have tk : kb.take (n + 1) = kb.take n ++ [q] := by rw [List.take_add_one, hq] <;> rfl
          refine ⟨rfl, lc_yes2 ⟨_, rfl, q.1, _, rfl, .inl (SqL.of (s13 _ _ (el2 n q hq))), ?_⟩⟩
          refine ⟨_, hD1, ?_, ?_, more_same s13 nD1⟩
          · rw [List.length_map, List.length_map, sizeLine_eq]
            have := List.length_take_le' n kb
            omega
          · rw [upd_same, tk, List.map_append, List.map_append, List.length_append, List.length_map]
            rfl
        rintro H13 ⟨hD1, s13⟩
        rw [List.length_map, List.take_length] at hD1
        refine ⟨_, rfl, a, rfl, ⟨_, SqL.of (LL12.same s13).1⟩, fun D2 nD2 => ?_⟩
        refine lc_list (K := K) (a := a) (xs := ks.map fun q => V.ref q.1) (fun n H' => H' D2 = some (.lst (((ks.take n).map fun q => (q.2.length : Int) + 1).map V.int)) ∧ Same H13 H') ⟨upd_same, upd_same_as nD2⟩ (fun n H' _ ⟨_, s⟩ => SqL.of (s _ _ (LL12.same s13).1)) ?_ ?_
        · rintro n x H14 hx ⟨hD2, s14⟩
          obtain ⟨q, hq, rfl⟩ := refs_at hx
          have tk : ks.take (n + 1) = ks.take n ++ [q] := by rw [List.take_add_one, hq] <;> rfl
          refine ⟨rfl, lc_yes2 ⟨_, rfl, q.1, _, rfl, .inl (SqL.of (s14 _ _ ((LL12.same s13).2 q (List.mem_of_getElem? hq)))), ?_⟩⟩
          refine ⟨_, _, rfl, rfl, _, hD2, ?_, ?_, more_same s14 nD2⟩
          · rw [List.length_map, List.length_map, sizeLine_eq]
            have := List.length_take_le' n ks
            omega
          · rw [upd_same, tk, List.map_append, List.map_append, List.length_map]
            rfl
        rintro H14 ⟨hD2, s14⟩
        rw [List.length_map, List.take_length] at hD2
        have lens : (kb.map fun q => (q.2.length : Int) + 1) = ks.map fun q => (q.2.length : Int) + 1 := by
          have := congrArg (List.map fun l : List Int => (l.length : Int) + 1) eb
          rw [List.map_map, List.map_map] at this
          exact this
        refine ⟨_, _, dp_il (s14 _ _ hD1), dp_il hD2, il_shaped _, il_shaped _, _, rfl, ?_⟩
        rw [lens, il_eqv]
        refine iteF ⟨_, rfl, _, rfl, read_at ty ne2 (by omega) p1 p2 fun b2 kb2 H15 s15 nb2 Lb2 Nb2 eb2 => ⟨_, rfl, neD_ll Lb2 (LL12.same (s13.trans (s14.trans s15))) eb2 ⟨_, rfl, iteF ?_⟩⟩⟩
        exact ⟨_, _, _, rfl, s10.trans (s12.trans (s13.trans (s14.trans s15)))⟩
      · rintro σ H10 ⟨c7, c8, c9, rfl, s10⟩
        have LL10 := LL4.same s10
        refine ⟨_, rfl, text_at LL10 ne (by omega) ri p1 p2 (Nat.le_refl 2) fun H11 s11 => ?_⟩
        refine ⟨_, rfl, a, ks, 2, rfl, LL10.same s11, by decide, by decide, by omega, fun H12 s12 => ⟨rfl, _, rfl, ?_⟩⟩
        show (if (!decide (V.str _ = V.str _)) = true then _ else _)
        rw [decide_eq_true rfl]
        refine iteF ⟨_, rfl, _, rfl, a, ks, pl, rfl, p1, p2, LL10.same (s11.trans s12), ne, by omega, ri, fun H13 s13 => ⟨_, rfl, iteF ?_⟩⟩
        refine ⟨_, _, _, _, _, _, _, _, _, rfl, fun c o e => ?_⟩
        have hc := ne_of_none (sm _ _ e) ng
        exact s13 _ _ (s12 _ _ (s11 _ _ (s10 _ _ (but9 _ _ (s47 _ _ (but4 _ _ (s1 _ _ (sm _ _ e)) hc)) hc))))
    · rintro σ H1 ⟨a1, a2, a3, a4, a5, a6, a7, a8, a9, rfl, sm⟩
      have lA : (repS " " 4996 ++ "oo.\n").length = 5000 := by
        rw [← len_sg, sg_append, List.length_append, len_sg, len_repS]
        decide +kernel
      have lC : (repS " " 4990 ++ ".\n").length = 4992 := by
        rw [← len_sg, sg_append, List.length_append, len_sg, len_repS]
        decide +kernel
      have l0 : ("o." ++ repS " " 23).length = 25 := by
        rw [← len_sg, sg_append, List.length_append, len_sg, len_sg, len_repS]
        decide +kernel
      have lB : (repS ("o." ++ repS " " 23) 200).length = 5000 := by rw [len_repS, l0]
      have lD : (repS "o" 200).length = 200 := by
        rw [len_repS]
        decide +kernel
      have l1 : (" " : Str).length = 1 ∧ ("o" : Str).length = 1 ∧ ("o." : Str).length = 2 ∧ ("oo.\n" : Str).length = 4 ∧ (".\n" : Str).length = 2 := by decide +kernel
      obtain ⟨e1, e2, e3, e4, e5⟩ := l1
      have flat : ∀ (n : Nat) (x : V), (List.replicate n [x]).flatten = List.replicate n x := fun n x => List.flatten_replicate_singleton
      refine ⟨" ", 4996, rfl, rfl, by decide, by decide, by rw [e1]; decide, by rw [e1]; decide, _, _, rfl, rfl, by rw [len_repS, e1, e4, sizeLine_eq]; decide, ?_⟩
      refine read_at (pl := 1) toldA (by simp) (by rw [lA]; decide) (by decide) (by decide) fun b kb H2 s2 nb Lb Nb eb => ?_
      refine ⟨(by show 1 ≤ sizeLine; decide), fun p1 n1 => ⟨(by show 1 ≤ sizeLine; decide), fun p2 n2 => ⟨(by show 0 ≤ sizeLine; decide), fun p3 n3 => ⟨(by show 3 ≤ sizeLine; decide), fun p4 n4 => ?_⟩⟩⟩⟩
      have t1 := upd_same_as (o := .lst [V.int 0]) n1
      have t2 := upd_same_as (o := .lst [V.int 0]) n2
      have t3 := upd_same_as (o := .lst ([] : List V)) n3
      have t4 := upd_same_as (o := .lst [V.ref p1, .ref p2, .ref p3]) n4
      refine neD_ll (kb := [(p1, [0]), (p2, [0]), (p3, [])]) (Lb.same (t1.trans (t2.trans (t3.trans t4)))) ⟨upd_same, fun q hq => ?_⟩ eb ⟨_, rfl, iteF ?_⟩
      · simp only [List.mem_cons, List.not_mem_nil, or_false] at hq
        rcases hq with rfl | rfl | rfl
        · exact t4 _ _ (t3 _ _ (t2 _ _ upd_same))
        · exact t4 _ _ (t3 _ _ upd_same)
        · exact t4 _ _ upd_same
      refine ⟨" ", 23, rfl, rfl, by decide, by decide, by rw [e1]; decide, by rw [e1]; decide, _, _, rfl, rfl, by rw [len_repS, e1, e3, sizeLine_eq]; decide, _, 200, rfl, rfl, by decide, by decide, by rw [l0]; decide, by rw [l0]; decide, ?_⟩
      refine read_at (pl := 2) toldB (by decide) (by rw [lB]; decide) (by decide) (by decide) fun b kb H3 s3 nb Lb Nb eb => ?_
      refine ⟨(by show 1 ≤ sizeLine; decide), fun p1 n1 => ⟨(by show 1 ≤ sizeLine; decide), fun p2 n2 => ⟨p2, 200, _, rfl, rfl, upd_same, by decide, by decide, by show 1 * 200 ≤ sizeLine; decide, fun p3 n3 => ?_⟩⟩⟩
      have t1 := upd_same_as (o := .lst [V.int 0]) n1
      have t2 := upd_same_as (o := .lst [V.ref p1]) n2
      have t3 := upd_same_as (o := .lst (List.replicate (Int.toNat 200) [V.ref p1]).flatten) n3
      refine neD_ll (kb := List.replicate 200 (p1, [0])) (Lb.same (t1.trans (t2.trans t3))) ⟨?_, fun q hq => ?_⟩ ?_ ⟨_, rfl, iteF ?_⟩
      · rw [upd_same, List.map_replicate, flat]
        rfl
      · rw [(List.mem_replicate.mp hq).2]
        exact t3 _ _ (t2 _ _ upd_same)
      · rw [eb, List.map_replicate]
      refine ⟨" ", 4990, rfl, rfl, by decide, by decide, by rw [e1]; decide, by rw [e1]; decide, _, _, rfl, rfl, by rw [len_repS, e1, e5, sizeLine_eq]; decide, ?_⟩
      refine read_at (pl := 1) toldC (by simp) (by rw [lC]; decide) (by decide) (by decide) fun b kb H4 s4 nb Lb Nb eb => ?_
      refine ⟨(by show 0 ≤ sizeLine; decide), fun p1 n1 => ⟨(by show 1 ≤ sizeLine; decide), fun p2 n2 => ?_⟩⟩
      have t1 := upd_same_as (o := .lst ([] : List V)) n1
      have t2 := upd_same_as (o := .lst [V.ref p1]) n2
      refine eqD_ll (kb := [(p1, [])]) (Lb.same (t1.trans t2)) ⟨upd_same, fun q hq => ?_⟩ eb ⟨_, rfl, iteT ?_⟩
      · rw [List.mem_singleton.mp hq]
        exact t2 _ _ upd_same
      refine ⟨"o", 200, rfl, rfl, by decide, by decide, by rw [e2]; decide, by rw [e2]; decide, ?_⟩
      refine read_at (pl := 2) toldD (by decide) (by rw [lD]; decide) (by decide) (by decide) fun b kb H5 s5 nb Lb Nb eb => ?_
      refine ⟨(by show 2 ≤ sizeLine; decide), fun p1 n1 => ⟨(by show 1 ≤ sizeLine; decide), fun p2 n2 => ⟨p2, 100, _, rfl, rfl, upd_same, by decide, by decide, by show 1 * 100 ≤ sizeLine; decide, fun p3 n3 => ?_⟩⟩⟩
      have t1 := upd_same_as (o := .lst [V.int 0, .int 1]) n1
      have t2 := upd_same_as (o := .lst [V.ref p1]) n2
      have t3 := upd_same_as (o := .lst (List.replicate (Int.toNat 100) [V.ref p1]).flatten) n3
      refine eqD_ll (kb := List.replicate 100 (p1, [0, 1])) (Lb.same (t1.trans (t2.trans t3))) ⟨?_, fun q hq => ?_⟩ ?_ (q _)
      · rw [upd_same, List.map_replicate, flat]
        rfl
      · rw [(List.mem_replicate.mp hq).2]
        exact t3 _ _ (t2 _ _ upd_same)
      · rw [eb, List.map_replicate]
end
end Kx
/-! The head: facts by names, the run. -/
namespace Kx
open PySem PySem.Spec PyProof.Rows L2 Xa Xb Xc Xd Xs Xp Xm Xr Xl Xk Xq Xt Xu Ya Yb Yc Yd Ye Yf Yg Yh Yi Yj Yk
abbrev sXN : Stmt := inClass (top 2) 0
abbrev sXP : Stmt := inClass (top 3) 0
abbrev sXT : Stmt := inClass (top 4) 0
def dTop (x : Str) (st : Stmt) : He.DefD := ⟨(x, none), x, x, defArgs st, defBody st, defScope st, [], []⟩
def dMet (c m q : Str) (st : Stmt) (dfl : List He.Dv) (kwd : List (Str × He.Dv)) : He.DefD := ⟨(c, some m), m, q, defArgs st, defBody st, defScope st, dfl, kwd⟩
def dfs : List He.DefD := [dMet "InvalidNumber" "__init__" "InvalidNumber.__init__" sXN [.non] [], dMet "InvalidPlan" "__init__" "InvalidPlan.__init__" sXP [.non] [], dMet "InvalidText" "__init__" "InvalidText.__init__" sXT [.non] [], dTop "is_whole" sWhole, dTop "is_between" sBetween, dTop "check_places" sCkPlaces, dTop "is_piece" sIsPiece, dTop "are_pieces" sArePieces, dTop "ascends" sAscends, dTop "text_of" sTextOf, dTop "read_plan" sRead, dTop "signs_of" sSigns, dTop "words_of" sWordsOf, dTop "is_word" sIsWord, dTop "piece_of" sPieceOf, dTop "_law_cell" sCell, dTop "_law_hash" sHash, dTop "_law_generator" sGener, dTop "_law_random" sRandom, dTop "_law_any_plan" sAnyPlan, dTop "_law_written" sWritten, dTop "_law_spaced" sSpaced, dTop "_law_caught" sCaught, dTop "_law_refused" sRefused, dTop "law" sLaw]
def fas : List He.Fa := [.glo "WatchError", .glo "InvalidNumber", .glo "InvalidPlan", .glo "InvalidText", .glo "is_whole", .glo "is_between", .glo "check_places", .glo "is_piece", .glo "are_pieces", .glo "ascends", .glo "text_of", .glo "read_plan", .glo "signs_of", .glo "words_of", .glo "is_word", .glo "piece_of", .glo "_law_cell", .glo "_law_hash", .glo "_law_generator", .glo "_law_random", .glo "_law_any_plan", .glo "_law_written", .glo "_law_spaced", .glo "_law_caught", .glo "_law_refused", .glo "law", .free "len", .free "int", .free "max", .free "range", .free "isinstance", .free "bool", .free "str", .free "all", .free "enumerate", .free "repr", .free "list", .free "zip", .free "tuple", .int "MOST_PLACES" 2, .str "TAKEN_SIGNS" "oO", .str "SIGNS" "oO."]
/-- WatchError's own reads -/
def wbB (K : PySem.W.Frag) : Bool := PySem.W.readsIn K (He.ga K "WatchError") (.type "type") && (He.eqO (PySem.W.specialIn K (.ref (He.ga K "WatchError")) "__getattribute__") (some (some (.builtin "type.__getattribute__"))) &&
  (match PySem.W.findCls K (.ref (He.ga K "WatchError")) (.type "type") "__init__" with
  | some (.val (.builtin n)) => n == "ValueError.__init__"
  | _ => false))
/-- an error class and its __init__ -/
def xmB (K : PySem.W.Frag) (x f : Str) : Bool := xclsB K (He.ga K x) f && (He.eqO (PySem.W.findIn K (.ref (He.ga K x)) "__init__") (some (some (.ref (He.ma K (He.ga K x) "__init__")))) && decide (PySem.W.typeIn K (.ref (He.ma K (He.ga K x) "__init__")) = some (.type "function")))
def kitE (K : PySem.W.Frag) (x y : Str) (b : Bool) : Bool := decide (PySem.W.kitOne K (.ref (He.ga K x)) (.ref (He.ga K y)) = some b)
def exB (K : PySem.W.Frag) : Bool := wbB K && (xmB K "InvalidNumber" "value" && (xmB K "InvalidPlan" "value" && (xmB K "InvalidText" "value" &&
  (kitE K "InvalidNumber" "InvalidNumber" true && (kitE K "InvalidNumber" "InvalidPlan" false && (kitE K "InvalidPlan" "InvalidNumber" false && (kitE K "InvalidPlan" "InvalidPlan" true &&
  (decide (PySem.W.exmOne K (.ref (He.ga K "InvalidNumber")) (.ref (He.ga K "WatchError")) = some true) && decide (PySem.W.exmOne K (.ref (He.ga K "InvalidPlan")) (.ref (He.ga K "WatchError")) = some true)))))))))
abbrev RR : PySem.W.OpenRow := PySem.W.OpenLaw.row PySem.Challenge.rw_hearunlike_k30_plans_written_and_read
/-- the part of the heap that is looked at -/
def frY (g : Addr → Option Obj) : PySem.W.Frag := He.frG g (cStatics :: He.asD g 6)
def obY (g : Addr → Option Obj) : He.AlD × Bool := (He.obsD fas dfs (frY g), exB (frY g))
/-- what is told of it -/
structure Says (K : PySem.W.Frag) (h : Heap) : Prop where
  inn : K.In h
  dd : He.SaysD fas dfs K
  ex : exB K = true
def hkX : PySem.W.Hook where
  α := He.AlD × Bool
  obs := fun s => obY s.heap.get?
  val := fun _ => (He.valD dfs, true)
  says := fun _ h => ∃ K : PySem.W.Frag, Says K h
  of := fun _ _ e => ⟨_, He.frG_in, congrArg (fun z : He.AlD × Bool => z.1) e, congrArg (fun z : He.AlD × Bool => z.2) e⟩
  keeps := fun _ _ _ ⟨K, c⟩ k => ⟨K, PySem.W.Frag.In.keeps c.inn k, c.dd, c.ex⟩
def obX (s : PySem.W.SharedT) : He.AlD × Bool := obY (HandSHeadRun.getT s)
theorem obX_eq (s : PySem.W.SharedT) : obX s = hkX.obs s.abs := by
  show obY (HandSHeadRun.getT s) = obY s.abs.heap.get?
  rw [show HandSHeadRun.getT s = s.abs.heap.get? from funext (HandSHeadRun.getT_eq s)]
def loose : List Str := ["WatchError", "InvalidNumber", "InvalidPlan", "InvalidText", "MOST_PLACES", "TAKEN_SIGNS", "SIGNS", "is_whole", "is_between", "check_places", "is_piece", "are_pieces", "ascends", "text_of", "read_plan", "signs_of", "words_of", "is_word", "piece_of", "_law_cell", "_law_hash", "_law_generator", "_law_random", "_law_any_plan", "_law_written", "_law_spaced", "_law_caught", "_law_refused"]
theorem runX (w : World) : HandSHeadRun.RunEq RR (PySem.W.view RR.prog [33]) hkX obX 16000 loose w := by
  intro os
  kernel_rfl
end Kx
/-! The facts joined. -/
namespace Kx
open PySem PySem.Spec PyProof.Rows L2 Xa Xb Xc Xd Xs Xp Xm Xr Xl Xk Xq Xt Xu Ya Yb Yc Yd Ye Yf Yg Yh Yi Yj Yk
section
variable {P : Program} {w : World} {K : PySem.W.Frag} {mg : Str → Option Value} {base h : Heap}
theorem dfnAt (c : Says K h) (G : h.Ns mainGlobals mg) (i j : Nat) {x : Str} {st : Stmt} (hd : dfs[i]? = some (dTop x st) := by rfl) (hf : fas[j]? = some (.glo x) := by rfl) : Dfn K mg x st :=
  ⟨let ⟨fd, F⟩ := c.dd.def_ i hd; ⟨_, fd, F, He.glo_ok c.inn G (c.dd.fact j hf)⟩⟩
theorem gloAt (c : Says K h) (G : h.Ns mainGlobals mg) (j : Nat) {x : Str} (hf : fas[j]? = some (.glo x) := by rfl) : mg x = some (.ref (He.ga K x)) := He.glo_ok c.inn G (c.dd.fact j hf)
theorem freeAt (c : Says K h) (G : h.Ns mainGlobals mg) (j : Nat) {x : Str} (hf : fas[j]? = some (.free x) := by rfl) : mg x = none := He.free_ok c.inn G (c.dd.fact j hf)
theorem bi3 (c : Says K h) (G : h.Ns mainGlobals mg) : Bi3 mg := ⟨⟨⟨freeAt c G 26, freeAt c G 27, freeAt c G 28, freeAt c G 29⟩, freeAt c G 30, freeAt c G 31, freeAt c G 32, freeAt c G 33, freeAt c G 34, freeAt c G 35⟩, freeAt c G 36, freeAt c G 37⟩
/-- what exB tells -/
structure Ex (K : PySem.W.Frag) : Prop where
  wb : wbB K = true
  xn : xmB K "InvalidNumber" "value" = true
  xp : xmB K "InvalidPlan" "value" = true
  xt : xmB K "InvalidText" "value" = true
  k1 : kitE K "InvalidNumber" "InvalidNumber" true = true
  k2 : kitE K "InvalidNumber" "InvalidPlan" false = true
  k3 : kitE K "InvalidPlan" "InvalidNumber" false = true
  k4 : kitE K "InvalidPlan" "InvalidPlan" true = true
  e1 : PySem.W.exmOne K (.ref (He.ga K "InvalidNumber")) (.ref (He.ga K "WatchError")) = some true
  e2 : PySem.W.exmOne K (.ref (He.ga K "InvalidPlan")) (.ref (He.ga K "WatchError")) = some true
theorem ex_of (c : exB K = true) : Ex K := by
  obtain ⟨a1, c⟩ := He.ba c
  obtain ⟨a2, c⟩ := He.ba c
  obtain ⟨a3, c⟩ := He.ba c
  obtain ⟨a4, c⟩ := He.ba c
  obtain ⟨a5, c⟩ := He.ba c
  obtain ⟨a6, c⟩ := He.ba c
  obtain ⟨a7, c⟩ := He.ba c
  obtain ⟨a8, c⟩ := He.ba c
  obtain ⟨a9, a0⟩ := He.ba c
  exact ⟨a1, a2, a3, a4, a5, a6, a7, a8, of_decide_eq_true a9, of_decide_eq_true a0⟩
theorem wbase (c : Says K h) (G : h.Ns mainGlobals mg) (e : Ex K) : WBase K mg "WatchError" := by
  obtain ⟨a1, c2⟩ := He.ba e.wb
  obtain ⟨a2, a3⟩ := He.ba c2
  refine ⟨He.ga K "WatchError", .type "type", gloAt c G 0, a1, He.eqO_ok a2, ?_⟩
  split at a3
  · rename_i n q
    rw [q, beq_iff_eq.mp a3]
  · cases a3
theorem bindsX {x qual : Str} {params : Arguments} {body : List Stmt} {scope : Scope} {f : Addr} {fd : FuncData} {ps : List Str} (F : FunD K x qual params body scope [.non] [] f fd) (hn : ps.length = 2)
    (hb : ∀ (T : Addr) (kV doc pm : Value) (an : Option Addr) (cdv ct : Value) (us its : List Value), us.length = 2 → its.length = 1 →
      ∃ k, bindArgs (PySem.W.fnOf x qual params body scope (.ref T) kV doc pm an cdv ct) ⟨us, []⟩ = seqItems? (.ref T) >>= k ∧ k (some its.toArray) = pure (ps.zip (us ++ its.drop 1))) : Binds K fd ps [] := by
  obtain ⟨ds, r, b⟩ := F.binds1 (ps := ps) 2 1 (by simp) (by rw [hn] <;> rfl) hb
  cases r
  exact b
theorem scXN : FnScope ["self", "value"] ["self", "value"] (defScope sXN) := ⟨rfl, rfl, rfl, by decide +kernel, rfl, by decide +kernel, by decide +kernel⟩
theorem scXP : FnScope ["self", "value"] ["self", "value"] (defScope sXP) := ⟨rfl, rfl, rfl, by decide +kernel, rfl, by decide +kernel, by decide +kernel⟩
theorem scXT : FnScope ["self", "value"] ["self", "value"] (defScope sXT) := ⟨rfl, rfl, rfl, by decide +kernel, rfl, by decide +kernel, by decide +kernel⟩
theorem makeN (c : Says K h) (G : h.Ns mainGlobals mg) (e : Ex K) : XMake P w K mg base "InvalidNumber" (He.ga K "InvalidNumber") "value" := by
  obtain ⟨a1, c2⟩ := He.ba e.xn
  obtain ⟨a2, a3⟩ := He.ba c2
  obtain ⟨fd, F⟩ := c.dd.def_ 0 (d := dMet "InvalidNumber" "__init__" "InvalidNumber.__init__" sXN [.non] []) rfl
  have T := xcls_ok a1
  exact ⟨T, gloAt c G 1, _, fd, He.eqO_ok a2, of_decide_eq_true a3, ok_xi (f := "value") F scXN T (wbase c G e) rfl rfl rfl (fun _ _ _ => ⟨_, rfl⟩) (by decide) (by decide), bindsX F rfl fun T kV doc pm an cdv ct us its h1 h2 => match us, its, h1, h2 with | [_, _], [_], _, _ => ⟨_, rfl, rfl⟩⟩
theorem makeP (c : Says K h) (G : h.Ns mainGlobals mg) (e : Ex K) : XMake P w K mg base "InvalidPlan" (He.ga K "InvalidPlan") "value" := by
  obtain ⟨a1, c2⟩ := He.ba e.xp
  obtain ⟨a2, a3⟩ := He.ba c2
  obtain ⟨fd, F⟩ := c.dd.def_ 1 (d := dMet "InvalidPlan" "__init__" "InvalidPlan.__init__" sXP [.non] []) rfl
  have T := xcls_ok a1
  exact ⟨T, gloAt c G 2, _, fd, He.eqO_ok a2, of_decide_eq_true a3, ok_xi (f := "value") F scXP T (wbase c G e) rfl rfl rfl (fun _ _ _ => ⟨_, rfl⟩) (by decide) (by decide), bindsX F rfl fun T kV doc pm an cdv ct us its h1 h2 => match us, its, h1, h2 with | [_, _], [_], _, _ => ⟨_, rfl, rfl⟩⟩
theorem makeT (c : Says K h) (G : h.Ns mainGlobals mg) (e : Ex K) : XMake P w K mg base "InvalidText" (He.ga K "InvalidText") "value" := by
  obtain ⟨a1, c2⟩ := He.ba e.xt
  obtain ⟨a2, a3⟩ := He.ba c2
  obtain ⟨fd, F⟩ := c.dd.def_ 2 (d := dMet "InvalidText" "__init__" "InvalidText.__init__" sXT [.non] []) rfl
  have T := xcls_ok a1
  exact ⟨T, gloAt c G 3, _, fd, He.eqO_ok a2, of_decide_eq_true a3, ok_xi (f := "value") F scXT T (wbase c G e) rfl rfl rfl (fun _ _ _ => ⟨_, rfl⟩) (by decide) (by decide), bindsX F rfl fun T kV doc pm an cdv ct us its h1 h2 => match us, its, h1, h2 with | [_, _], [_], _, _ => ⟨_, rfl, rfl⟩⟩
theorem errF (c : Says K h) (G : h.Ns mainGlobals mg) (e : Ex K) : ErrF K mg (He.ga K "WatchError") (He.ga K "InvalidNumber") (He.ga K "InvalidPlan") :=
  ⟨gloAt c G 0, gloAt c G 1, gloAt c G 2, of_decide_eq_true e.k1, of_decide_eq_true e.k2, of_decide_eq_true e.k3, of_decide_eq_true e.k4, e.e1, e.e2, xcls_ok (He.ba e.xn).1, xcls_ok (He.ba e.xp).1⟩
theorem lawF (c : Says K h) (G : h.Ns mainGlobals mg) (e : Ex K) : LawF P w K mg base (He.ga K "InvalidNumber") (He.ga K "InvalidPlan") (He.ga K "InvalidText") := by
  have B := bi3 c G
  obtain ⟨tm, gM⟩ := He.int_ok c.inn G (c.dd.fact 39 (f := .int "MOST_PLACES" 2) rfl)
  obtain ⟨tO, gO⟩ := He.str_ok c.inn G (c.dd.fact 40 (f := .str "TAKEN_SIGNS" "oO") rfl)
  obtain ⟨tS, gS⟩ := He.str_ok c.inn G (c.dd.fact 41 (f := .str "SIGNS" "oO.") rfl)
  have cW := can_whole (P := P) (w := w) (base := base) (dfnAt c G 3 4) B.toBi2
  have cB := can_between (dfnAt c G 4 5) cW
  have cC := can_ckplaces (dfnAt c G 5 6) gM (makeN c G e) cB
  have cWo := can_wordsof (P := P) (w := w) (base := base) (dfnAt c G 12 13)
  have cI := can_isword (P := P) (w := w) (base := base) (dfnAt c G 13 14) B.toBi2 gS
  have cP := can_pieceof (P := P) (w := w) (base := base) (dfnAt c G 14 15) B.toBi2 gO
  have cR := can_read (ts := tS) (dfnAt c G 10 11) B.toBi2 (makeT c G e) cC cWo cI cP
  have cAs := can_ascends (P := P) (w := w) (base := base) (dfnAt c G 8 9) B
  have cIP := can_ispiece (dfnAt c G 6 7) B cB cAs
  have cAP := can_arepieces (dfnAt c G 7 8) B cIP
  have cSi := can_signs (P := P) (w := w) (base := base) (dfnAt c G 11 12) B
  have cT := can_textof (dfnAt c G 9 10) B gM (makeP c G e) (makeN c G e) cAP cC cSi
  obtain ⟨fC, fdC, FC, gC⟩ := ((dfnAt c G 15 16) : Dfn K mg "_law_cell" sCell).at_
  obtain ⟨fH, fdH, FH, gH⟩ := ((dfnAt c G 16 17) : Dfn K mg "_law_hash" sHash).at_
  obtain ⟨fG, fdG, FG, gG⟩ := ((dfnAt c G 17 18) : Dfn K mg "_law_generator" sGener).at_
  obtain ⟨fR, fdR, FR, gR⟩ := ((dfnAt c G 18 19) : Dfn K mg "_law_random" sRandom).at_
  have cCa := can_caught (dfnAt c G 22 23) B (errF c G e) cT
  exact ⟨FnG.can (ok_gener FG B.toBi FC gC) FG gG fun _ _ _ _ _ _ us hl => match us, hl with | [_, _], _ => rfl,
    FnG.can (ok_random FR B.toBi FH gH) FR gR fun _ _ _ _ _ _ us hl => match us, hl with | [_, _], _ => rfl,
    can_anyplan (dfnAt c G 19 20) B.toBi2 FR gR FH gH,
    can_written (dfnAt c G 20 21) B,
    can_spaced (dfnAt c G 21 22) B FR gR FH gH,
    can_refused (dfnAt c G 23 24) B (freeAt c G 38) cCa,
    cT, cR⟩
end
end Kx
open PySem PySem.W PySem.Calls PyProof.Rows
theorem PySem.Challenge.cw_hearunlike_k30_plans_written_and_read_holds : PySem.Challenge.rw_hearunlike_k30_plans_written_and_read.Holds := by
  w_on; o_law
  refine HandSHeadRun.head_any (r := Kx.RR) (q := view Kx.RR.prog [33]) (H := Kx.hkX) (ob := Kx.obX) (M := 16000) (loose := Kx.loose) (d := HandSHeadRun.topDef Kx.RR.prog 33) (kwd := []) Kx.obX_eq
    (by kernel_rfl) (fun s => by kernel_rfl) Kx.runX (by kernel_rfl) (by kernel_rfl) (by kernel_rfl) (by rfl) (by first | assumption | decide +kernel) (by decide +kernel) ⟨rfl, rfl, rfl, rfl, rfl, by decide +kernel⟩ ?hw ?hc
  case hw => w_witness2
  case hc =>
    refine Xh.walkG (l := PySem.Challenge.rw_hearunlike_k30_plans_written_and_read) (n := 63) (k := 8) (x := "script") rfl (by decide) (by kernel_rfl) ⟨rfl, by decide, by decide⟩ rfl ?F
    intro w mg fa h Y G hmg0
    obtain ⟨K, c⟩ := Y
    have hmg : mg ("law" : PySem.Str) = some (.ref fa) := by
      have e : (HandSHeadRun.topDef Kx.RR.prog 33).name = ("law" : PySem.Str) := by kernel_rfl
      rw [← e]
      exact hmg0
    obtain ⟨fd, F⟩ := c.dd.def_ 24 (d := Kx.dTop "law" Kx.sLaw) rfl
    have e := hmg.symm.trans (Kx.gloAt c G 25)
    cases e
    have ex := Kx.ex_of c.ex
    have b := L2.FunD.bindsA (ps := ["script"]) F fun _ _ _ _ _ _ us hl => match us, hl with | [_], _ => rfl
    exact ⟨K, fd, Kx.spLaw K, c.inn, fun s v => b s [v] rfl, fun H a ns hS => ⟨a, ns, rfl, hS, fun _ => rfl⟩, fun base => Kx.fn_law F (Kx.bi3 c G) (Kx.lawF c G ex)⟩
