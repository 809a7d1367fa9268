import PyProof.Rows.All
import Wide.All
import OpenK.AllK
import Wide.FinOn
import PyProof.ReprRoads
import HandS.ForMost
import HandS.Exc
import HandS.ExcOwn
import HandS.ExcInit
import HandS.ExcIs
import HandS.ExcField
import HandS.IsInst
import HandS.Defaults
import HandS.WordsExc
import KE.KExcIs
import HandS.TryOnly
import HandS.HeadHook4
import HandS.ExcValue
import HandS.TupSets
import HandS.Strs
import KE.SortData
import HandS.MakeKw
import PyProof.FitsInt
import PyProof.ReprLen
import HandS.Ends
import HandS.HeadEnd
import HandS.Wide
import HandS.WideBits
import HandS.Small
import Lean
import HandS.More
import HandS.Head0
import HandS.Head1
import HandS.Head2
import HandS.HeadHook1
import HandS.HeadHook2
import PySem.Challenge.RW_hearunlike_k01_errors
set_option Elab.async false
set_option linter.all false
set_option maxRecDepth 100000
set_option maxHeartbeats 0
/-! Own ground, part A: defs that know that no repr is under way; repr of data. -/
namespace Xa
open PySem PySem.Spec PyProof.Rows L2

/-! ### no repr is under way -/
def NoRep (A : Around) : Prop := A.guards = some []
theorem NoRep.deeper {A : Around} (n : NoRep A) (en : Env) : NoRep (A.deeper en) := n

/-- a def's promise where no repr is under way and nothing leaves it -/
structure FnG (P : Program) (w : World) (K : PySem.W.Frag) (mg : Str → Option Value) (base : Heap) (lev : Nat) (at_ : Addr) (fd : FuncData) (ps : List Str) (pr : Sp) : Prop where
  size : ∀ xs H Q E, pr xs H Q E → xs.length = ps.length
  go : ∀ (A : Around) (out : List Env) (st : Shared) (H : Hp) (ar : Args) (us : List Value) (xs : List V) (Q : VK) (E : XK), Room lev A → NoRep A →
    Env0 P w K mg base A out st H → BindsTo st fd ar (ps.zip us) → Vals xs us → pr xs H Q E → codeAny (model P w) A (.call (.ref at_) ar) (CR CX0 out P w H st Q E) st

section
variable {P : Program} {w : World} {K : PySem.W.Frag} {mg : Str → Option Value} {base : Heap} {x qual : Str} {params : Arguments} {body : List Stmt} {scope : Scope} {dvs : List V} {kws : List (Str × V)} {at_ : Addr} {fd : FuncData}
theorem okG {N ps : List Str} {lev : Nat} {pr : Sp} (F : FunD K x qual params body scope dvs kws at_ fd) (S : FnScope N ps scope) (size : ∀ xs H Q E, pr xs H Q E → xs.length = ps.length)
    (hb : ∀ (cdv : Value) (A : Around) (out : List Env) (st : Shared) (H : Hp) (xs : List V) (Q : VK) (E : XK), Room lev (A.deeper (envOfC qual scope st.heap.objs.size at_ cdv)) → NoRep (A.deeper (envOfC qual scope st.heap.objs.size at_ cdv)) → pr xs H Q E →
      ∃ t, PSs (cxOf CX0 P w K mg base N qual scope at_ cdv A out st H E).nox body t ∧ t { nx := fun _ H' => Q .non H', rt := Q } (start N xs) H) : FnG P w K mg base (lev + 1) at_ fd ps pr := by
  obtain ⟨oc, od, dV, kV, doc, pm, an, cdv, ct, osl, rfl, lk, hcd, _, _⟩ := F.ex
  refine ⟨size, fun A out st H ar us xs Q E hr hn e0 bnd rel hp => ?_⟩
  have sz := size _ _ _ _ hp
  have inK : K.In st.heap := e0.mod.kin.keeps fun b o z => (e0.bs b o z).1
  have noLim : st.heap.NoLimit := e0.mod.nolimit.keeps fun b o z => (e0.bs b o z).1
  refine codeAny_call_function hr.depth (inK _ _ lk) rfl S.co S.gen rfl (PySem.W.codeRec_of inK hcd) (bnd _ _ _ _ ?_)
  refine wpAny_newFunctionEnv_cells S.kind (fun ⟨n, v⟩ hy => ?_) fun env he s1 ic => ?_
  · exact (S.par n (List.of_mem_zip hy).1).elim .inl fun z => .inr ⟨z, PySem.W.cellsFrom_some _ _ _ (.inl z)⟩
  subst he
  refine ⟨noLim.keeps ic.toInCall.keep, codeAny_func ?_⟩
  obtain ⟨t, ht, hq⟩ := hb cdv A out st H xs Q E (hr.deeper _) (hn.deeper _) hp
  have I : Inv (cxOf CX0 P w K mg base N qual scope at_ cdv A out st H E) [] (start N xs) H s1 := inv_start S hr.hd e0 sz rel ic
  refine wpAny_mono (ht.nox.run [] s1 (start N xs) H _ I hq) (fun fl s2 hs => ?_) fun e s2 hs => hs
  cases fl with
  | ret u => exact let ⟨v, _, H', J, rv, q⟩ := hs; ⟨v, H', J.os, J.bare, J.base, J.hok, rv, q⟩
  | next => exact let ⟨_, H', J, q⟩ := hs; ⟨V.non, H', J.os, J.bare, J.base, J.hok, rfl, q⟩
  | brk => exact let ⟨_, _, _, q⟩ := hs; False.elim q
  | cont => exact let ⟨_, _, _, q⟩ := hs; False.elim q
theorem FnG.up {ps : List Str} {i j : Nat} {pr : Sp} (G : FnG P w K mg base i at_ fd ps pr) (h : i ≤ j) : FnG P w K mg base j at_ fd ps pr :=
  ⟨G.size, fun A out st H ar us xs Q E hr => G.go A out st H ar us xs Q E (hr.mono h)⟩
end

section
variable {X : Cx} {lev : Nat} {at_ : Addr} {fd : FuncData} {ps : List Str} {pr : Sp} {x : Str} {p pos : Pos} {e : Expr} {es : List Expr} {ta : TA}
theorem run_G {pins : List (Addr × Obj)} {σ : L2.St} {H : Hp} {st : Shared} {Q : VK} {us : List Value} {xs : List V} (G : FnG X.prog X.w X.K X.mg X.base lev at_ fd ps pr) (hr : Room lev X.A) (hn : NoRep X.A) (hb : Binds X.K fd ps [])
    (I : Inv X pins σ H st) (rel : Vals xs us) (hp : pr xs H Q E0) : wpAny (model X.prog X.w) X.A (call (.ref at_) us) (EP X pins σ Q) X.xe st := by
  have sz : us.length = ps.length := by rw [← rel.length]; exact G.size _ _ _ _ hp
  have bnd := hb st us I.kIn (by rw [List.append_nil]; exact sz)
  rw [List.append_nil] at bnd
  refine wpAny_call (codeAny_mono (G.go X.A X.stack st H ⟨us, []⟩ us xs Q E0 hr hn I.env0 bnd rel hp) fun r s2 hq => ?_)
  cases r with
  | error er => exact False.elim hq
  | ok fl =>
    cases fl with
    | ret u => exact I.after hq
    | next => exact False.elim hq
    | brk => exact False.elim hq
    | cont => exact False.elim hq
/-- f(e, ..) of such a def -/
theorem pe_callG (G : FnG X.prog X.w X.K X.mg X.base lev at_ fd ps pr) (hr : Room lev X.A) (hn : NoRep X.A) (hg : Gl X x) (hm : X.mg x = some (.ref at_)) (kp : PySem.W.keepIn X.K (.ref at_) = true) (hb : Binds X.K fd ps [])
    (ha : PA X (e :: es) ta) (hdb : (x == ("__debug__" : Str)) = false := by decide) (he : starEach (e :: es) X.env = (false, eval e X.env) :: starEach es X.env := by rfl)
    (hpl : (backTo pos (starEach es X.env)).any (·.1) = false := by rfl) : PE X (.Call (.Name x p) (e :: es) [] pos) (tCall pr [] E0 ta) := by
  refine ⟨fun pins st σ H Q I h => wpAny_Call_Name_kw (ld_glob I hg hm ?_ hdb)⟩
  refine PySem.W.callWith_K (h₀ := X.base) I.ok.mod.kin kp (thn (ha.run pos pins st σ H _ I h) fun us s1 ⟨xs, H1, I1, rel, q⟩ => ⟨I1.kIn, ?_⟩) he hpl
  exact run_G G hr hn hb I1 rel (by rw [← List.append_nil xs]; exact q)
theorem pe_callG0 (G : FnG X.prog X.w X.K X.mg X.base lev at_ fd ps pr) (hr : Room lev X.A) (hn : NoRep X.A) (hg : Gl X x) (hm : X.mg x = some (.ref at_)) (kp : PySem.W.keepIn X.K (.ref at_) = true) (hb : Binds X.K fd ps [])
    (hdb : (x == ("__debug__" : Str)) = false := by decide) : PE X (.Call (.Name x p) [] [] pos) (tCall pr [] E0 tNil) := by
  refine ⟨fun pins st σ H Q I h => wpAny_Call_Name_kw (ld_glob I hg hm ?_ hdb)⟩
  exact PySem.W.callWith_K0 I.kIn kp (run_G (us := []) (xs := []) G hr hn hb I .nil h)
end

/-! ### repr of data -/
mutual
/-- v is the datum d, met through the lists at ls: as Dp, and dicts with int and text keys -/
inductive Dq (K : PySem.W.Frag) (H : Hp) : V → PyData → List Addr → Prop
  | non : Dq K H .non .none []
  | bl (b : Bool) : Dq K H (.bl b) (.bool b) []
  | int (i : Int) : Dq K H (.int i) (.int i) []
  | str (z : Str) : Dq K H (.str z) (.str z) []
  | lst {a : Addr} {xs : List V} {ds : List PyData} {ls : List Addr} : SqL K H a xs → Dqs K H xs ds ls → Dq K H (.ref a) (.list ds) (a :: ls)
  | tup {a : Addr} {xs : List V} {ds : List PyData} {ls : List Addr} : SqT K H a xs → Dqs K H xs ds ls → Dq K H (.ref a) (.tuple ds) ls
  | dic {a : Addr} {kvs : List (Key × V)} {ds : List (PyData × PyData)} {l1 l2 : List Addr} : H a = some (.dK kvs) → Dqs K H (kvs.map fun p => kV p.1) (ds.map (·.1)) l1 → Dqs K H (kvs.map (·.2)) (ds.map (·.2)) l2 → Dq K H (.ref a) (.dict ds) (l1 ++ l2)
inductive Dqs (K : PySem.W.Frag) (H : Hp) : List V → List PyData → List Addr → Prop
  | nil : Dqs K H [] [] []
  | cons {v : V} {vs : List V} {d : PyData} {ds : List PyData} {l1 l2 : List Addr} : Dq K H v d l1 → Dqs K H vs ds l2 → Dqs K H (v :: vs) (d :: ds) (l1 ++ l2)
end
theorem kv_vals : ∀ {kvs : List (Key × V)} {us : List (Key × Value)} {P : Program} {w : World} {es : List DictEntry}, KV kvs us → Pairs (mixKind P w) es us → Vals (kvs.map (·.2)) (es.map (·.val)) ∧ Vals (kvs.map fun p => kV p.1) (es.map (·.key))
  | [], _, _, _, _, .nil, .nil => ⟨.nil, .nil⟩
  | (k, v) :: r, _, _, _, _, .cons (b := (k', u)) h t, .cons (e := e) he hv q => by
    obtain ⟨r1, r2⟩ := kv_vals t q
    obtain ⟨e1, e2⟩ := h
    have e1' : k = k' := e1
    subst e1'
    refine ⟨.cons (show RelV v e.val from by rw [hv]; exact e2) r1, .cons ?_ r2⟩
    rcases keyIs_shape (show keyIs k e.key = true from he) with ⟨i, t, rfl, z⟩ | ⟨x, t, rfl, z⟩
    · exact ⟨t, z⟩
    · exact ⟨t, z⟩
section
variable {X : Cx} {pins : List (Addr × Obj)} {σ : L2.St} {H : Hp} {st : Shared}
/-- what stands behind such a datum, as the library reads it -/
def Sees (h : Heap) (u : Value) (d : PyData) (ls : List Addr) : Prop := ∃ as, Reads h u d as ∧ ∀ a ∈ as, a ∈ ls ∨ (a == sysModules) = false
def SeesAll (h : Heap) (us : List Value) (ds : List PyData) (ls : List Addr) : Prop := ∃ as, ReadsAll h us ds as ∧ ∀ a ∈ as, a ∈ ls ∨ (a == sysModules) = false
mutual
theorem Dq.sees (I : Inv X pins σ H st) : ∀ (v : V) (d : PyData) (ls : List Addr) (u : Value), Dq X.K H v d ls → RelV v u → Sees st.heap u d ls
  | _, _, _, _, .non, r => by
    cases r
    exact ⟨_, .none, fun _ z => nomatch z⟩
  | _, _, _, _, .bl b, r => by
    cases r
    exact ⟨_, .bool b, fun _ z => nomatch z⟩
  | _, _, _, _, .int i, r => by
    obtain ⟨t, rfl⟩ := r
    exact ⟨_, .int i t, fun _ z => nomatch z⟩
  | _, _, _, _, .str z, r => by
    obtain ⟨t, rfl⟩ := r
    exact ⟨_, .str z t, fun _ z => nomatch z⟩
  | _, _, _, _, .lst (a := a) hq hs, r => by
    obtain rfl := (show _ = Value.ref a from r)
    obtain ⟨its, rv, ⟨o, n, ho, hc, _, hd⟩, _⟩ := I.list hq
    obtain ⟨as, ra, ha⟩ := Dqs.sees I _ _ _ _ hs rv
    exact ⟨_, .list ho hc hd ra, fun b hb => (List.mem_cons.mp hb).elim (fun z => .inl (z ▸ List.mem_cons_self)) fun z => (ha b z).imp (List.mem_cons_of_mem _) id⟩
  | _, _, _, _, .tup (a := a) hq hs, r => by
    obtain rfl := (show _ = Value.ref a from r)
    obtain ⟨its, rv, ⟨o, ho, hc, n, hd⟩, _⟩ := I.tuple hq
    obtain ⟨as, ra, ha⟩ := Dqs.sees I _ _ _ _ hs rv
    exact ⟨_, .tuple ho hc hd ra, ha⟩
  | _, _, _, _, .dic (a := a) (kvs := kvs) ha hk hv, r => by
    obtain rfl := (show _ = Value.ref a from r)
    obtain ⟨_, hm, us, kv, o, es, ep, ho, hx, hd, _, hp, _⟩ := (show ObjOk X.prog X.w H st.heap a (.dK kvs) from I.hok a _ ha)
    obtain ⟨rv, rk⟩ := kv_vals kv hp
    obtain ⟨as, r1, h1⟩ := Dqs.sees I _ _ _ _ hk rk
    obtain ⟨bs, r2, h2⟩ := Dqs.sees I _ _ _ _ hv rv
    refine ⟨_, .dict ho hx.1 hd r1 r2, fun b hb => ?_⟩
    rcases List.mem_append.mp hb with hb | hb
    · rcases List.mem_cons.mp hb with rfl | hb
      · exact .inr hm
      · exact (h1 b hb).imp (List.mem_append_left _) id
    · exact (h2 b hb).imp (List.mem_append_right _) id
theorem Dqs.sees (I : Inv X pins σ H st) : ∀ (vs : List V) (ds : List PyData) (ls : List Addr) (us : List Value), Dqs X.K H vs ds ls → Vals vs us → SeesAll st.heap us ds ls
  | _, _, _, _, .nil, .nil => ⟨_, .nil, fun _ z => nomatch z⟩
  | _, _, _, _, .cons h t, .cons r rs => by
    obtain ⟨as, r1, h1⟩ := Dq.sees I _ _ _ _ h r
    obtain ⟨bs, r2, h2⟩ := Dqs.sees I _ _ _ _ t rs
    refine ⟨_, .cons r1 r2, fun b hb => ?_⟩
    rcases List.mem_append.mp hb with hb | hb
    · exact (h1 b hb).imp (List.mem_append_left _) id
    · exact (h2 b hb).imp (List.mem_append_right _) id
end
end
section
variable {X : Cx}
/-- repr(v), v a datum -/
def rRepr (K : PySem.W.Frag) : List V → Hp → VK → Prop := fun xs H Q => ∃ (v : V) (d : PyData) (ls : List Addr), xs = [v] ∧ Dq K H v d ls ∧ (d.hasDict = true → sysModules ∉ ls) ∧ d.showable = true ∧ d.depth ≤ 60 ∧ d.shown.length ≤ sizeLine ∧ Q (.str d.shown) H
theorem call_repr (hn : NoRep X.A) (hu : X.A.units + 64 < cLine) : CallR X (.builtin "repr") (rRepr X.K) := by
  intro pins st σ H xs us Q I r h
  obtain ⟨v, d, ls, rfl, hd, hs, sh, dp, sz, q⟩ := h
  obtain ⟨u, rfl, ru⟩ := vals1 r
  obtain ⟨as, rd, ha⟩ := Dq.sees I v d ls u hd ru
  have no : d.hasDict = true → sysModules ∉ as := fun z hm => by
    rcases ha _ hm with k | k
    · exact hs z k
    · exact absurd (beq_self_eq_true sysModules) (by rw [k]; exact Bool.false_ne_true)
  have fin : ∀ {tk tk2 : Nat} {h' : Heap}, (∀ b o, st.heap.get? b = some o → h'.get? b = some o) → EP X pins σ Q (.str d.shown tk) { st with heap := h', toks := tk2 } := fun k => ⟨.str _, H, I.kept k, ⟨_, rfl⟩, q⟩
  cases hd with
  | non =>
    obtain rfl := (show u = Value.none from ru)
    exact PySem.P.repr_of_none (fin (h' := st.heap) fun _ _ z => z)
  | bl b =>
    obtain rfl := (show u = Value.bool b from ru)
    exact PySem.P.repr_of_bool (fin (h' := st.heap) fun _ _ z => z)
  | int i =>
    obtain ⟨t, rfl⟩ := (show ∃ t, u = Value.int i t from ru)
    exact PySem.P.repr_of_int (of_decide_eq_true sh) (fin (h' := st.heap) fun _ _ z => z)
  | str z =>
    obtain ⟨t, rfl⟩ := (show ∃ t, u = Value.str z t from ru)
    exact PySem.P.repr_of_str (fin (h' := st.heap) fun _ _ z => z) sz
  | lst hq hx =>
    obtain rfl := (show u = Value.ref _ from ru)
    exact repr_of_reads' rd sh no hn (by omega) (fun _ _ z => z) (fun h' _ _ k => fin k) sz
  | tup hq hx =>
    obtain rfl := (show u = Value.ref _ from ru)
    exact repr_of_reads' rd sh no hn (by omega) (fun _ _ z => z) (fun h' _ _ k => fin k) sz
  | dic hq hk hv =>
    obtain rfl := (show u = Value.ref _ from ru)
    exact repr_of_reads' rd sh no hn (by omega) (fun _ _ z => z) (fun h' _ _ k => fin k) sz
end
end Xa
/-! Own ground, part B: exceptions of own classes over an own WatchError: made, raised, caught and kept, their field, isinstance. -/
namespace Xb
open PySem PySem.Spec PyProof.Rows L2 Xa

/-! ### what the text says of a class -/
/-- C is such a class: its instances' field is called f -/
structure XCls (K : PySem.W.Frag) (C : Addr) (f : Str) : Prop where
  oex : OexC K C
  xf : XfC K C
  isx : ExcC K C
  nof : PySem.W.findIn K (.ref C) f = some none
def ocB (K : PySem.W.Frag) (C : Addr) : Bool := match K.lookup C with
  | some ⟨.type "type", _, .cls ⟨_, _, .ref C2 :: bm, _, _, true, _, _, _, _, false⟩, ⟨[_, _, _, _, some (.builtin n), _]⟩⟩ => C2 == C && (n == "ValueError.__new__" && HandSPX.refsVE bm)
  | _ => false
theorem ocB_ok {K : PySem.W.Frag} {C : Addr} (h : ocB K C = true) : ∃ nm q N bs bm sn sub ab col dd k0 k1 k2 k3 k5, K.lookup C = some (excClassObj nm q C N bs bm true sn sub ab col dd k0 k1 k2 k3 k5 "ValueError.__new__") ∧ HandSPX.refsVE bm = true := by
  unfold ocB at h
  split at h
  · rename_i e
    obtain ⟨h1, h2⟩ := He.ba h
    obtain ⟨h3, h4⟩ := He.ba h2
    have e1 := beq_iff_eq.mp h1
    have e2 := beq_iff_eq.mp h3
    subst e1 e2
    exact ⟨_, _, _, _, _, _, _, _, _, _, _, _, _, _, _, e, h4⟩
  · cases h
def vEq (a b : Option (Option Value)) : Bool := decide (a = b)
def xclsB (K : PySem.W.Frag) (C : Addr) (f : Str) : Bool := ocB K C && (He.eqO (PySem.W.findIn K (.ref C) "__setattr__") (some (some (.builtin "object.__setattr__"))) && (decide (PySem.W.subIn K (.ref C) (.type "BaseException") = some true) &&
  (decide (PySem.W.typeIn K (.ref C) = some (.type "type")) && (PySem.W.keepIn K (.ref C) && (xfB K C && (He.eqO (PySem.W.findIn K (.ref C) "__class__") (some (some (.builtin "object.__class__"))) &&
  (He.eqO (PySem.W.specialIn K (.builtin "object.__class__") "__get__") (some (some (.builtin "getset_descriptor.__get__"))) && (decide (PySem.W.takesIn K (.builtin "object.__class__") = some true) && (decide (PySem.W.mroIn K C (.type "object") = some true) &&
  He.eqO (PySem.W.findIn K (.ref C) f) (some none))))))))))
theorem xcls_ok {K : PySem.W.Frag} {C : Addr} {f : Str} (h : xclsB K C f = true) : XCls K C f := by
  obtain ⟨h1, h⟩ := He.ba h
  obtain ⟨h2, h⟩ := He.ba h
  obtain ⟨h3, h⟩ := He.ba h
  obtain ⟨h4, h⟩ := He.ba h
  obtain ⟨h5, h⟩ := He.ba h
  obtain ⟨h6, h⟩ := He.ba h
  obtain ⟨h7, h⟩ := He.ba h
  obtain ⟨h8, h⟩ := He.ba h
  obtain ⟨h9, h⟩ := He.ba h
  obtain ⟨h10, h11⟩ := He.ba h
  have x := xfB_ok h6
  exact ⟨⟨ocB_ok h1, He.eqO_ok h2, of_decide_eq_true h3, of_decide_eq_true h4, h5⟩, x, ⟨x.ga, x.gg, x.exC, x.hdC, He.eqO_ok h7, He.eqO_ok h8, of_decide_eq_true h9, of_decide_eq_true h10⟩, He.eqO_ok h11⟩

/-! ### an exception as a tracked thing -/
/-- at a: an exception of the class at C, its own dict at d -/
def xob (a C d : Addr) : HO := .ext fun h => ∃ (oe : Obj) (vs : Array Value), h.get? a = some oe ∧ oe.cls = .ref C ∧ oe.dict = some d ∧ oe.data = .fields vs
theorem xob_ok {P : Program} {w : World} {H : Hp} {h : Heap} {a C d : Addr} {oe : Obj} (e : h.get? a = some oe) (c : oe.cls = .ref C) (hd : oe.dict = some d) (hf : ∃ vs, oe.data = .fields vs) : ObjOk P w H h a (xob a C d) := by
  obtain ⟨vs, hf⟩ := hf
  exact ⟨⟨oe, vs, e, c, hd, hf⟩, ⟨oe, e⟩, fun _ _ z k => let ⟨o, v, q, r⟩ := z; ⟨o, v, k o q, r⟩⟩
section
variable {X : Cx} {pins : List (Addr × Obj)} {σ : L2.St} {H : Hp} {st : Shared}
theorem xob_inst {a C d : Addr} {fs : List (Str × V)} (I : Inv X pins σ H st) (ha : H a = some (xob a C d)) (hd : H d = some (.xd fs)) :
    ∃ (ox od : Obj) (mA : Str → Option Value), PySem.W.InstAt st.heap a ox C (some od) ∧ (∀ n, PySem.W.lookIn n od = some (mA n)) ∧ ∀ n, RelO (fs.lookup n) (mA n) := by
  obtain ⟨⟨oe, vs, e, c, ed, ef⟩, _⟩ := (show ObjOk X.prog X.w H st.heap a (xob a C d) from I.hok a _ ha)
  obtain ⟨mA, hns, hr⟩ := (show ObjOk X.prog X.w H st.heap d (.xd fs) from I.hok d _ hd)
  obtain ⟨od, ho, hl⟩ := lookIn_ns hns
  exact ⟨oe, od, mA, ⟨e, c, by unfold PySem.W.notCls; rw [ef] <;> rfl, by rw [ed]; exact ho⟩, hl, hr⟩
end
/-- e.f, an exception's field -/
def tXv (K : PySem.W.Frag) (f : Str) (te : TE) : TE := fun σ H Q => te σ H fun x H1 => ∃ (a C d : Addr) (fs : List (Str × V)) (v : V), x = .ref a ∧ H1 a = some (xob a C d) ∧ H1 d = some (.xd fs) ∧ XCls K C f ∧ fs.lookup f = some v ∧ Q v H1
/-- isinstance(e, c), e such an exception -/
def rIsx (K : PySem.W.Frag) : List V → Hp → VK → Prop := fun xs H Q => ∃ (a C d : Addr) (fs : List (Str × V)) (c : V) (cv : Value) (b : Bool), xs = [.ref a, c] ∧ H a = some (xob a C d) ∧ H d = some (.xd fs) ∧ ExcC K C ∧ ClsV c cv ∧ PySem.W.kitOne K (.ref C) cv = some b ∧ Q (.bl b) H
section
variable {X : Cx} {e : Expr} {te : TE} {pos : Pos} {f : Str}
theorem pe_xv (he : PE X e te) (hb : attributeBase e f X.env (eval e X.env) = eval e X.env := by rfl) : PE X (.Attribute e f pos) (tXv X.K f te) := by
  refine ⟨fun pins st σ H Q I h => attr_of hb (thn (he.run pins st σ H _ I h) fun u s1 ⟨x, H1, I1, rx, a, C, d, fs, v, ex, ea, ed, T, l, q⟩ => ?_)⟩
  subst ex
  obtain rfl : u = Value.ref a := rx
  obtain ⟨ox, od, mA, J, hl, hr⟩ := xob_inst I1 ea ed
  obtain ⟨u, hu, ru⟩ := RelO.some_of (v := v) (o := mA f) (by rw [← l]; exact hr f)
  exact HandSPX.exc_get I1.kIn J T.xf.ga T.xf.gg T.xf.exC (PySem.W.findObj_own T.xf.hdC T.nof rfl (by rw [hl, hu])) (handed_of ru) ⟨v, H1, I1.tok _, ru, q⟩
theorem call_isx : CallR X (.builtin "isinstance") (rIsx X.K) := by
  intro pins st σ H xs us Q I r h
  obtain ⟨a, C, d, fs, c, cv, b, rfl, ha, hd, T, k, e, q⟩ := h
  obtain ⟨u1, u2, rfl, r1, r2⟩ := vals2 r
  have e2 := k.eq r2
  subst e2
  obtain rfl := (show u1 = Value.ref a from r1)
  obtain ⟨ox, od, mA, J, _, _⟩ := xob_inst I ha hd
  have hc : (PySem.W.clsIn X.K C).isSome = true := by
    obtain ⟨cd, hcd, _⟩ := PySem.W.any_some T.hd
    rw [hcd]
    rfl
  exact PySem.W.kia_one (PySem.W.kitx_exc hc T.hg T.hk T.hs T.ha T.hn T.ht T.hm) I.kIn J e (fun z => nomatch z) fun tk => ⟨.bl b, H, I.tok tk, rfl, q⟩
end

/-! ### WatchError.__init__(self, ..), within the __init__ of a class over it -/
structure WBase (K : PySem.W.Frag) (mg : Str → Option Value) (wn : Str) : Prop where
  ex : ∃ (W : Addr) (mc : Value), mg wn = some (.ref W) ∧ PySem.W.readsIn K W mc = true ∧ PySem.W.specialIn K (.ref W) "__getattribute__" = some (some (.builtin "type.__getattribute__")) ∧
    PySem.W.findCls K (.ref W) mc "__init__" = some (.val (.builtin "ValueError.__init__"))
section
variable {X : Cx} {e : Expr} {es : List Expr} {ta : TA} {wn : Str} {p1 p2 pos : Pos}
theorem pe_winit {pl : Sem Bool} (hg : Gl X wn) (T : WBase X.K X.mg wn) (ha : PA X (e :: es) ta) (hdb : (wn == ("__debug__" : Str)) = false := by decide)
    (hc : eval (.Call (.Attribute (.Name wn p1) "__init__" p2) (e :: es) [] pos) X.env = (do
      let ov ← eval (.Name wn p1) X.env
      standAt p2.atName
      let (g, fst) ← holding [ov] (getMethod ov "__init__" pl)
      callWith pos g fst (backTo pos (starEach (e :: es) X.env)) (backToKw pos (keywordEach [] X.env))) := by rfl)
    (he : starEach (e :: es) X.env = (false, eval e X.env) :: starEach es X.env := by rfl) (hpl : (backTo pos (starEach es X.env)).any (·.1) = false := by rfl) :
    PE X (.Call (.Attribute (.Name wn p1) "__init__" p2) (e :: es) [] pos) (tVeI X.K ta) := by
  obtain ⟨W, mc, gW, rd, ga, fc⟩ := T.ex
  refine ⟨fun pins st σ H Q I h => PySem.W.methodCall_KW (ld_glob I hg gW ?_ hdb) hc⟩
  refine PySem.W.method_cls I.kIn ga (PySem.W.cls_value I.kIn rd fc rfl ?_)
  show wpAny _ _ (callWith pos (Value.builtin "ValueError.__init__") [] (backTo pos (starEach (e :: es) X.env)) []) _ _ _
  refine PyProof.Rows.callWith_method1 (thn (ha.run pos pins _ σ H _ (I.tok _) h) fun us s1 ⟨xs, H1, I1, rel, a, C, ws, ev, hl, Tc, ea, q⟩ => ?_) he hpl
  subst ev
  cases rel with
  | @cons _ u0 _ ur ra rw' =>
    obtain rfl : u0 = Value.ref a := ra
    have hlen : ur.length ≤ sizeLine := by
      rw [← Paired.length rw', sizeLine_eq]
      omega
    exact oinit_ok Tc I1 ea hlen fun s2 J => ⟨.non, H1, J, rfl, q⟩
end
end Xb
/-! Own ground, part C: such exceptions raised, caught and kept. -/
namespace Xc
open PySem PySem.Spec PyProof.Rows L2 Xa Xb

/-- a reading closed under weaker wishes -/
def tUp (te : TE) : TE := fun σ H Q => ∃ Q0 : VK, te σ H Q0 ∧ ∀ v H1, Q0 v H1 → Q v H1
theorem pe_up {X : Cx} {e : Expr} {te : TE} (he : PE X e te) : PE X e (tUp te) :=
  ⟨fun pins st σ H Q I ⟨Q0, h, k⟩ => thn (he.run pins st σ H Q0 I h) fun _ _ ⟨v, H1, I1, r, q⟩ => ⟨v, H1, I1, r, k v H1 q⟩⟩

/-! ### __init__ -/
/-- what __init__ of such a class promises -/
def spXi (C : Addr) (f : Str) : Sp := fun xs H Q _ => ∃ (a : Addr) (v : V), xs = [.ref a, v] ∧ H a = some (exo a C none) ∧ ∀ dx, H dx = none → dx ≠ a → Q .non (upd (upd H dx (exd dx [(f, v)])) a (exo a C (some dx)))
def xiBody (msg f : Str) (k : Nat) (p1 p2 p3 p4 p5 p6 p7 p8 p9 p10 : Pos) : List Stmt :=
  [.Expr (.Call (.Attribute (.Name "WatchError" p1) "__init__" p2) [.Name "self" p3, .Constant (.str msg) k p4] [] p5) p6, .Assign [.Attribute (.Name "self" p7) f p8] (.Name f p9) p10]
/-- how the call of WatchError.__init__ is run there (rfl at each class) -/
def XiRun (qual : Str) (scope : Scope) (msg : Str) (k : Nat) (p1 p2 p3 p4 p5 : Pos) : Prop := ∀ (n g : Addr) (cdv : Value), ∃ pl : Sem Bool,
  eval (.Call (.Attribute (.Name "WatchError" p1) "__init__" p2) [.Name "self" p3, .Constant (.str msg) k p4] [] p5) (envOfC qual scope n g cdv) = (do
    let ov ← eval (.Name "WatchError" p1) (envOfC qual scope n g cdv)
    standAt p2.atName
    let (m, fst) ← holding [ov] (getMethod ov "__init__" pl)
    callWith p5 m fst (backTo p5 (starEach [.Name "self" p3, .Constant (.str msg) k p4] (envOfC qual scope n g cdv))) (backToKw p5 (keywordEach [] (envOfC qual scope n g cdv))))
theorem ok_xi {P : Program} {w : World} {K : PySem.W.Frag} {mg : Str → Option Value} {base : Heap} {C fI : Addr} {fd : FuncData} {qual msg f : Str} {params : Arguments} {scope : Scope} {dvs : List V} {k : Nat} {p1 p2 p3 p4 p5 p6 p7 p8 p9 p10 : Pos}
    (F : FunD K "__init__" qual params (xiBody msg f k p1 p2 p3 p4 p5 p6 p7 p8 p9 p10) scope dvs [] fI fd) (S : FnScope ["self", f] ["self", f] scope) (T : XCls K C f) (B : WBase K mg "WatchError")
    (hs : scope.names.lookup ("self" : Str) = some .local) (hf : scope.names.lookup f = some .local) (hw : scope.names.lookup ("WatchError" : Str) = some .globalImplicit) (run : XiRun qual scope msg k p1 p2 p3 p4 p5) (f1 : (f == ("__debug__" : Str)) = false) (f2 : (f == ("__classdict__" : Str)) = false) :
    FnOk P w K mg base CX0 1 fI fd ["self", f] (spXi C f) := by
  refine F.ok S (fun xs H Q E h => ?_) (fun cdv A outer s H vs Q E hr h => ?_)
  · obtain ⟨a, v, rfl, _⟩ := h
    rfl
  · obtain ⟨a, v, rfl, ha, q⟩ := h
    obtain ⟨pl, hc⟩ := run s.heap.objs.size fI cdv
    refine ⟨_, PSs.nox (pss_cons (ps_expr (pe_winit (pl := pl) hw B (pa_cons (pe_var (i := 0) rfl (.inl hs)) (pa_cons pe_str pa_nil)) (by decide) hc)) (pss_one (ps_ost (pe_var (i := 0) rfl (.inl hs)) (pe_var (i := 1) rfl (.inl hf) f1 f2)))), ?_⟩
    refine ⟨_, rfl, a, C, [.str msg], rfl, (by show 1 ≤ 1000; decide), T.oex, ha, ?_⟩
    exact ⟨_, rfl, _, rfl, a, C, rfl, T.oex, T.nof, .inl ⟨ha, fun dx n ne => q dx n ne⟩⟩

/-! ### raise C(e) -/
/-- the class is known by the name x, its __init__ stands at fI -/
structure XMake (P : Program) (w : World) (K : PySem.W.Frag) (mg : Str → Option Value) (base : Heap) (x : Str) (C : Addr) (f : Str) : Prop where
  cls : XCls K C f
  glo : mg x = some (.ref C)
  ini : ∃ (fI : Addr) (fd : FuncData), PySem.W.findIn K (.ref C) "__init__" = some (some (.ref fI)) ∧ PySem.W.typeIn K (.ref fI) = some (.type "function") ∧ FnOk P w K mg base CX0 1 fI fd ["self", f] (spXi C f) ∧ Binds K fd ["self", f] []
def tRz (C : Addr) (f : Str) (W : WX) (te : TE) : TS := fun _ σ H => te σ H fun v H1 => ∀ d, H1 d = none → W (.ref C) (some d) σ (upd H1 d (.xd [(f, v)]))
theorem new_heap {H : Hp} {a C d : Addr} {f : Str} {v : V} (ha : H a = none) (hd : d ≠ a) :
    upd (del (upd (upd (upd H a (exo a C none)) d (exd d [(f, v)])) a (exo a C (some d))) a) d (.xd [(f, v)]) = upd H d (.xd [(f, v)]) := by
  funext b
  by_cases h1 : b = d
  · rw [h1, upd_same, upd_same]
  · rw [upd_ne h1, upd_ne h1]
    by_cases h2 : b = a
    · rw [h2, del_same, ha]
    · rw [del_ne h2, upd_ne h2, upd_ne h1, upd_ne h2]
theorem ps_rz {X : Cx} {x f : Str} {C : Addr} {W : WX} {e : Expr} {te : TE} {p pos pos2 : Pos} (hc : X.calm = true) (M : XMake X.prog X.w X.K X.mg X.base x C f) (hr : Room 2 X.A) (tk : Takes X W) (hg : Gl X x) (he : PE X e te)
    (hdb : (x == ("__debug__" : Str)) = false := by decide) (hst : starEach [e] X.env = (false, eval e X.env) :: starEach [] X.env := by rfl) (hpl : (backTo pos (starEach [] X.env)).any (·.1) = false := by rfl) :
    PS X (.Raise (some (.Call (.Name x p) [e] [] pos)) none pos2) (tRz C f W te) := by
  obtain ⟨fI, fd, i1, i2, F, b⟩ := M.ini
  have R := ps_raise (pos := pos2) hc tk (pmk_oex (p := p) (pos := pos) (k := 1) M.cls.oex i1 i2 F hr b .nil pass0 hg M.glo (pa_cons (pe_up he) pa_nil hst) hdb hst hpl)
  refine ⟨fun pins st σ H D I h => R.run pins st σ H D I ⟨_, h, fun v H1 q => ⟨(by show 1 ≤ 1000; decide), fun a na => ⟨a, v, rfl, upd_same, fun dx ndx ne => ⟨rfl, dx, [(f, v)], upd_same, ?_, ?_, ?_⟩⟩⟩⟩⟩
  · rw [upd_ne ne, upd_same]
  · rw [upd_ne ne] at ndx
    exact ndx
  · rw [new_heap na ne]
    rw [upd_ne ne] at ndx
    exact q dx ndx
end Xc
/-! Own ground, part D: try: body / except X as n: c = n, the exception kept and tracked. -/
namespace Xd
open PySem PySem.Spec PyProof.Rows L2 Xa Xb Xc

section
variable {X : Cx} {pins : List (Addr × Obj)} {σ : L2.St} {H : Hp} {st : Shared} {a C d : Addr} {oe : Obj}
/-- a pinned exception, new since the entry, is tracked from here on -/
theorem track (I : Inv X ((a, oe) :: pins) σ H st) (n0 : X.s_0.heap.get? a = none) (np : ∀ p ∈ X.pn ++ pins, p.1 ≠ a) (hc : oe.cls = .ref C) (hd : oe.dict = some d) (hf : ∃ vs, oe.data = .fields vs) : Inv X pins σ (upd H a (xob a C d)) st := by
  obtain ⟨ha, hn, hL, hF, hcell⟩ := I.pin (a, oe) (List.mem_append_right _ List.mem_cons_self)
  have n1 : ∀ b o, X.s_0.heap.get? b = some o → b ≠ a := fun b o z q => by rw [q, n0] at z; cases z
  refine ⟨I.ok, I.os, I.bare, ⟨I.base.keep, I.base.slot, fun b o z n hx => ?_, I.base.there, fun b xs z => ?_, fun b o u z => ?_, fun b ps z => ?_⟩, I.loc, I.cell, ?_, fun x c z => ?_, fun p hp => ?_, ?_, I.len⟩
  · rw [upd_ne (n1 b o z)]
    exact I.base.free b o z n hx
  · have q := I.base.tups b xs z
    rw [upd_ne (ne_of_none q hn)]
    exact q
  · have q := I.base.frzs b o u z
    rw [upd_ne (ne_of_none q hn)]
    exact q
  · obtain ⟨m, q⟩ := I.base.tbls b ps z
    exact ⟨m, by rw [upd_ne (ne_of_none q hn)]; exact q⟩
  · rw [upd_ne (Ne.symm hL)]
    exact I.free
  · have q : c ≠ a := fun e => by
      obtain ⟨v, o, ho, hv⟩ := I.cell x c z
      rw [e, ha] at ho
      exact hcell v (by rw [Option.some.inj ho]; exact hv)
    rw [upd_ne q]
    exact I.freeC x c z
  · have q : p ∈ X.pn ++ (a, oe) :: pins := by
      rcases List.mem_append.mp hp with z | z
      · exact List.mem_append_left _ z
      · exact List.mem_append_right _ (List.mem_cons_of_mem _ z)
    obtain ⟨k1, k2, k3⟩ := I.pin p q
    exact ⟨k1, by rw [upd_ne (np p hp)]; exact k2, k3⟩
  · exact I.hok.laidN (fun _ _ z => z) hn (xob_ok ha hc hd hf)
end

/-- what the clause wishes of an exception of the body: n stands in slot i, c in slot j -/
def wKeep (K : PySem.W.Frag) (cv : Value) (i j : Nat) (D : Ends) : WX := fun cls d σ H => ∃ C dx : Addr, cls = .ref C ∧ d = some dx ∧ PySem.W.exmOne K cls cv = some true ∧ ∀ a, H a = none → D.nx (((σ.set i (some (.ref a))).set j (some (.ref a))).set i none) (upd H a (xob a C dx))
section
variable {X : Cx} {x n : Str} {cv : Value} {i j : Nat} {body : List Stmt} {keep : Stmt} {np hp pos : Pos} {tb : WX → TS}
theorem ps_keep (hs : X.stack = X.env :: X.outer) (hf : X.env.frame = some X.env.locals) (hex : X.ex = []) (nd : X.N.Nodup) (hi : X.N[i]? = some n) (hln : X.env.kindOf n = some .local) (hlen : i < X.N.length) (hc : Names X x cv)
    (hb : ∀ (W : WX) (pn : List (Addr × Obj)) (xe : Value → Shared → Prop), Takes (X.tr pn xe) W → PassesOwn (model X.prog X.w) X.A X.env xe → PSs (X.tr pn xe) body (tb W))
    (hk : ∀ (a : Addr) (pn : List (Addr × Obj)), PSs (X.suite a pn) [keep] (tAsg (tVar i) (gName j))) :
    PS X (.Try body [.ExceptHandler (some (.Name x np)) (some n) [keep] hp] [] [] pos) (fun D σ H => tb (wKeep X.K cv i j D) D σ H) := by
  refine ⟨fun pins st σ H D I h => ?_⟩
  have ok := I.ok
  have frm : X.A.frames = some (X.env :: X.outer) := by rw [ok.frames, hs]
  refine wpAny_Try_except ?_
  refine wpAny_mono ((hb (wKeep X.K cv i j D) (X.pn ++ pins) (fun u t1 => wpAny (model X.prog X.w) X.A (noteFrame u X.env) (fun _ t2 => wpAny (model X.prog X.w) X.A (setFlight u none) (fun _ t3 =>
    wpAny (model X.prog X.w) X.A (handleBy u X.env [.ExceptHandler (some (.Name x np)) (some n) [keep] hp]) (SP X pins D) X.xe t3) X.xe t2) X.xe t1) (fun u s2 air => ?_) PassesOwn.looking).run [] st σ H D (I.toTry _) h) (fun fl s1 sp => ?_) (fun _ _ z => z)
  · obtain ⟨a, B, sI, pins2, σ2, H2, cls, d, rfl, J0, nb, up, sky, na, os, ag, C, dx, ec, ed, em, go⟩ := air
    subst ec ed
    have J : Inv X pins σ2 H2 sI := J0.ofTry ok
    have sky2 : Sky B (X.env :: X.outer) a (Zc (.ref C) (some dx)) X.env.locals s2.heap := by rw [← hs]; exact sky
    show wpAny (model X.prog X.w) X.A (noteFrame (.ref a) X.env) _ _ _
    refine Sky.land Zc.steady frm hf sky2 fun h3 fl3 up3 => ?_
    have J3 : Inv X pins σ2 H2 { s2 with heap := h3 } := J.landed nb fl3.1 (up.trans up3) os ag
    obtain ⟨o3, v3, g3, z3, d3⟩ := fl3.there
    have off : a ∉ frs (X.env :: X.outer) := fun hm => by
      obtain ⟨_, o', e', hnf⟩ := fl3.2.2.1.mem hm
      rw [g3] at e'
      cases e'
      exact hnf _ d3
    have nL : a ≠ X.env.locals := fun z => off (List.mem_filterMap.mpr ⟨X.env, List.mem_cons_self, by rw [hf, z]⟩)
    have nF : a ∉ X.fs := fun hm => by
      obtain ⟨e, he, q⟩ := List.mem_filterMap.mp hm
      exact off (List.mem_filterMap.mpr ⟨e, List.mem_cons_of_mem _ he, q⟩)
    have offS : ∀ b, b ≠ X.env.locals → b ∉ X.fs → b ∉ frs X.stack := fun b h1 h2 hm => (List.mem_cons.mp (J.stkSub b hm)).elim h1 h2
    have inB : ∀ b o, b ≠ X.env.locals → b ∉ X.fs → sI.heap.get? b = some o → b ≠ a := fun b o h1 h2 z q => by
      have y := nb b o z (offS b h1 h2)
      rw [q, fl3.2.1] at y
      cases y
    have n0 : X.s_0.heap.get? a = none := by
      cases z : X.s_0.heap.get? a with
      | none => rfl
      | some o =>
        obtain ⟨o', y⟩ := J.base.there a o z (by rw [hex]; exact fun k => nomatch k)
        exact absurd rfl (inB a o' nL nF y)
    have npin : ∀ p ∈ X.pn ++ pins, p.1 ≠ a := fun p hp => by
      obtain ⟨k1, _, k3, k4, _⟩ := J.pin p hp
      exact inB p.1 p.2 k3 k4 k1
    have S3 := J3.suite g3 d3 na nL nF
    refine wpAny_handleBy_cons (codeAny_handlers_test ?_) (by intro q; cases q)
    have LT : PySem.W.Looks (model X.prog X.w) h3 (typeOf (.ref a)) (.ref C) := fun _ _ _ _ k q => wpAny_typeOf_ref (k _ _ g3) (by rw [z3.1]; exact q)
    have LM := PySem.W.exm_one (M := model X.prog X.w) (J3.kIn) LT em
    have named : ∀ {Q : Value → Shared → Prop} {E : Value → Shared → Prop}, Q cv { s2 with heap := h3 } → wpAny (model X.prog X.w) (X.A.mark (some (.ref a))) (eval (.Name x np) X.env) Q E { s2 with heap := h3 } := fun {Q E} q => by
      obtain ⟨hg, hdbg, hm | ⟨hm, hv, hnn⟩⟩ := hc
      · exact ld_glob (X := X.suite a ((a, o3) :: (X.pn ++ pins))) S3 hg hm q hdbg
      · exact ld_blt (X := X.suite a ((a, o3) :: (X.pn ++ pins))) S3 hg hm hv q hnn hdbg
    refine named (LM.here ?_)
    refine codeAny_handlers_suite_as ?_
    refine HandSPX.lands_againZ fl3 fun h4 fl4 up4 => ?_
    have J4 : Inv X pins σ2 H2 { s2 with heap := h4 } := J.landed nb fl4.1 ((up.trans up3).trans up4) os ag
    obtain ⟨o4, v4, g4, z4, d4⟩ := fl4.there
    have S4 := J4.suite g4 d4 na nL nF
    refine store_ok (X := X.suite a ((a, o4) :: (X.pn ++ pins))) (v := .ref a) S4 nd hi (.inl hln) rfl (fun s5 S5 => ?_) (.inr hln)
    have hl5 : i < σ2.length := by rw [J.len]; exact hlen
    refine wpAny_mono ((hk a ((a, o4) :: (X.pn ++ pins))).run [] s5 _ H2 { nx := fun σ6 H6 => σ6 = (σ2.set i (some (.ref a))).set j (some (.ref a)) ∧ H6 = H2, rt := fun _ _ => False } S5
      ⟨.ref a, by rw [List.getElem?_set_self hl5], rfl, rfl⟩) (fun fl s6 sp6 => ?_) (fun _ _ z => False.elim z)
    cases fl with
    | next =>
      obtain ⟨σ6, H6, S6, e1, e2⟩ := sp6
      subst e1 e2
      have P6 : Inv X ((a, o4) :: pins) _ H6 s6 := ⟨ok, S6.os, S6.bare, S6.base, S6.loc, S6.cell, S6.free, S6.freeC, fun p hp => S6.pin p (by
        rw [List.append_nil]
        rcases List.mem_append.mp hp with z | z
        · exact List.mem_cons_of_mem _ (List.mem_append_left _ z)
        · rcases List.mem_cons.mp z with z | z
          · rw [z]
            exact List.mem_cons_self
          · exact List.mem_cons_of_mem _ (List.mem_append_right _ z)), S6.hok, S6.len⟩
      exact gone_ok P6 nd hi hln fun s7 J7 => ⟨_, _, track J7 n0 npin z4.1 z4.2 ⟨_, d4⟩, go a na⟩
    | brk => exact let ⟨_, _, _, q⟩ := sp6; False.elim q
    | cont => exact let ⟨_, _, _, q⟩ := sp6; False.elim q
    | ret u => exact let ⟨_, _, _, _, _, q⟩ := sp6; False.elim q
  · cases fl with
    | next => exact let ⟨σ2, H2, J2, q⟩ := sp; wpAny_execs_nil ⟨σ2, H2, J2.ofTry ok, q⟩
    | brk => exact let ⟨σ2, H2, J2, q⟩ := sp; ⟨σ2, H2, J2.ofTry ok, q⟩
    | cont => exact let ⟨σ2, H2, J2, q⟩ := sp; ⟨σ2, H2, J2.ofTry ok, q⟩
    | ret u => exact let ⟨v, σ2, H2, J2, r, q⟩ := sp; ⟨v, σ2, H2, J2.ofTry ok, r, q⟩
end
end Xd
/-! Own ground, part S: sets of tuples of ints that grow: set(), add, in. -/
namespace Xs
open PySem PySem.Spec PyProof.Rows L2 Xa Xb Xc

section
variable {P : Program} {w : World} {A : Around} {E : Value → Shared → Prop} {s : Shared} {a : Addr} {L : List (Addr × List Int)} {es : Array (Int × Value)} {ep : Nat} {t : SetTable}
/-- the c-th place that is looked at -/
abbrev prb (t : SetTable) (h : Int) (c : Nat) : SetTable.Probe := nth t.mask (runAt t.mask (SetTable.bits h % (t.mask + 1)) (SetTable.bits h)) c
theorem prb_clean (t : SetTable) (h : Int) (c : Nat) : (prb t h c).dummy = none := by
  have go : ∀ (n : Nat) (p : SetTable.Probe), p.dummy = none → (nth t.mask p n).dummy = none := fun n => by
    induction n with
    | zero => exact fun _ z => z
    | succ n ih =>
      refine fun p z => ih (adv t.mask p) ?_
      unfold adv
      split <;> exact z
  exact go c _ rfl
theorem prb_on (t : SetTable) (h : Int) (c q : Nat) : nth t.mask (prb t h c) q = prb t h (c + q) := (nth_add t.mask c _ q).symm
/-- what is looked for stands (or doesn't) among the tuples of L: the search of in -/
theorem seek (R : SetTR P w s.heap a L es ep t) {x : Addr} {k : List Int} (hx : IsT P w s.heap k x) (hu : A.units < cLine) {z : Nat} (z1 : z < 10 * SetTable.turns t.mask) (z2 : way t.mask (thash P w k) z ∉ t.place.toList)
    (z3 : ∀ c, c < z → way t.mask (thash P w k) c ∈ t.place.toList) {Q : SetFound → Shared → Prop} (yes : ∀ i, k ∈ L.map (·.2) → Q (.there (some i)) s) (no : k ∉ L.map (·.2) → Q (.free (way t.mask (thash P w k) z) false) s) :
    ∀ (f c : Nat) (at_ : Option SetTable.Probe), at_.getD (t.probeStart (thash P w k)) = prb t (thash P w k) c → c ≤ z → z - c < f →
      (∀ (i : Nat) p, L[i]? = some p → p.2 = k → ∃ c', c ≤ c' ∧ c' < z ∧ t.place.toList[i]? = some (way t.mask (thash P w k) c')) →
      wpAny (model P w) A (setSearchFrom a (.ref x) (thash P w k) false f at_) Q E s := by
  obtain ⟨o, ho, _, hd⟩ := R.ob
  intro f
  induction f with
  | zero => exact fun c _ _ _ hf => absurd hf (Nat.not_lt_zero _)
  | succ f ih =>
    intro c at_ hat hc hf ahead
    rw [setSearchFrom_succ]
    refine wpAny_bind (wpAny_setState_of ho hd R.fits ?_)
    dsimp only
    refine wp_if_neg R.gw ?_
    try refine wpAny_bind (wpAny_pure ?_)
    have go := go_spec t R.tab.ris R.tab.dm (fun i => (es[i]?.map (·.1)).getD 0) (thash P w k) (10 * SetTable.turns t.mask) (z - c) _ (prb_clean t (thash P w k) c) (by omega)
      (fun q hq => by rw [prb_on]; exact z3 (c + q) (by omega)) (by rw [prb_on, show c + (z - c) = z by omega]; exact z2)
    have hash_of : ∀ (i : Nat) p, L[i]? = some p → (es[i]?.map (·.1)).getD 0 = thash P w p.2 := fun i p hp => by rw [R.entry hp] <;> rfl
    rcases go with ⟨q, i, hq, hi, hh, before, met⟩ | ⟨before, met⟩
    · rw [hat, show t.probe _ (thash P w k) (prb t (thash P w k) c) = _ from met]
      dsimp only
      rw [prb_on] at hi
      have hil : i < L.length := by
        have y1 := (List.getElem?_eq_some_iff.mp hi).1
        have y2 := R.tab.sz
        rw [List.length_map] at y2
        rw [Array.length_toList] at y1
        omega
      obtain ⟨p, hp⟩ : ∃ p, L[i]? = some p := ⟨_, List.getElem?_eq_getElem hil⟩
      have pin := List.mem_of_getElem? hp
      have live : t.slot (way t.mask (thash P w k) (c + q)) = .live i := slot_live R.tab.ris hi
      have behind : wpAny (model P w) A (searchRest a (.ref x) (thash P w k) false f es t (way t.mask (thash P w k) (c + q)) i (prb t (thash P w k) (c + (q + 1)))) Q E s := by
        unfold searchRest
        rw [R.entry hp]
        dsimp only
        refine wpAny_bind (wpAny_holding (wpAny_eqBool_tuple hu (R.tup p pin) hx ?_))
        refine wpAny_bind (wpAny_setState_of ho hd R.fits ?_)
        dsimp only
        refine wp_if_neg (by simp) ?_
        try refine wpAny_bind (wpAny_pure ?_)
        rw [sameMem]
        dsimp only
        simp only [if_true, live, R.entry hp]
        refine wpAny_bind (wpAny_isSame_ref_self (wpAny_bind (wpAny_pure ?_)))
        simp only [if_true]
        by_cases e : p.2 = k
        · refine wp_if_pos (by simp [e]) (wpAny_pure (yes i (List.mem_map.mpr ⟨p, pin, e⟩)))
        · refine wp_if_neg (by simp [e]) (ih (c + (q + 1)) _ rfl (by omega) (by omega) fun j r hj hr => ?_)
          obtain ⟨c', y1, y2, y3⟩ := ahead j r hj hr
          refine ⟨c', ?_, y2, y3⟩
          rcases Nat.lt_trichotomy c' (c + q) with y | y | y
          · exact absurd ((hash_of j r hj).trans (congrArg (thash P w) hr)) (before (c' - c) j (by omega) (by rw [prb_on, show c + (c' - c) = c' by omega]; exact y3))
          · rw [y] at y3
            have l2 := slot_live R.tab.ris y3
            rw [live] at l2
            injection l2 with l2
            rw [← l2, hp] at hj
            exact absurd ((congrArg Prod.snd (Option.some.inj hj)).trans hr) e
          · omega
      have nxt : nth t.mask (prb t (thash P w k) c) (q + 1) = prb t (thash P w k) (c + (q + 1)) := prb_on ..
      have plc : (nth t.mask (prb t (thash P w k) c) q).j = way t.mask (thash P w k) (c + q) := congrArg SetTable.Probe.j (prb_on t (thash P w k) c q)
      rw [nxt, plc]
      by_cases led : t.led = true
      · refine wp_if_neg (by simp [led]) ?_
        try refine wpAny_bind (wpAny_pure ?_)
        exact behind
      · refine wp_if_pos (by simp [led]) (wpAny_bind (seen_tup hx (fun y hy => ?_) (wp_if_neg (by decide) ?_)))
        · obtain ⟨e, he, rfl⟩ := List.mem_map.mp hy
          have e1 : e ∈ es.toList := by
            have e2 : e ∈ es ∧ e.1 = thash P w k := by simpa using he
            simpa using e2.1
          rw [R.rows] at e1
          obtain ⟨p2, hp2, rfl⟩ := List.mem_map.mp e1
          exact ⟨p2.2, p2.1, rfl, R.tup p2 hp2⟩
        · try refine wpAny_bind (wpAny_pure ?_)
          exact behind
    · have plc : (nth t.mask (prb t (thash P w k) c) (z - c)).j = way t.mask (thash P w k) z := by
        rw [prb_on, show c + (z - c) = z by omega]
      rw [hat, show t.probe _ (thash P w k) (prb t (thash P w k) c) = _ from met]
      dsimp only
      rw [plc]
      refine wpAny_pure (no fun hm => ?_)
      obtain ⟨p, hp, hk⟩ := List.mem_map.mp hm
      obtain ⟨i, hi, rfl⟩ := List.getElem_of_mem hp
      have hi2 := List.getElem?_eq_getElem hi
      obtain ⟨c', y1, y2, y3⟩ := ahead i _ hi2 hk
      exact before (c' - c) i (by omega) (by rw [prb_on, show c + (c' - c) = c' by omega]; exact y3) ((hash_of i _ hi2).trans (congrArg (thash P w) hk))
theorem seek_all (R : SetTR P w s.heap a L es ep t) {x : Addr} {k : List Int} (hx : IsT P w s.heap k x) (hu : A.units < cLine) {Q : Option Nat → Shared → Prop} (h : ∀ r, r.isSome = decide (k ∈ L.map (·.2)) → Q r s) :
    wpAny (model P w) A (setFind a (.ref x) (thash P w k)) Q E s := by
  obtain ⟨o, ho, _, hd⟩ := R.ob
  have room := R.room
  obtain ⟨z, z1, z2, z3⟩ := R.tab.first (by rw [List.length_map]; omega) (thash P w k)
  have zb : z < 100000 := by
    have : 10 * SetTable.turns t.mask ≤ 1420 := by
      unfold SetTable.turns
      rcases R.tab.mok with e | e | e <;> omega
    omega
  unfold setFind
  rw [show (100000 : Nat) = 99999 + 1 from rfl]
  unfold setFindIn
  refine wpAny_bind (wpAny_setState_of ho hd R.fits ?_)
  dsimp only
  refine wp_if_neg (by simp [byScan, Value.scannable]) ?_
  try refine wpAny_bind (wpAny_pure ?_)
  unfold setSearch
  refine wpAny_bind (seek R hx hu z1 z2 z3 (fun i m => ?_) (fun m => ?_) 100000 0 none rfl (Nat.zero_le _) (by omega) fun i p hp hk => ?_)
  · dsimp only
    exact wpAny_pure (h (some i) (by rw [decide_eq_true m] <;> rfl))
  · dsimp only
    exact wpAny_pure (h none (by rw [decide_eq_false m] <;> rfl))
  · have y1 : (L.map fun p => thash P w p.2)[i]? = some (thash P w k) := by rw [List.getElem?_map, hp, ← hk] <;> rfl
    have y2 : i < t.place.toList.length := by
      have e1 := (List.getElem?_eq_some_iff.mp hp).1
      have e2 := R.tab.sz
      rw [List.length_map] at e2
      rw [Array.length_toList]
      omega
    have y3 := List.getElem?_eq_getElem y2
    obtain ⟨c, hc, e⟩ := R.tab.before z2 y1 y3
    exact ⟨c, Nat.zero_le _, hc, by rw [y3, e]⟩
/-- x in a -/
theorem in_tups (R : SetTR P w s.heap a L es ep t) {x : Addr} {k : List Int} (hx : IsT P w s.heap k x) (hu : A.units + 8 < cLine) {Q : Value → Shared → Prop} (h : ∀ tk, Q (.bool (decide (k ∈ L.map (·.2)))) { s with toks := tk }) :
    wpAny (model P w) A (compareOp .In (.ref x) (.ref a)) Q E s := by
  obtain ⟨o, ho, hex, hd⟩ := R.ob
  have hT : s.TypeIs (.ref a) "set" := ⟨o, ho, hex.1⟩
  show wpAny _ _ (contains (.ref a) (.ref x) >>= fun b => pure (.bool b)) Q E s
  refine wpAny_bind ?_
  unfold contains
  try with_reducible refine wpAny_holding ?_
  refine wpAny_bind (wpAny_specialOf hT F.slot_set_contains.lookup ?_)
  show wpAny _ _ (if (some (Value.builtin "set.__contains__") == some Value.none) = true then _ else _) _ E s
  rw [if_neg (by rw [beq_builtin_none]; exact Bool.false_ne_true)]
  refine wpAny_bind (wpAny_callSpecialUnlessNone?_slot (name := Str.ofString "__contains__") hT F.slot_set_contains (wpAny_call_entry F.slot_set_contains hT entry_set_contains ?_ (F.args_set_contains_2 _ _)))
  unfold Builtin.«frozenset.__contains__» Builtin.Frozenset.oneOther
  simp only [List.isEmpty_nil, bind_assoc]
  unfold Builtin.Frozenset.addrOf Builtin.Frozenset.withSetAsKey setContains
  refine wpAny_bind (wpAny_pure ?_)
  try dsimp only
  refine wpAny_bind (wpAny_pure ?_)
  try dsimp only
  refine wpAny_bind (wpAny_tryCatch ?_)
  refine wpAny_holding ?_
  refine wpAny_bind (wpAny_pyHash_tuple ?_ hx ?_)
  · show A.units + 1 < cLine
    omega
  refine wpAny_bind ?_
  refine seek_all (s := { s with toks := s.toks + (k.length + 1) }) R hx ?_ fun r hr => ?_
  · show A.units + 1 < cLine
    omega
  refine wpAny_pure ?_
  show wpAny _ _ (ret (Value.bool r.isSome)) _ _ _
  rw [hr]
  exact wpAny_pure ⟨_, rfl, wpAny_truthy_bool (wpAny_pure (h _))⟩
/-- a.add(x) -/
theorem add_tups (R : SetTR P w s.heap a L es ep t) {x : Addr} {k : List Int} (hx : IsT P w s.heap k x) (hu : A.units + 8 < cLine) (few : L.length + 1 < 64) {Q : Value → Shared → Prop}
    (h : ∀ h' tk L' es' ep' t', Heap.SameBut a s.heap h' → SetTR P w h' a L' es' ep' t' → (k ∈ L.map (·.2) → L' = L) → (k ∉ L.map (·.2) → L'.Perm ((x, k) :: L)) → Q .none { s with heap := h', toks := tk }) :
    wpAny (model P w) A (call (.builtin "set.add") [.ref a, .ref x]) Q E s := by
  obtain ⟨o, ho, hex, hd⟩ := R.ob
  have hT : s.TypeIs (.ref a) "set" := ⟨o, ho, hex.1⟩
  refine wpAny_call_entry F.slot_set_add hT F.entry_set_add ?_ (F.args_set_add_2 _ _)
  unfold Builtin.«set.add» Builtin.Frozenset.oneOther
  simp only [List.isEmpty_nil, bind_assoc]
  unfold Builtin.Frozenset.addrOf setAdd
  refine wpAny_bind (wpAny_pure ?_)
  try dsimp only
  refine wpAny_bind (wpAny_pure ?_)
  try dsimp only
  refine wpAny_bind (wpAny_holding ?_)
  refine wpAny_bind (wpAny_pyHash_tuple ?_ hx ?_)
  · show A.units + 1 < cLine
    omega
  refine add_at (s := { s with toks := s.toks + (k.length + 1) }) R hx ?_ few fun b h' L' es' ep' t' sb R' i1 i2 => ?_
  · show A.units + 1 < cLine
    omega
  show wpAny _ _ (ret Value.none) _ _ _
  exact wpAny_pure ⟨_, rfl, h h' _ L' es' ep' t' sb R' i1 i2⟩
end

/-! ### rules -/
section
variable {X : Cx}
theorem setTO_full {pins : List (Addr × Obj)} {σ : L2.St} {H : Hp} {s : Shared} {a : Addr} {L : List (Addr × List Int)} (I : Inv X pins σ H s) (ha : H a = some (SetTO X.prog X.w a L)) (hl : ∀ p ∈ L, SqT X.K H p.1 (p.2.map V.int)) :
    ∃ es ep t, SetTR X.prog X.w s.heap a L es ep t := ((show ObjOk X.prog X.w H s.heap a (SetTO X.prog X.w a L) from I.hok a _ ha).1).full fun p hp => I.isT (hl p hp)
/-- set() -/
def rSetT0 (P : Program) (w : World) : List V → Hp → VK → Prop := fun xs H Q => xs = [] ∧ ∀ p, H p = none → Q (.ref p) (upd H p (SetTO P w p []))
theorem cr_setT0 : CallR X (.type "set") (rSetT0 X.prog X.w) := by
  intro pins s σ H xs us Q I r h
  obtain ⟨rfl, q⟩ := h
  cases r
  refine setR_new fun _ => ?_
  refine ⟨.ref _, upd H s.heap.objs.size (SetTO X.prog X.w s.heap.objs.size []), I.laid (t' := s.toks) (fun b u e => Heap.get?_push_of_some _ e) (Nat.le_refl _) (setTO_new ?_), rfl, q _ (I.hok.fresh (Nat.le_refl _))⟩
  exact (setTR_fresh (w := X.w) (P := X.prog) (Heap.get?_push_size _ rfl)).t0
/-- x in a, x not in a -/
def rInT (K : PySem.W.Frag) (P : Program) (w : World) (neg : Bool) : R2 := fun x y H Q => ∃ (p a : Addr) (k : List Int) (L : List (Addr × List Int)), x = .ref p ∧ y = .ref a ∧ SqT K H p (k.map V.int) ∧ H a = some (SetTO P w a L) ∧ (∀ q ∈ L, SqT K H q.1 (q.2.map V.int)) ∧
  Q (.bl (if neg then !decide (k ∈ L.map (·.2)) else decide (k ∈ L.map (·.2)))) H
theorem op_inT (hu : X.A.units + 64 < cLine) : OpR X (compareOp .In) (rInT X.K X.prog X.w false) := by
  rintro pins s σ H x y v u Q I rx ry ⟨p, a, k, L, rfl, rfl, hp, ha, hl, q⟩
  obtain rfl := (show v = Value.ref p from rx)
  obtain rfl := (show u = Value.ref a from ry)
  obtain ⟨es, ep, t, R⟩ := setTO_full I ha hl
  exact in_tups R (I.isT hp) (by omega) fun tk => ⟨.bl _, H, I.tok tk, rfl, q⟩
/-- a.add(x) -/
def tAddT (K : PySem.W.Frag) (P : Program) (w : World) (to te : TE) : TE := fun σ H Q => to σ H fun x H1 => (∃ a L, x = V.ref a ∧ H1 a = some (SetTO P w a L) ∧ ∀ q ∈ L, SqT K H1 q.1 (q.2.map V.int)) ∧ tCons te tNil σ H1 fun ys H2 => ∃ (a p : Addr) (k : List Int) (L : List (Addr × List Int)),
  x = V.ref a ∧ ys = [V.ref p] ∧ H2 a = some (SetTO P w a L) ∧ (∀ q ∈ L, SqT K H2 q.1 (q.2.map V.int)) ∧ SqT K H2 p (k.map V.int) ∧ L.length + 1 < 64 ∧
  ∀ L', (k ∈ L.map (·.2) → L' = L) → (k ∉ L.map (·.2) → L'.Perm ((p, k) :: L)) → Q .non (upd H2 a (SetTO P w a L'))
theorem pe_addT {o e : Expr} {to te : TE} {apos cpos : Pos} (hu : X.A.units + 64 < cLine) (ho : PE X o to) (he : PE X e te)
    (hbase : attributeBase o "add" X.env (eval o X.env) = eval o X.env := by rfl)
    (hfew : ((backTo cpos (starEach [e] X.env)).all (fun x => !x.1) && (backToKw cpos (keywordEach [] X.env)).all (fun x => x.1.isSome)
      && decide ([e].length + ([] : List Keyword).length + (if ([] : List Keyword).isEmpty then 0 else 1) < 30)) = true := by rfl)
    (hline : (apos.endLine == cpos.line) = true := by rfl) (hs : starEach [e] X.env = (false, eval e X.env) :: starEach [] X.env := by rfl) (hpl : (backTo cpos (starEach [] X.env)).any (·.1) = false := by rfl) :
    PE X (.Call (.Attribute o "add" apos) [e] [] cpos) (tAddT X.K X.prog X.w to te) := by
  refine ⟨fun pins s σ H Q I h => ?_⟩
  refine wpAny_Call_method_late hbase hfew hline rfl (thn (ho.run pins s σ H _ I h) fun v s1 ⟨x, H1, I1, r1, ⟨a0, L0, e0, ha0, hl0⟩, q1⟩ => ?_)
  subst e0
  obtain rfl := (show v = Value.ref a0 from r1)
  obtain ⟨es, ep, t, R0⟩ := setTO_full I1 ha0 hl0
  obtain ⟨o0, ho0, hex0, _⟩ := R0.ob
  refine ⟨"set", "set.add", F.plainAttrs_set, F.slot_set_add, F.type_set_add, ⟨o0, ho0, hex0.1⟩, ?_, ?_⟩
  · intro b eb
    cases eb
    exact ⟨o0, ho0, hex0.2.1⟩
  · have hA := (pa_cons he pa_nil hs).run cpos pins s1 σ H1 _ I1 q1
    rw [hs] at hA ⊢
    refine Calls.callWith_builtin (by show (false || (backTo cpos (starEach [] X.env)).any (·.1)) = false; rw [hpl] <;> rfl) (Calls.evalArgs_plain ?_)
    refine thn hA fun us s2 ⟨ys, H2, I2, r2, a, p, k, L, ea, ep2, ha, hl, hp, few, q⟩ => ?_
    subst ep2
    cases ea
    rw [Vals.ref1 r2]
    obtain ⟨es, ep, t, R⟩ := setTO_full I2 ha hl
    refine add_tups R (I2.isT hp) (by omega) few fun h' tk L' es' ep' t' sb R' i1 i2 => ?_
    have old : ∃ u, h'.get? a0 = some u := by
      obtain ⟨o1, g1, _⟩ := R'.ob
      exact ⟨o1, g1⟩
    exact ⟨.non, _, I2.write (e := a0) (t' := tk) (by rw [ha]; trivial) (.inl rfl) (fun b u hb z => (sb.2 b hb).trans z) old (setTO_new R'.t0), rfl, q L' i1 i2⟩
end
end Xs

namespace Xs
open PySem PySem.Spec PyProof.Rows L2 Xa Xb Xc
/-! ### sorted(xs), xs a list of tuples of ints of one length -/
def encT (p : Addr × List Int) : PyData := .tuple (p.2.map .int)
/-- the list in order -/
def srt (ks : List (Addr × List Int)) : List (Addr × List Int) := ks.mergeSort (PySem.W.dataLe false encT)
theorem srt_perm (ks : List (Addr × List Int)) : (srt ks).Perm ks := List.mergeSort_perm _ _
/-- sorted(xs) -/
def rSortL (K : PySem.W.Frag) : List V → Hp → VK → Prop := fun vs H Q => ∃ (a : Addr) (ks : List (Addr × List Int)) (d : Nat), vs = [V.ref a] ∧ SqL K H a (ks.map fun p => V.ref p.1) ∧ (∀ p ∈ ks, SqT K H p.1 (p.2.map V.int)) ∧ (∀ p ∈ ks, p.2.length = d + 1) ∧
  ∀ p, H p = none → Q (.ref p) (upd H p (.lst ((srt ks).map fun q => V.ref q.1)))
theorem alike_ints : ∀ (xs ys : List Int), PySem.W.alikeAll (xs.map .int) (ys.map .int) = true
  | [], [] => by simp [PySem.W.alikeAll]
  | [], _ :: _ => by simp [PySem.W.alikeAll]
  | _ :: _, [] => by simp [PySem.W.alikeAll]
  | x :: xs, y :: ys => by
    have := alike_ints xs ys
    simp [PySem.W.alikeAll, PySem.W.alike, this]
theorem depth_ints : ∀ xs : List Int, PyData.depthAll (xs.map .int) ≤ 1
  | [] => by simp [PyData.depthAll]
  | x :: xs => by
    have := depth_ints xs
    simp only [List.map_cons, PyData.depthAll, PyData.depth]
    omega
theorem each_refs {R : Value → (Addr × List Int) → Prop} : ∀ {ks : List (Addr × List Int)}, (∀ p ∈ ks, R (.ref p.1) p) → PySem.W.EachIs R (ks.map fun p => Value.ref p.1) ks
  | [], _ => .nil
  | p :: ks, h => .cons (h p List.mem_cons_self) (each_refs fun q hq => h q (List.mem_cons_of_mem _ hq))
theorem refs_each : ∀ {ks : List (Addr × List Int)} {vs : List Value}, PySem.W.EachIs (fun v (p : Addr × List Int) => v = .ref p.1) vs ks → Vals (ks.map fun p => V.ref p.1) vs
  | _, _, .nil => .nil
  | _, _, .cons e t => .cons e (refs_each t)
section
variable {X : Cx}
theorem isT_reads {P : Program} {w : World} {h : Heap} {b : Addr} {k : List Int} (x : IsT P w h k b) : ∃ as, Reads h (.ref b) (.tuple (k.map .int)) as := by
  obtain ⟨o, its, n, ho, hc, hd, hi⟩ := x
  have all : ∀ {k : List Int} {us : List Value}, IntsAre us k → ∃ as, ReadsAll h us (k.map .int) as := by
    intro k us r
    induction r with
    | nil => exact ⟨_, .nil⟩
    | cons n t _ ih =>
      obtain ⟨as, q⟩ := ih
      exact ⟨_, .cons (.int n t) q⟩
  obtain ⟨as, q⟩ := all (ints_of_items hi)
  exact ⟨as, .tuple ho hc hd q⟩
theorem cr_sortL (hc : X.calm = true) (hu : X.A.units + 64 < cLine) : CallR X (.builtin "sorted") (rSortL X.K) := by
  intro pins s σ H vs us Q I r h
  obtain ⟨a, ks, d, rfl, hl, ht, hd, q⟩ := h
  rw [Vals.ref1 r]
  obtain ⟨its, rv, pl, hz⟩ := I.list hl
  have e0 : its = ks.map fun p => Value.ref p.1 := refs_of_vals rv
  subst e0
  have hn : H (s.heap.objs.size + 1) = none := I.hok.fresh (Nat.le_succ _)
  rw [List.length_map] at hz
  refine PySem.W.sorted_data (bs := ks) (enc := encT) (R := fun v (p : Addr × List Int) => v = .ref p.1) pl.isList (each_refs fun p _ => rfl) (each_refs fun p hp => isT_reads (P := X.prog) (w := X.w) (I.isT (ht p hp))) ?_ (.inl fun e he => ?_) hz (fun p hp => ?_) fun out lo eo => ?_
  · intro e he e' he'
    obtain ⟨p, hp, rfl⟩ := List.mem_map.mp he
    obtain ⟨p', hp', rfl⟩ := List.mem_map.mp he'
    simp only [encT, PySem.W.alike, alike_ints]
  · obtain ⟨p, hp, rfl⟩ := List.mem_map.mp he
    have := hd p hp
    obtain ⟨b, l⟩ := p
    cases l with
    | nil => simp at this
    | cons x l => exact ⟨.int x, l.map .int, rfl⟩
  · have := depth_ints p.2
    show X.A.units + 2 + (PyData.tuple (p.2.map .int)).depth < cLine
    simp only [PyData.depth]
    omega
  · obtain ⟨c, hc2⟩ := PyProof.Rows.sortedAll_at s.heap (ks.map fun p => Value.ref p.1) out.toArray
    have hv := refs_each eo
    have hlen : ((srt ks).map fun q => V.ref q.1).length ≤ sizeLine := by rw [List.length_map, (srt_perm ks).length_eq]; exact hz
    refine ⟨.ref (s.heap.objs.size + 1), upd H (s.heap.objs.size + 1) (.lst ((srt ks).map fun q => V.ref q.1)), I.laid (a := s.heap.objs.size + 1) (o := .lst ((srt ks).map fun q => V.ref q.1)) (t' := s.toks) (fun b u e => PyProof.Rows.sortedAll_old e) (Nat.le_succ _) ⟨hlen, out, c, hv, hc2⟩, rfl, q _ hn⟩
end
end Xs
/-! Own ground, part P: defs that can be called by name; what kind a value is. -/
namespace Xp
open PySem PySem.Spec PyProof.Rows L2 Xa Xb Xc

/-! ### defs that can be called by their names -/
def Can (P : Program) (w : World) (K : PySem.W.Frag) (mg : Str → Option Value) (base : Heap) (C : CXT) (lev : Nat) (x : Str) (ps : List Str) (pr : Sp) : Prop :=
  ∃ (f : Addr) (fd : FuncData), FnOk P w K mg base C lev f fd ps pr ∧ mg x = some (.ref f) ∧ PySem.W.keepIn K (.ref f) = true ∧ Binds K fd ps []
def CanG (P : Program) (w : World) (K : PySem.W.Frag) (mg : Str → Option Value) (base : Heap) (lev : Nat) (x : Str) (ps : List Str) (pr : Sp) : Prop :=
  ∃ (f : Addr) (fd : FuncData), FnG P w K mg base lev f fd ps pr ∧ mg x = some (.ref f) ∧ PySem.W.keepIn K (.ref f) = true ∧ Binds K fd ps []
section
variable {X : Cx} {C : CXT} {lev : Nat} {x : Str} {ps : List Str} {pr : Sp} {E : XK} {p pos : Pos} {e : Expr} {es : List Expr} {t : TA}
theorem pe_can (c : Can X.prog X.w X.K X.mg X.base C lev x ps pr) (hr : Room lev X.A) (hx : Passes C X E) (ha : PA X (e :: es) t) (hg : Gl X x := by rfl) (hdb : (x == ("__debug__" : Str)) = false := by decide)
    (he : starEach (e :: es) X.env = (false, eval e X.env) :: starEach es X.env := by rfl) (hpl : (backTo pos (starEach es X.env)).any (·.1) = false := by rfl) : PE X (.Call (.Name x p) (e :: es) [] pos) (tCall pr [] E t) := by
  obtain ⟨f, fd, F, g, k, b⟩ := c
  exact pe_call F hr hg g k b .nil hx ha hdb he hpl
theorem pe_canG (c : CanG X.prog X.w X.K X.mg X.base lev x ps pr) (hr : Room lev X.A) (hn : NoRep X.A) (ha : PA X (e :: es) t) (hg : Gl X x := by rfl) (hdb : (x == ("__debug__" : Str)) = false := by decide)
    (he : starEach (e :: es) X.env = (false, eval e X.env) :: starEach es X.env := by rfl) (hpl : (backTo pos (starEach es X.env)).any (·.1) = false := by rfl) : PE X (.Call (.Name x p) (e :: es) [] pos) (tCall pr [] E0 t) := by
  obtain ⟨f, fd, F, g, k, b⟩ := c
  exact pe_callG F hr hn hg g k b ha hdb he hpl
theorem pe_canG0 (c : CanG X.prog X.w X.K X.mg X.base lev x ps pr) (hr : Room lev X.A) (hn : NoRep X.A) (hg : Gl X x := by rfl) (hdb : (x == ("__debug__" : Str)) = false := by decide) : PE X (.Call (.Name x p) [] [] pos) (tCall pr [] E0 tNil) := by
  obtain ⟨f, fd, F, g, k, b⟩ := c
  exact pe_callG0 F hr hn hg g k b hdb
theorem pa1 (he : PE X e te) (hs : starEach (e :: []) X.env = (false, eval e X.env) :: starEach [] X.env := by rfl) : PA X [e] (tCons te tNil) := pa_cons he pa_nil hs
/-- a built-in function by its name -/
theorem pe_bi {id : String} {r : List V → Hp → VK → Prop} (hc : CallR X (.builtin id) r) (hm : X.mg x = none) (ha : PA X (e :: es) t) (hg : Gl X x := by rfl) (hv : bootBuiltins x = some (.builtin id) := by decide +kernel) (hn : x ≠ "__name__" := by decide)
    (hdb : (x == ("__debug__" : Str)) = false := by decide) (he : starEach (e :: es) X.env = (false, eval e X.env) :: starEach es X.env := by rfl) (hpl : (backTo pos (starEach es X.env)).any (·.1) = false := by rfl) : PE X (.Call (.Name x p) (e :: es) [] pos) (tCB r t) :=
  pe_callB hc hg hm hv ha hn hdb he hpl
/-- a built-in type, called -/
theorem pe_ty {T : String} {r : List V → Hp → VK → Prop} (hc : CallR X (.type T) r) (hm : X.mg x = none) (ha : PA X (e :: es) t) (hg : Gl X x := by rfl) (hv : bootBuiltins x = some (.type T) := by decide +kernel) (hn : x ≠ "__name__" := by decide)
    (hdb : (x == ("__debug__" : Str)) = false := by decide) (he : starEach (e :: es) X.env = (false, eval e X.env) :: starEach es X.env := by rfl) (hpl : (backTo pos (starEach es X.env)).any (·.1) = false := by rfl) : PE X (.Call (.Name x p) (e :: es) [] pos) (tCB r t) :=
  pe_callTy hc hg hm hv ha hn hdb he hpl
/-- a built-in type as a value -/
theorem pe_tyv (T : String) (hm : X.mg x = none) (hg : Gl X x := by rfl) (hv : bootBuiltins x = some (.type T) := by decide +kernel) (hn : x ≠ "__name__" := by decide) (hdb : (x == ("__debug__" : Str)) = false := by decide) : PE X (.Name x p) (tC (.ty T)) :=
  pe_bltn hg hm hv rfl hn hdb
end
section
variable {K : PySem.W.Frag} {x qual : Str} {params : Arguments} {body : List Stmt} {scope : Scope} {f : Addr} {fd : FuncData} {P : Program} {w : World} {mg : Str → Option Value} {base : Heap} {C : CXT} {lev : Nat} {ps : List Str} {pr : Sp}
theorem FnOk.can (F : FnOk P w K mg base C lev f fd ps pr) (D : FunD K x qual params body scope [] [] f fd) (g : mg x = some (.ref f))
    (b : ∀ (kV doc pm : Value) (an : Option Addr) (cdv ct : Value) (us : List Value), us.length = ps.length → bindArgs (PySem.W.fnOf x qual params body scope .none kV doc pm an cdv ct) ⟨us, []⟩ = pure (ps.zip us)) : Can P w K mg base C lev x ps pr := ⟨f, fd, F, g, D.kp, D.bindsN b⟩
theorem FnG.can (F : FnG P w K mg base lev f fd ps pr) (D : FunD K x qual params body scope [] [] f fd) (g : mg x = some (.ref f))
    (b : ∀ (kV doc pm : Value) (an : Option Addr) (cdv ct : Value) (us : List Value), us.length = ps.length → bindArgs (PySem.W.fnOf x qual params body scope .none kV doc pm an cdv ct) ⟨us, []⟩ = pure (ps.zip us)) : CanG P w K mg base lev x ps pr := ⟨f, fd, F, g, D.kp, D.bindsN b⟩
end

/-! ### what kind a value is -/
/-- v's built-in type -/
def Kd (K : PySem.W.Frag) (H : Hp) (v : V) (T : String) : Prop := TyX K H v (.type T)
/-- whether v is a whole number -/
def Whl (K : PySem.W.Frag) (H : Hp) (v : V) (b : Bool) : Prop := ∃ (T : String) (b1 b2 : Bool), Kd K H v T ∧ kitB T "int" = some b1 ∧ kitB T "bool" = some b2 ∧ b = (b1 && !b2)
section
variable {K : PySem.W.Frag} {H : Hp}
theorem whl_int (i : Int) : Whl K H (.int i) true := ⟨"int", true, false, .base (.int i), by decide +kernel, by decide +kernel, rfl⟩
theorem whl_non : Whl K H .non false := ⟨"NoneType", false, false, .base .non, by decide +kernel, by decide +kernel, rfl⟩
theorem whl_bl (b : Bool) : Whl K H (.bl b) false := ⟨"bool", true, true, .base (.bl b), by decide +kernel, by decide +kernel, rfl⟩
theorem whl_str (z : Str) : Whl K H (.str z) false := ⟨"str", false, false, .base (.str z), by decide +kernel, by decide +kernel, rfl⟩
theorem whl_lst {a : Addr} {xs : List V} (e : H a = some (.lst xs)) : Whl K H (.ref a) false := ⟨"list", false, false, .base (.lst e), by decide +kernel, by decide +kernel, rfl⟩
theorem whl_tup {a : Addr} {xs : List V} (e : H a = some (.tup xs)) : Whl K H (.ref a) false := ⟨"tuple", false, false, .base (.tup e), by decide +kernel, by decide +kernel, rfl⟩
theorem whl_dic {a : Addr} {kvs : List (Key × V)} (e : H a = some (.dK kvs)) : Whl K H (.ref a) false := ⟨"dict", false, false, .base (.dK e), by decide +kernel, by decide +kernel, rfl⟩
end
/-- v as a number, if it is one -/
inductive Num (K : PySem.W.Frag) (H : Hp) : V → Option Int → Prop
  | is (i : Int) : Num K H (.int i) (some i)
  | no {v : V} (h : Whl K H v false) : Num K H v none
theorem Num.whl {K : PySem.W.Frag} {H : Hp} {v : V} {o : Option Int} : Num K H v o → Whl K H v o.isSome
  | .is i => whl_int i
  | .no h => h
def inR (o : Option Int) (lo hi : Int) : Bool := match o with
  | some i => decide (lo ≤ i) && decide (i ≤ hi)
  | none => false
/-- v is of a kind, T2 is asked -/
def IsK (K : PySem.W.Frag) (H : Hp) (v : V) (T2 : String) (b : Bool) : Prop := ∃ T, Kd K H v T ∧ kitB T T2 = some b
section
variable {K : PySem.W.Frag} {H : Hp}
theorem isk_non (T : String) {b : Bool} (h : kitB "NoneType" T = some b) : IsK K H .non T b := ⟨_, .base .non, h⟩
theorem isk_bl (x : Bool) (T : String) {b : Bool} (h : kitB "bool" T = some b) : IsK K H (.bl x) T b := ⟨_, .base (.bl x), h⟩
theorem isk_int (i : Int) (T : String) {b : Bool} (h : kitB "int" T = some b) : IsK K H (.int i) T b := ⟨_, .base (.int i), h⟩
theorem isk_str (z : Str) (T : String) {b : Bool} (h : kitB "str" T = some b) : IsK K H (.str z) T b := ⟨_, .base (.str z), h⟩
theorem isk_lst {a : Addr} {xs : List V} (e : H a = some (.lst xs)) (T : String) {b : Bool} (h : kitB "list" T = some b) : IsK K H (.ref a) T b := ⟨_, .base (.lst e), h⟩
theorem isk_tup {a : Addr} {xs : List V} (e : H a = some (.tup xs)) (T : String) {b : Bool} (h : kitB "tuple" T = some b) : IsK K H (.ref a) T b := ⟨_, .base (.tup e), h⟩
theorem isk_dic {a : Addr} {kvs : List (Key × V)} (e : H a = some (.dK kvs)) (T : String) {b : Bool} (h : kitB "dict" T = some b) : IsK K H (.ref a) T b := ⟨_, .base (.dK e), h⟩
end
/-- isinstance(v, T), v of a built-in kind -/
def rKd (K : PySem.W.Frag) : List V → Hp → VK → Prop := fun xs H Q => ∃ (v : V) (T : String) (b : Bool), xs = [v, .ty T] ∧ IsK K H v T b ∧ Q (.bl b) H
theorem call_kd {X : Cx} : CallR X (.builtin "isinstance") (rKd X.K) := by
  intro pins s σ H xs us Q I r h
  obtain ⟨v, T, b, rfl, ⟨T1, k, e⟩, q⟩ := h
  exact call_isi pins s σ H [v, .ty T] us Q I r ⟨v, .ty T, .type T1, .type T, b, rfl, .ty T, k, kit_ty e, q⟩
end Xp

namespace Xp
open PySem PySem.Spec PyProof.Rows L2 Xa Xb Xc
/-! ### FARTHEST[places]: a written dict of two ints -/
def farB (K : PySem.W.Frag) (F : Addr) : Bool := match K.lookup F with
  | some ⟨.type "dict", none, .dict ⟨[⟨h1, .int a _, .int b _⟩, ⟨h2, .int c _, .int d _⟩]⟩ _, ⟨[]⟩⟩ => decide (h1 = hashInt 1) && (decide (h2 = hashInt 2) && (decide (a = 1) && (decide (b = 2) && (decide (c = 2) && decide (d = 1)))))
  | _ => false
def rFar (K : PySem.W.Frag) : R2 := fun x y H Q => ∃ F, x = .ref F ∧ farB K F = true ∧ ((y = .int 1 ∧ Q (.int 2) H) ∨ (y = .int 2 ∧ Q (.int 1) H))
theorem far_ok {K : PySem.W.Frag} {F : Addr} (h : farB K F = true) : ∃ n t1 t2 t3 t4, K.lookup F = some ⟨.type "dict", none, .dict #[⟨hashInt 1, .int 1 t1, .int 2 t2⟩, ⟨hashInt 2, .int 2 t3, .int 1 t4⟩] n, #[]⟩ := by
  unfold farB at h
  split at h
  · rename_i e
    obtain ⟨e1, h⟩ := He.ba h
    obtain ⟨e2, h⟩ := He.ba h
    obtain ⟨e3, h⟩ := He.ba h
    obtain ⟨e4, h⟩ := He.ba h
    obtain ⟨e5, e6⟩ := He.ba h
    have e1 := of_decide_eq_true e1
    have e2 := of_decide_eq_true e2
    have e3 := of_decide_eq_true e3
    have e4 := of_decide_eq_true e4
    have e5 := of_decide_eq_true e5
    have e6 := of_decide_eq_true e6
    subst e1 e2 e3 e4 e5 e6
    exact ⟨_, _, _, _, _, e⟩
  · cases h
theorem ix_far {X : Cx} : IxR X (rFar X.K) := by
  intro value slice pins s σ H x y v u Q I rx ry h hs
  obtain ⟨F, rfl, hf, q⟩ := h
  obtain rfl : v = Value.ref F := rx
  obtain ⟨n, t1, t2, t3, t4, lk⟩ := far_ok hf
  have ho := I.kIn _ _ lk
  have hm : s.heap.MapOf (PySem.intKind X.prog X.w) F (findBy (PySem.intKind X.prog X.w).is #[⟨hashInt 1, .int 1 t1, .int 2 t2⟩, ⟨hashInt 2, .int 2 t3, .int 1 t4⟩]) := by
    refine ⟨_, _, _, ho, ⟨rfl, rfl, rfl⟩, rfl, fun e he => ?_, fun k => rfl⟩
    have he : e = ⟨hashInt 1, .int 1 t1, .int 2 t2⟩ ∨ e = ⟨hashInt 2, .int 2 t3, .int 1 t4⟩ := by simpa using he
    rcases he with rfl | rfl
    · exact ⟨1, PySem.intKind_is _ _ _ _, rfl⟩
    · exact ⟨2, PySem.intKind_is _ _ _ _, rfl⟩
  have is_ : ∀ (a b : Int) (t : Tok), (PySem.intKind X.prog X.w).is a (.int b t) = decide (a = b) := fun a b t => by
    show Value.isInt a (.int b t) = _
    unfold Value.isInt
    by_cases e : a = b
    · subst e
      simp
    · rw [decide_eq_false e]
      first | exact beq_false_of_ne (Ne.symm e) | exact beq_false_of_ne e
  rcases q with ⟨rfl, q⟩ | ⟨rfl, q⟩
  · obtain ⟨t, rfl⟩ := ry
    exact tail_any hm.typeIs slot_dict_getitem.lookup (wpAny_getItem_of (PySem.intKind_is X.prog X.w 1 t) hm (v := .int 2 t2) (by simp [findBy, is_]) ⟨.int 2, H, I.tok _, ⟨_, rfl⟩, q⟩) hs
  · obtain ⟨t, rfl⟩ := ry
    exact tail_any hm.typeIs slot_dict_getitem.lookup (wpAny_getItem_of (PySem.intKind_is X.prog X.w 2 t) hm (v := .int 1 t4) (by simp [findBy, is_]) ⟨.int 1, H, I.tok _, ⟨_, rfl⟩, q⟩) hs
end Xp
/-! Own ground, part M: methods called with keywords; what leaves them may be taken by a try. -/
namespace Xm
open PySem PySem.Spec PyProof.Rows L2 Xa Xb Xc Xp
/-- keywords for keyword-only parameters, no defaults ahead of these -/
theorem kb0 {K : PySem.W.Frag} {x qual : Str} {params : Arguments} {body : List Stmt} {scope : Scope} {kws : List (Str × V)} {f : Addr} {fd : FuncData} {ps : List Str} (F : FunD K x qual params body scope [] kws f fd) (n : Nat) (ks : List Str)
    (h : ∀ (kV doc pm : Value) (an : Option Addr) (cdv ct : Value) (us ws : List Value), us.length = n → ws.length = ks.length → bindArgs (PySem.W.fnOf x qual params body scope .none kV doc pm an cdv ct) ⟨us, ks.zip ws⟩ = pure (ps.zip (us ++ ws))) :
    KBn K fd ps n ks (fun us ws => us ++ ws) (fun vs zs => vs ++ zs) := by
  obtain ⟨oc, od, dV, kV, doc, pm, an, cdv, ct, osl, rfl, lk, hcd, hD, hK⟩ := F.ex
  rcases hD with ⟨_, rfl⟩ | ⟨e, _⟩
  · exact ⟨fun s us ws _ l1 l2 => .of_eq (h kV doc pm an cdv ct us ws l1 l2), fun r1 r2 => r1.append r2⟩
  · exact absurd rfl e
/-- nothing leaves -/
theorem passAt0 {X : Cx} (σ : L2.St) : PassesAt (L2.CX X.prog X.w) X σ E0 := fun _ _ _ _ _ _ ⟨_, _, _, _, _, _, _, _, _, _, _, _, q⟩ => False.elim q
/-- o.m(e, .., k = v, ..) -/
def tMethN (C : Addr) (m : Str) (n j : Nat) (sp : Sp) (gV : List V → List V → List V) (E : L2.St → XK) (ta : TE) (t tk : TA) : TE := fun σ H Q => ta σ H fun x H1 => ∃ a dx fs, x = .ref a ∧ H1 a = some (.ins C dx fs) ∧ fs.lookup m = none ∧
  t σ H1 fun vs H2 => tk σ H2 fun zs H3 => (x :: vs).length = n ∧ zs.length = j ∧ sp (gV (x :: vs) zs) H3 Q (E σ)
/-- o.m(e, ..) -/
def tMethD (C : Addr) (m : Str) (sp : Sp) (dvs : List V) (E : L2.St → XK) (ta : TE) (t : TA) : TE := fun σ H Q => ta σ H fun x H1 => ∃ a dx fs, x = .ref a ∧ H1 a = some (.ins C dx fs) ∧ fs.lookup m = none ∧ t σ H1 fun vs H2 => sp (x :: (vs ++ dvs)) H2 Q (E σ)
section
variable {X : Cx} {CX : CXT} {k n : Nat} {f C : Addr} {fd : FuncData} {ps ks : List Str} {sp : Sp} {E : L2.St → XK} {m : Str} {p pos apos : Pos} {o e : Expr} {es : List Expr} {kws : List Keyword} {ta : TE} {t tk : TA} {g : List Value → List Value → List Value} {gV : List V → List V → List V} {ds : List Value} {dvs : List V}
theorem fin_call {pins : List (Addr × Obj)} {σ : L2.St} {H : Hp} {s : Shared} {Q : VK} {ar : Args} {us : List Value} {vs : List V} (F : FnOk X.prog X.w X.K X.mg X.base CX k f fd ps sp) (hr : Room k X.A) (hx : PassesAt CX X σ (E σ)) (I : Inv X pins σ H s)
    (hb : BindsTo s fd ar (ps.zip us)) (r : Vals vs us) (h : sp vs H Q (E σ)) : wpAny (model X.prog X.w) X.A (call (.ref f) ar.pos ar.kw) (EP X pins σ Q) X.xe s := by
  refine wpAny_call (codeAny_mono (F.run X.A X.stack s H ar us vs Q (E σ) hr I.env0 hb r h) fun r s' hq => ?_)
  cases r with
  | error e => exact hx pins H s e s' I hq
  | ok fl =>
    cases fl with
    | ret u => exact I.after hq
    | next => exact False.elim hq
    | brk => exact False.elim hq
    | cont => exact False.elim hq
theorem pe_methN {pl : Sem Bool} (he : PE X o ta) (c : Cls X.K C) (hm : Meth X.K C m f) (F : FnOk X.prog X.w X.K X.mg X.base CX k f fd ps sp) (hr : Room k X.A) (hb : KBn X.K fd ps n ks g gV) (hx : ∀ σ, PassesAt CX X σ (E σ)) (ha : PA X (e :: es) t) (hkw : PK X kws tk)
    (hall : (backToKw pos (keywordEach kws X.env)).all (·.1.isSome) = true := by rfl) (hks : (backToKw pos (keywordEach kws X.env)).filterMap (·.1) = ks := by rfl)
    (hst : starEach (e :: es) X.env = (false, eval e X.env) :: starEach es X.env := by rfl) (hpl : ((backTo pos (starEach (e :: es) X.env)).any (·.1) || (backToKw pos (keywordEach kws X.env)).any (·.1.isNone)) = false := by rfl)
    (ht : eval (.Call (.Attribute o m apos) (e :: es) kws pos) X.env = (do
      let ov ← eval o X.env
      standAt apos.atName
      let (f, first) ← holding [ov] (getMethod ov m pl)
      callWith pos f first (backTo pos (starEach (e :: es) X.env)) (backToKw pos (keywordEach kws X.env))) := by rfl) :
    PE X (.Call (.Attribute o m apos) (e :: es) kws pos) (tMethN C m n ks.length sp gV E ta t tk) := by
  refine ⟨fun pins s σ H Q I h => ?_⟩
  refine PySem.W.methodCall_KW (pl := pl) (thn (he.run pins s σ H _ I h) fun u s1 ⟨x, H1, I1, rx, a, dx, fs, ex, ea, l, q⟩ => ?_) ht
  subst ex
  obtain rfl : u = Value.ref a := rx
  refine getmeth_ok I1 ea c hm l ?_
  refine PySem.W.callWith_KW (first := [.ref a]) (h₀ := X.base) I.ok.mod.kin hm.kp hall (thn (ha.run pos pins s1 σ H1 _ I1 q) fun us s2 ⟨vs, H2, I2, r, q2⟩ => ?_) hpl hst
  refine thn (hkw.run pos pins s2 σ H2 _ I2 q2) fun ws s3 ⟨zs, H3, I3, rz, l1, l2, q3⟩ => ⟨I3.kIn, ?_⟩
  rw [hks]
  have r1 : Vals (V.ref a :: vs) (Value.ref a :: us) := .cons rfl r
  exact fin_call (ar := ⟨.ref a :: us, ks.zip ws⟩) F hr (hx σ) I3 (hb.to s3 (.ref a :: us) ws I3.kIn (r1.length.symm.trans l1) (rz.length.symm.trans l2)) (hb.rel r1 rz) q3
theorem pe_methD {pl : Sem Bool} (he : PE X o ta) (c : Cls X.K C) (hm : Meth X.K C m f) (F : FnOk X.prog X.w X.K X.mg X.base CX k f fd ps sp) (hr : Room k X.A) (hb : Binds X.K fd ps ds) (hd : Vals dvs ds) (hx : ∀ σ, PassesAt CX X σ (E σ)) (ha : PA X (e :: es) t)
    (hst : starEach (e :: es) X.env = (false, eval e X.env) :: starEach es X.env := by rfl) (hpl : (backTo pos (starEach es X.env)).any (·.1) = false := by rfl)
    (ht : eval (.Call (.Attribute o m apos) (e :: es) [] pos) X.env = (do
      let ov ← eval o X.env
      standAt apos.atName
      let (f, first) ← holding [ov] (getMethod ov m pl)
      callWith pos f first (backTo pos (starEach (e :: es) X.env)) (backToKw pos (keywordEach [] X.env))) := by rfl) :
    PE X (.Call (.Attribute o m apos) (e :: es) [] pos) (tMethD C m sp dvs E ta t) := by
  refine ⟨fun pins s σ H Q I h => ?_⟩
  refine PySem.W.methodCall_KW (pl := pl) (thn (he.run pins s σ H _ I h) fun u s1 ⟨x, H1, I1, rx, a, dx, fs, ex, ea, l, q⟩ => ?_) ht
  subst ex
  obtain rfl : u = Value.ref a := rx
  refine getmeth_ok I1 ea c hm l ?_
  refine PySem.W.callWith_K (first := [.ref a]) (h₀ := X.base) I.ok.mod.kin hm.kp (thn (ha.run pos pins s1 σ H1 _ I1 q) fun us s2 ⟨vs, H2, I2, r, q2⟩ => ⟨I2.kIn, ?_⟩) hst hpl
  have r2 : Vals (V.ref a :: (vs ++ dvs)) (Value.ref a :: (us ++ ds)) := .cons rfl (r.append hd)
  have hl : (Value.ref a :: (us ++ ds)).length = ps.length := by rw [← r2.length]; exact F.len _ _ _ _ q2
  exact fin_call (ar := ⟨.ref a :: us, []⟩) F hr (hx σ) I2 (hb s2 (.ref a :: us) I2.kIn hl) r2 q2
end
end Xm
/-! Own ground, part R: what can be told by repr; kinds, under growth. -/
namespace Xr
open PySem PySem.Spec PyProof.Rows L2 Xa Xb Xc Xp
section
variable {K : PySem.W.Frag} {H H' : Hp}
theorem sqt_same (e : Same H H') {a : Addr} {xs : List V} (h : SqT K H a xs) : SqT K H' a xs := by
  rcases h with (h | ⟨o, h⟩) | h
  · exact .inl (.inl (e _ _ h))
  · exact .inl (.inr ⟨o, e _ _ h⟩)
  · exact .inr h
mutual
theorem dq_same (e : Same H H') : ∀ {v : V} {d : PyData} {ls : List Addr}, Dq K H v d ls → Dq K H' v d ls
  | _, _, _, .non => .non
  | _, _, _, .bl b => .bl b
  | _, _, _, .int i => .int i
  | _, _, _, .str z => .str z
  | _, _, _, .lst h t => .lst (e.seq h) (dqs_same e t)
  | _, _, _, .tup h t => .tup (sqt_same e h) (dqs_same e t)
  | _, _, _, .dic h t1 t2 => .dic (e _ _ h) (dqs_same e t1) (dqs_same e t2)
theorem dqs_same (e : Same H H') : ∀ {v : List V} {d : List PyData} {ls : List Addr}, Dqs K H v d ls → Dqs K H' v d ls
  | _, _, _, .nil => .nil
  | _, _, _, .cons h t => .cons (dq_same e h) (dqs_same e t)
end
theorem ty_same (e : Same H H') {v : V} {t : Value} (h : TyX K H v t) : TyX K H' v t := by
  cases h with
  | base h =>
    cases h with
    | non => exact .base .non
    | bl x => exact .base (.bl x)
    | int x => exact .base (.int x)
    | str x => exact .base (.str x)
    | flt x => exact .base (.flt x)
    | lst h => exact .base (.lst (e _ _ h))
    | frz h => exact .base (.frz (e _ _ h))
    | tup h => exact .base (.tup (e _ _ h))
    | dK h => exact .base (.dK (e _ _ h))
    | dT h => exact .base (.dT (e _ _ h))
    | ins h a b c d k => exact .base (.ins (e _ _ h) a b c d k)
  | byt b => exact .byt b
  | set h => exact .set (e _ _ h)
  | kList h c => exact .kList h c
  | kTuple h c => exact .kTuple h c
  | kDict h c => exact .kDict h c
  | fTuple h => exact .fTuple (e _ _ h)
  | fDict h => exact .fDict (e _ _ h)
theorem isk_same (e : Same H H') {v : V} {T : String} {b : Bool} (h : IsK K H v T b) : IsK K H' v T b :=
  let ⟨t, k, q⟩ := h
  ⟨t, ty_same e k, q⟩
end
/-- v is told as txt -/
def Rep (K : PySem.W.Frag) (H : Hp) (v : V) (txt : Str) : Prop := ∃ (d : PyData) (ls : List Addr), Dq K H v d ls ∧ (d.hasDict = true → sysModules ∉ ls) ∧ d.showable = true ∧ d.depth ≤ 60 ∧ d.shown.length ≤ sizeLine ∧ PyData.strOk d.shown = true ∧ txt = d.shown
theorem rep_same {K : PySem.W.Frag} {H H' : Hp} (e : Same H H') {v : V} {t : Str} : Rep K H v t → Rep K H' v t := fun ⟨d, ls, h, r⟩ => ⟨d, ls, dq_same e h, r⟩
theorem Rep.ok {K : PySem.W.Frag} {H : Hp} {v : V} {t : Str} : Rep K H v t → PyData.strOk t = true := fun ⟨_, _, _, _, _, _, _, h, e⟩ => by rw [e] <;> exact h
/-- the reading of repr, by Rep -/
theorem rep_r {K : PySem.W.Frag} {H : Hp} {v : V} {t : Str} {Q : VK} (r : Rep K H v t) (q : Q (.str t) H) : rRepr K [v] H Q := by
  obtain ⟨d, ls, h, h1, h2, h3, h4, h5, rfl⟩ := r
  exact ⟨v, d, ls, rfl, h, h1, h2, h3, h4, q⟩
/-- v is told as txt by one who lengthens lists; behind that the heap is the last -/
inductive Res (K : PySem.W.Frag) (H : Hp) : V → Str → Hp → Prop
  | other {v : V} {t : Str} (k : IsK K H v "list" false) (r : Rep K H v t) : Res K H v t H
  | list {a : Addr} {xs : List V} {t : Str} (e : H a = some (.lst xs)) (z : xs.length < 900) (r : Rep K (upd H a (.lst (xs ++ [.str "more"]))) (.ref a) t) : Res K H (.ref a) t (upd H a (.lst (xs ++ [.str "more"])))
theorem Res.rep {K : PySem.W.Frag} {H H2 : Hp} {v : V} {t : Str} : Res K H v t H2 → Rep K H2 v t
  | .other _ r => r
  | .list _ _ r => r
end Xr
/-! Own ground, part L: written data, laid anew. -/
namespace Xl
open PySem PySem.Spec PyProof.Rows L2 Xa Xb Xc Xp Xr
mutual
inductive Lt (H : Hp) : V → PyData → List Addr → Prop
  | non : Lt H .non .none []
  | bl (b : Bool) : Lt H (.bl b) (.bool b) []
  | int (i : Int) : Lt H (.int i) (.int i) []
  | str (z : Str) : Lt H (.str z) (.str z) []
  | lst {a : Addr} {xs : List V} {ds : List PyData} {ls : List Addr} : H a = some (.lst xs) → Lts H xs ds ls → Lt H (.ref a) (.list ds) (a :: ls)
  | tup {a : Addr} {xs : List V} {ds : List PyData} {ls : List Addr} : H a = some (.tup xs) → Lts H xs ds ls → Lt H (.ref a) (.tuple ds) ls
  | dic {a : Addr} : H a = some (.dK []) → Lt H (.ref a) (.dict []) []
inductive Lts (H : Hp) : List V → List PyData → List Addr → Prop
  | nil : Lts H [] [] []
  | cons {v : V} {vs : List V} {d : PyData} {ds : List PyData} {l1 l2 : List Addr} : Lt H v d l1 → Lts H vs ds l2 → Lts H (v :: vs) (d :: ds) (l1 ++ l2)
end
section
variable {H H' : Hp} {K : PySem.W.Frag}
mutual
theorem lt_dq : ∀ {v : V} {d : PyData} {ls : List Addr}, Lt H v d ls → Dq K H v d ls
  | _, _, _, .non => .non
  | _, _, _, .bl b => .bl b
  | _, _, _, .int i => .int i
  | _, _, _, .str z => .str z
  | _, _, _, .lst h t => .lst (SqL.of h) (lts_dq t)
  | _, _, _, .tup h t => .tup (SqT.of h) (lts_dq t)
  | _, _, _, .dic h => .dic (kvs := []) (ds := []) h .nil .nil
theorem lts_dq : ∀ {v : List V} {d : List PyData} {ls : List Addr}, Lts H v d ls → Dqs K H v d ls
  | _, _, _, .nil => .nil
  | _, _, _, .cons h t => .cons (lt_dq h) (lts_dq t)
end
mutual
theorem lt_but {a : Addr} (e : ∀ c o, H c = some o → c ≠ a → H' c = some o) (ha : ∃ xs, H a = some (.lst xs)) : ∀ {v : V} {d : PyData} {ls : List Addr}, Lt H v d ls → a ∉ ls → Lt H' v d ls
  | _, _, _, .non, _ => .non
  | _, _, _, .bl b, _ => .bl b
  | _, _, _, .int i, _ => .int i
  | _, _, _, .str z, _ => .str z
  | _, _, _, .lst h t, n => .lst (e _ _ h fun z => n (by rw [z] <;> exact List.mem_cons_self)) (lts_but e ha t fun z => n (List.mem_cons_of_mem _ z))
  | _, _, _, .tup h t, n => .tup (e _ _ h fun z => by obtain ⟨xs, q⟩ := ha; rw [z, q] at h; cases h) (lts_but e ha t n)
  | _, _, _, .dic h, _ => .dic (e _ _ h fun z => by obtain ⟨xs, q⟩ := ha; rw [z, q] at h; cases h)
theorem lts_but {a : Addr} (e : ∀ c o, H c = some o → c ≠ a → H' c = some o) (ha : ∃ xs, H a = some (.lst xs)) : ∀ {v : List V} {d : List PyData} {ls : List Addr}, Lts H v d ls → a ∉ ls → Lts H' v d ls
  | _, _, _, .nil, _ => .nil
  | _, _, _, .cons h t, n => .cons (lt_but e ha h fun z => n (List.mem_append_left _ z)) (lts_but e ha t fun z => n (List.mem_append_right _ z))
end
mutual
theorem lt_same (e : Same H H') : ∀ {v : V} {d : PyData} {ls : List Addr}, Lt H v d ls → Lt H' v d ls
  | _, _, _, .non => .non
  | _, _, _, .bl b => .bl b
  | _, _, _, .int i => .int i
  | _, _, _, .str z => .str z
  | _, _, _, .lst h t => .lst (e _ _ h) (lts_same e t)
  | _, _, _, .tup h t => .tup (e _ _ h) (lts_same e t)
  | _, _, _, .dic h => .dic (e _ _ h)
theorem lts_same (e : Same H H') : ∀ {v : List V} {d : List PyData} {ls : List Addr}, Lts H v d ls → Lts H' v d ls
  | _, _, _, .nil => .nil
  | _, _, _, .cons h t => .cons (lt_same e h) (lts_same e t)
end
mutual
theorem lt_at : ∀ {v : V} {d : PyData} {ls : List Addr}, Lt H v d ls → ∀ a ∈ ls, ∃ xs, H a = some (.lst xs)
  | _, _, _, .non, _, z => nomatch z
  | _, _, _, .bl b, _, z => nomatch z
  | _, _, _, .int i, _, z => nomatch z
  | _, _, _, .str s, _, z => nomatch z
  | _, _, _, .lst h t, b, z => (List.mem_cons.mp z).elim (fun q => ⟨_, (congrArg H q).trans h⟩) fun q => lts_at t b q
  | _, _, _, .tup h t, b, z => lts_at t b z
  | _, _, _, .dic h, _, z => nomatch z
theorem lts_at : ∀ {v : List V} {d : List PyData} {ls : List Addr}, Lts H v d ls → ∀ a ∈ ls, ∃ xs, H a = some (.lst xs)
  | _, _, _, .nil, _, z => nomatch z
  | _, _, _, .cons h t, b, z => (List.mem_append.mp z).elim (lt_at h b) (lts_at t b)
end
theorem lts_app : ∀ {vs vs' : List V} {ds ds' : List PyData} {ls ls' : List Addr}, Lts H vs ds ls → Lts H vs' ds' ls' → Lts H (vs ++ vs') (ds ++ ds') (ls ++ ls')
  | _, _, _, _, _, _, .nil, t => t
  | _, _, _, _, _, _, .cons (l1 := l1) (l2 := l2) h t, t' => by
    rw [List.append_assoc]
    exact .cons h (lts_app t t')
theorem lts_len : ∀ {vs : List V} {ds : List PyData} {ls : List Addr}, Lts H vs ds ls → vs.length = ds.length
  | _, _, _, .nil => rfl
  | _, _, _, .cons _ t => congrArg Nat.succ (lts_len t)
theorem lts_get : ∀ {vs : List V} {ds : List PyData} {ls : List Addr}, Lts H vs ds ls → ∀ (i : Nat) (v : V), vs[i]? = some v → ∃ d l, ds[i]? = some d ∧ Lt H v d l ∧ ∀ a ∈ l, a ∈ ls
  | _, _, _, .nil, i, v, h => by simp at h
  | _, _, _, .cons (d := d) (l1 := l1) h t, 0, v, e => by
    obtain rfl := Option.some.inj e
    exact ⟨d, l1, rfl, h, fun a z => List.mem_append_left _ z⟩
  | _, _, _, .cons h t, i + 1, v, e => by
    obtain ⟨d, l, e1, e2, e3⟩ := lts_get t i v e
    exact ⟨d, l, e1, e2, fun a z => List.mem_append_right _ (e3 a z)⟩
/-- a list of the data at the top: it is met in no other one -/
theorem lts_sep : ∀ {vs : List V} {ds : List PyData} {ls : List Addr}, Lts H vs ds ls → ls.Nodup → ∀ (j : Nat) (v : V), vs[j]? = some v → ∃ d l, ds[j]? = some d ∧ Lt H v d l ∧ (∀ a ∈ l, a ∈ ls) ∧
    ∀ (i : Nat) (x : V), i ≠ j → vs[i]? = some x → ∃ d' l', ds[i]? = some d' ∧ Lt H x d' l' ∧ ∀ a ∈ l, a ∉ l'
  | _, _, _, .nil, _, i, v, h => by simp at h
  | _, _, _, .cons (d := d) (l1 := l1) (l2 := l2) h t, nd, 0, v, e => by
    obtain rfl := Option.some.inj e
    refine ⟨d, l1, rfl, h, fun a z => List.mem_append_left _ z, fun i x ne ex => ?_⟩
    cases i with
    | zero => exact absurd rfl ne
    | succ i =>
      obtain ⟨d', l', e1, e2, e3⟩ := lts_get t i x ex
      exact ⟨d', l', e1, e2, fun a z z' => (List.nodup_append.mp nd).2.2 a z a (e3 a z') rfl⟩
  | _, _, _, .cons (d := d) (l1 := l1) (l2 := l2) h t, nd, j + 1, v, e => by
    obtain ⟨d1, l, e1, e2, e3, e4⟩ := lts_sep t (List.nodup_append.mp nd).2.1 j v e
    refine ⟨d1, l, e1, e2, fun a z => List.mem_append_right _ (e3 a z), fun i x ne ex => ?_⟩
    cases i with
    | zero =>
      obtain rfl := Option.some.inj ex
      exact ⟨d, l1, rfl, h, fun a z z' => (List.nodup_append.mp nd).2.2 a z' a (e3 a z) rfl⟩
    | succ i => exact e4 i x (fun z => ne (by rw [z])) ex
end
/-! ### kinds of data -/
def numD : PyData → Option Int
  | .int i => some i
  | _ => none
def kindD : PyData → String
  | .none => "NoneType"
  | .bool _ => "bool"
  | .int _ => "int"
  | .str _ => "str"
  | .list _ => "list"
  | .tuple _ => "tuple"
  | .dict _ => "dict"
mutual
def nol : PyData → Bool
  | .list _ => false
  | .tuple ds => nols ds
  | .dict _ => true
  | _ => true
def nols : List PyData → Bool
  | [] => true
  | d :: ds => nol d && nols ds
end
section
variable {H : Hp} {K : PySem.W.Frag}
theorem lt_num {v : V} {d : PyData} {ls : List Addr} (h : Lt H v d ls) : Num K H v (numD d) := by
  cases h with
  | non => exact .no whl_non
  | bl b => exact .no (whl_bl b)
  | int i => exact .is i
  | str z => exact .no (whl_str z)
  | lst h t => exact .no (whl_lst h)
  | tup h t => exact .no (whl_tup h)
  | dic h => exact .no (whl_dic h)
theorem lt_isk {v : V} {d : PyData} {ls : List Addr} {T : String} {b : Bool} (h : Lt H v d ls) (e : kitB (kindD d) T = some b) : IsK K H v T b := by
  cases h with
  | non => exact isk_non _ e
  | bl b => exact isk_bl b _ e
  | int i => exact isk_int i _ e
  | str z => exact isk_str z _ e
  | lst h t => exact isk_lst h _ e
  | tup h t => exact isk_tup h _ e
  | dic h => exact isk_dic h _ e
mutual
theorem lt_nol : ∀ {v : V} {d : PyData} {ls : List Addr}, Lt H v d ls → nol d = true → ls = []
  | _, _, _, .non, _ => rfl
  | _, _, _, .bl b, _ => rfl
  | _, _, _, .int i, _ => rfl
  | _, _, _, .str z, _ => rfl
  | _, _, _, .lst h t, e => by simp [nol] at e
  | _, _, _, .tup h t, e => lts_nol t (by simpa [nol] using e)
  | _, _, _, .dic h, _ => rfl
theorem lts_nol : ∀ {v : List V} {d : List PyData} {ls : List Addr}, Lts H v d ls → nols d = true → ls = []
  | _, _, _, .nil, _ => rfl
  | _, _, _, .cons h t, e => by
    have e2 := Bool.and_eq_true_iff.mp (by simpa [nols] using e)
    rw [lt_nol h e2.1, lts_nol t e2.2] <;> rfl
end
end
/-- such a datum is told by repr -/
def okD (d : PyData) : Bool := (nol d || !d.hasDict) && (d.showable && (decide (d.depth ≤ 60) && (decide (d.shown.length ≤ sizeLine) && PyData.strOk d.shown)))
theorem lt_rep {H : Hp} {K : PySem.W.Frag} {v : V} {d : PyData} {ls : List Addr} (h : Lt H v d ls) (e : okD d = true) : Rep K H v d.shown := by
  obtain ⟨e1, e⟩ := He.ba e
  obtain ⟨e2, e⟩ := He.ba e
  obtain ⟨e3, e⟩ := He.ba e
  obtain ⟨e4, e5⟩ := He.ba e
  refine ⟨d, ls, lt_dq h, fun z => ?_, e2, of_decide_eq_true e3, of_decide_eq_true e4, e5, rfl⟩
  rw [z] at e1
  rw [lt_nol h (by simpa using e1)]
  exact List.not_mem_nil
/-! ### displays -/
def tLit (S : L2.St → Prop) (d : PyData) : TE := fun σ H Q => S σ ∧ ∀ v H' ls, Same H H' → Lt H' v d ls → ls.Nodup → (∀ a ∈ ls, H a = none) → Q v H'
def tLits (S : L2.St → Prop) (ds : List PyData) : TA := fun σ H Q => S σ ∧ ∀ vs H' ls, Same H H' → Lts H' vs ds ls → ls.Nodup → (∀ a ∈ ls, H a = none) → Q vs H'
theorem upd_same_as {H : Hp} {p : Addr} {o : HO} (n : H p = none) : Same H (upd H p o) := fun c q e => by rw [upd_ne (ne_of_none e n)] <;> exact e
section
variable {X : Cx} {S : L2.St → Prop} {d : PyData} {ds : List PyData} {e : Expr} {es : List Expr} {pos : Pos}
theorem pe_of {te te' : TE} (h : ∀ σ H Q, te' σ H Q → te σ H Q) (p : PE X e te) : PE X e te' := ⟨fun pins s σ H Q I q => p.run pins s σ H Q I (h _ _ _ q)⟩
theorem pa_of {te te' : TA} (h : ∀ σ H Q, te' σ H Q → te σ H Q) (p : PA X es te) : PA X es te' := ⟨fun ps pins s σ H Q I q => p.run ps pins s σ H Q I (h _ _ _ q)⟩
theorem li_non {j : Nat} : PE X (.Constant .none j pos) (tLit S .none) := pe_of (fun σ H Q h => h.2 .non H [] (Same.refl H) .non List.nodup_nil fun _ z => nomatch z) pe_non
theorem li_bl {b : Bool} {j : Nat} : PE X (.Constant (.bool b) j pos) (tLit S (.bool b)) := pe_of (fun σ H Q h => h.2 (.bl b) H [] (Same.refl H) (.bl b) List.nodup_nil fun _ z => nomatch z) pe_bl
theorem li_str {x : Str} {j : Nat} : PE X (.Constant (.str x) j pos) (tLit S (.str x)) := pe_of (fun σ H Q h => h.2 (.str x) H [] (Same.refl H) (.str x) List.nodup_nil fun _ z => nomatch z) pe_str
theorem li_of {te : TE} (i : Int) (h : ∀ σ H Q, S σ → Q (.int i) H → te σ H Q) (p : PE X e te) : PE X e (tLit S (.int i)) := pe_of (fun σ H Q q => h σ H Q q.1 (q.2 (.int i) H [] (Same.refl H) (.int i) List.nodup_nil fun _ z => nomatch z)) p
theorem li_int {i : Int} {j : Nat} : PE X (.Constant (.int i) j pos) (tLit S (.int i)) := li_of i (fun _ _ _ _ q => q) pe_int
theorem li_neg {i : Int} {j : Nat} {pos2 : Pos} : PE X (.UnaryOp .USub (.Constant (.int i) j pos) pos2) (tLit S (.int (-i))) := li_of (-i) (fun _ _ _ _ q => ⟨_, rfl, q⟩) (pe_un un_neg pe_int)
theorem li_dic : PE X (.Dict [] [] pos) (tLit S (.dict [])) := pe_of (fun σ H Q h p np => h.2 (.ref p) _ [] (upd_same_as np) (.dic upd_same) List.nodup_nil fun _ z => nomatch z) pe_dnewK
theorem lis_nil : PA X [] (tLits S []) := pa_of (fun σ H Q h => h.2 [] H [] (Same.refl H) .nil List.nodup_nil fun _ z => nomatch z) pa_nil
theorem lis_cons (h : PE X e (tLit S d)) (t : PA X es (tLits S ds)) (hs : starEach (e :: es) X.env = (false, eval e X.env) :: starEach es X.env := by rfl) : PA X (e :: es) (tLits S (d :: ds)) := by
  refine pa_of (fun σ H Q q => ?_) (pa_cons h t hs)
  refine ⟨q.1, fun v H1 l1 s1 t1 n1 f1 => ⟨q.1, fun vs H2 l2 s2 t2 n2 f2 => q.2 (v :: vs) H2 (l1 ++ l2) (s1.trans s2) (.cons (lt_same s2 t1) t2) ?_ fun a z => ?_⟩⟩
  · refine List.nodup_append.mpr ⟨n1, n2, fun a z b z2 e => ?_⟩
    obtain ⟨xs, y⟩ := lt_at t1 a z
    rw [e, f2 b z2] at y
    cases y
  · rcases List.mem_append.mp z with z | z
    · exact f1 a z
    · exact s1.free (f2 a z)
theorem li_tup {x : Nat} (h : PA X es (tLits S ds)) (z : ds.length ≤ 1000) : PE X (.Tuple es x pos) (tLit S (.tuple ds)) := by
  refine pe_of (fun σ H Q q => ?_) (pe_tup h)
  refine ⟨q.1, fun vs H1 ls s1 t1 n1 f1 => ⟨?_, fun p np => q.2 (.ref p) _ ls (s1.trans (upd_same_as np)) (.tup upd_same (lts_same (upd_same_as np) t1)) n1 f1⟩⟩
  rw [lts_len t1, sizeLine_eq]
  omega
theorem li_lst (h : PA X es (tLits S ds)) (z : ds.length ≤ 1000) : PE X (.List es pos) (tLit S (.list ds)) := by
  refine pe_of (fun σ H Q q => ?_) (pe_lst h)
  refine ⟨q.1, fun vs H1 ls s1 t1 n1 f1 => ⟨?_, fun p np => q.2 (.ref p) _ (p :: ls) (s1.trans (upd_same_as np)) (.lst upd_same (lts_same (upd_same_as np) t1)) (List.nodup_cons.mpr ⟨fun z => ?_, n1⟩) fun a z => ?_⟩⟩
  · rw [lts_len t1, sizeLine_eq]
    omega
  · obtain ⟨xs, y⟩ := lts_at t1 p z
    rw [np] at y
    cases y
  · rcases List.mem_cons.mp z with z | z
    · rw [z]
      exact s1.free np
    · exact f1 a z
end
end Xl
/-! Own ground, part K: written lists gone through, one of whose elements is a list that is lengthened. -/
namespace Xk
open PySem PySem.Spec PyProof.Rows L2 Xa Xb Xc Xp Xr Xl
/-- all but a is as it was -/
def Evo (a : Addr) (H H' : Hp) : Prop := ∀ c o, H c = some o → c ≠ a → H' c = some o
theorem Evo.same {a : Addr} {H H' H2 : Hp} (e : Evo a H H') (s : Same H' H2) : Evo a H H2 := fun c o h n => s c o (e c o h n)
theorem Evo.trans {a : Addr} {H H' H2 : Hp} (e : Evo a H H') (s : Evo a H' H2) : Evo a H H2 := fun c o h n => s c o (e c o h n) n
theorem Evo.of {a : Addr} {H H' : Hp} (s : Same H H') : Evo a H H' := fun c o h _ => s c o h
theorem Evo.all {a : Addr} {H0 H H' : Hp} (s : Same H0 H) (n : H0 a = none) (e : Evo a H H') : Same H0 H' := fun c o h => e c o (s c o h) (ne_of_none h n)
def mores (k : Nat) : List V := List.replicate k (.str "more")
def mored (base : List PyData) (k : Nat) : PyData := .list (base ++ List.replicate k (.str "more"))
structure Pk (H : Hp) (vs : List V) (ds : List PyData) (j : Nat) (base : List PyData) (a : Addr) (xs : List V) : Prop where
  pos : vs[j]? = some (.ref a)
  lst : H a = some (.lst xs)
  els : Lts H xs base []
  oth : ∀ (i : Nat) (x : V), i ≠ j → vs[i]? = some x → ∃ d l, ds[i]? = some d ∧ Lt H x d l ∧ a ∉ l
theorem pick {H : Hp} {vs : List V} {ds : List PyData} {ls : List Addr} {j : Nat} {base : List PyData} (t : Lts H vs ds ls) (nd : ls.Nodup) (hj : ds[j]? = some (.list base)) (nb : nols base = true) : ∃ a xs, Pk H vs ds j base a xs ∧ a ∈ ls := by
  have hl : j < vs.length := by
    rw [lts_len t]
    exact (List.getElem?_eq_some_iff.mp hj).1
  obtain ⟨d, l, e1, e2, e3, e4⟩ := lts_sep t nd j vs[j] (List.getElem?_eq_getElem hl)
  rw [hj] at e1
  obtain rfl := Option.some.inj e1
  generalize hv : vs[j] = v at e2
  cases e2 with
  | lst h t2 =>
    have z := lts_nol t2 nb
    subst z
    exact ⟨_, _, ⟨by rw [List.getElem?_eq_getElem hl, hv], h, t2, fun i x ne ex => let ⟨d', l', q1, q2, q3⟩ := e4 i x ne ex; ⟨d', l', q1, q2, q3 _ List.mem_cons_self⟩⟩, e3 _ List.mem_cons_self⟩
section
variable {H H' : Hp} {vs : List V} {ds : List PyData} {j : Nat} {base : List PyData} {a : Addr} {xs : List V} {i : Nat} {x : V} {K : PySem.W.Frag}
theorem lts_more (k : Nat) : Lts H (mores k) (List.replicate k (.str "more")) [] := by
  induction k with
  | zero => exact .nil
  | succ k ih => exact .cons (.str _) ih
theorem Pk.elem (p : Pk H vs ds j base a xs) (k : Nat) (e : Evo a H H') (hk : i = j → H' a = some (.lst (xs ++ mores k))) (hx : vs[i]? = some x) : ∃ d l, Lt H' x d l ∧ (i ≠ j → ds[i]? = some d) ∧ (i = j → d = mored base k ∧ x = .ref a) := by
  by_cases ij : i = j
  · subst ij
    rw [p.pos] at hx
    obtain rfl := Option.some.inj hx
    have q : Lts H' (xs ++ mores k) (base ++ List.replicate k (.str "more")) ([] ++ []) := lts_app (lts_but e ⟨_, p.lst⟩ p.els (by simp)) (lts_more k)
    exact ⟨_, _, .lst (hk rfl) q, fun z => absurd rfl z, fun _ => ⟨rfl, rfl⟩⟩
  · obtain ⟨d, l, q1, q2, q3⟩ := p.oth i x ij hx
    exact ⟨d, l, lt_but e ⟨_, p.lst⟩ q2 q3, fun _ => q1, fun z => absurd z ij⟩
theorem Pk.res (p : Pk H vs ds j base a xs) (k : Nat) (kz : k < 100) (e : Evo a H H') (hk : i = j → H' a = some (.lst (xs ++ mores k))) (hx : vs[i]? = some x) (bz : base.length < 100)
    (ok : ∀ d, i ≠ j → ds[i]? = some d → okD d = true ∧ kitB (kindD d) "list" = some false) (okm : i = j → okD (mored base (k + 1)) = true) :
    ∃ t H2, Res K H' x t H2 ∧ Evo a H' H2 ∧ (i ≠ j → H2 = H') ∧ (i = j → H2 a = some (.lst (xs ++ mores (k + 1)))) := by
  by_cases ij : i = j
  · have hk2 := hk ij
    have okm2 := okm ij
    subst ij
    rw [p.pos] at hx
    obtain rfl := Option.some.inj hx
    have em : (xs ++ mores k) ++ [V.str "more"] = xs ++ mores (k + 1) := by
      unfold mores
      rw [List.append_assoc, List.replicate_succ']
    have hs : (upd H' a (.lst (xs ++ mores (k + 1)))) a = some (.lst (xs ++ mores (k + 1))) := upd_same
    have ev : Evo a H' (upd H' a (.lst (xs ++ mores (k + 1)))) := fun c o h n => by rw [upd_ne n] <;> exact h
    have q : Lts (upd H' a (.lst (xs ++ mores (k + 1)))) (xs ++ mores (k + 1)) (base ++ List.replicate (k + 1) (.str "more")) ([] ++ []) := lts_app (lts_but (e.trans ev) ⟨_, p.lst⟩ p.els (by simp)) (lts_more (k + 1))
    have r : Rep K (upd H' a (.lst ((xs ++ mores k) ++ [V.str "more"]))) (.ref a) (mored base (k + 1)).shown := by
      rw [em]
      exact lt_rep (.lst hs q) okm2
    have len := lts_len p.els
    have R : Res K H' (.ref a) (mored base (k + 1)).shown (upd H' a (.lst ((xs ++ mores k) ++ [V.str "more"]))) := Res.list hk2 (by rw [List.length_append]; unfold mores; rw [List.length_replicate]; omega) r
    refine ⟨_, _, R, by rw [em] <;> exact ev, fun z => absurd rfl z, fun _ => ?_⟩
    rw [em] <;> exact hs
  · obtain ⟨d, l, q1, q2, q3⟩ := p.oth i x ij hx
    obtain ⟨o1, o2⟩ := ok d ij q1
    have q4 := lt_but e ⟨_, p.lst⟩ q2 q3
    exact ⟨_, H', .other (lt_isk q4 o2) (lt_rep q4 o1), Evo.of (Same.refl _), fun _ => rfl, fun z => absurd z ij⟩
end
/-! ### the told triple -/
def triple (b1 b2 : Bool) (t : Str) : PyData := .list [.bool b1, .bool b2, .str t]
theorem triple_shaped (b1 b2 : Bool) {t : Str} (h : PyData.strOk t = true) : SeqAt.shaped (triple b1 b2 t) = true := by
  simp [h, SeqAt.shaped, triple, PyData.canLay0, PyData.canLayAll0, PyData.depth, PyData.depthAll]
theorem triple_eqv (b1 b2 : Bool) (t : Str) : PyData.eqv (triple b1 b2 t) (triple b1 b2 t) = true := by
  simp [triple, PyData.eqv, PyData.eqvAll]
theorem triple_at {K : PySem.W.Frag} {H : Hp} {r : Addr} {b1 b2 : Bool} {t : Str} (h : H r = some (.lst [.bl b1, .bl b2, .str t])) : Dp K H (.ref r) (triple b1 b2 t) :=
  .lst (SqL.of h) (.cons (.bl _) (.cons (.bl _) (.cons (.str _) .nil)))
end Xk
/-! Own ground, part T: lists of tuples of ints as data. -/
namespace Xt
open PySem PySem.Spec PyProof.Rows L2 Xa Xb Xc Xp Xr Xl Xk
def tupD (l : List Int) : PyData := .tuple (l.map .int)
def lisD (ls : List (List Int)) : PyData := .list (ls.map tupD)
section
theorem ints_lay : ∀ l : List Int, PyData.canLayAll0 (l.map .int) = true
  | [] => by simp [PyData.canLayAll0]
  | x :: l => by simp [PyData.canLayAll0, PyData.canLay0, ints_lay l]
theorem tups_lay : ∀ ls : List (List Int), PyData.canLayAll0 (ls.map tupD) = true
  | [] => by simp [PyData.canLayAll0]
  | x :: l => by simp [PyData.canLayAll0, PyData.canLay0, tupD, ints_lay x, tups_lay l]
theorem ints_depth : ∀ l : List Int, PyData.depthAll (l.map .int) = 0
  | [] => by simp [PyData.depthAll]
  | x :: l => by simp [PyData.depthAll, PyData.depth, ints_depth l]
theorem tups_depth : ∀ ls : List (List Int), PyData.depthAll (ls.map tupD) ≤ 1
  | [] => by simp [PyData.depthAll]
  | x :: l => by
    have := tups_depth l
    simp only [List.map_cons, PyData.depthAll, PyData.depth, tupD, ints_depth]
    omega
theorem lis_depth (ls : List (List Int)) : (lisD ls).depth ≤ 2 := by
  have := tups_depth ls
  simp only [lisD, PyData.depth]
  omega
theorem ints_nodict : ∀ l : List Int, PyData.hasDictAll (l.map .int) = false
  | [] => by simp [PyData.hasDictAll]
  | x :: l => by simp [PyData.hasDictAll, PyData.hasDict, ints_nodict l]
theorem tups_nodict : ∀ ls : List (List Int), PyData.hasDictAll (ls.map tupD) = false
  | [] => by simp [PyData.hasDictAll]
  | x :: l => by simp [PyData.hasDictAll, PyData.hasDict, tupD, ints_nodict x, tups_nodict l]
theorem lis_shaped (ls : List (List Int)) : SeqAt.shaped (lisD ls) = true := by
  have h1 : (lisD ls).canLay0 = true := by simp [lisD, PyData.canLay0, tups_lay]
  have h2 := lis_depth ls
  have h3 : (lisD ls).depth ≤ 64 := by omega
  simp [SeqAt.shaped, h1, h3]
theorem lis_eqv (ls : List (List Int)) : PyData.eqv (lisD ls) (lisD ls) = true := SeqAt.eqv_refl _ (by simp [lisD, PyData.canLay0, tups_lay])
/-- short ones of bounded ints -/
def Short (ls : List (List Int)) : Prop := ls.length < 64 ∧ ∀ l ∈ ls, l.length ≤ 3 ∧ ∀ z ∈ l, z.natAbs < 10 ^ 30
theorem log_lt {z : Int} (h : z.natAbs < 10 ^ 30) : z.natAbs.log2 < 100 := by
  have h1 : z.natAbs < 2 ^ 100 := Nat.lt_of_lt_of_le h (by decide)
  exact PySem.Flt.log2_lt_of (k := 100) (by decide) h1
theorem ints_showable : ∀ l : List Int, (∀ z ∈ l, z.natAbs < 10 ^ 30) → PyData.showableAll (l.map .int) = true
  | [], _ => by simp [PyData.showableAll]
  | x :: l, h => by
    have h1 := log_lt (h x List.mem_cons_self)
    have h2 : x.natAbs.log2 < 1920 := by omega
    simp [PyData.showableAll, PyData.showable, h2, ints_showable l fun z hz => h z (List.mem_cons_of_mem _ hz)]
theorem tups_showable : ∀ ls : List (List Int), (∀ l ∈ ls, ∀ z ∈ l, z.natAbs < 10 ^ 30) → PyData.showableAll (ls.map tupD) = true
  | [], _ => by simp [PyData.showableAll]
  | x :: l, h => by simp [PyData.showableAll, PyData.showable, tupD, ints_showable x (h x List.mem_cons_self), tups_showable l fun z hz => h z (List.mem_cons_of_mem _ hz)]
theorem int_short {z : Int} (h : z.natAbs < 10 ^ 30) : (PyData.int z).shown.length ≤ 32 := by
  have e := int_text_length_le10 (k := 30) (by decide) h
  show (Str.ofString (toString z)).length ≤ 32
  rw [PySem.ofString_length]
  omega
theorem ints_short : ∀ l : List Int, (∀ z ∈ l, z.natAbs < 10 ^ 30) → PyData.leavesShortAll 32 (l.map .int) = true
  | [], _ => by simp [PyData.leavesShortAll]
  | x :: l, h => by simp [PyData.leavesShortAll, PyData.leavesShort, int_short (h x List.mem_cons_self), ints_short l fun z hz => h z (List.mem_cons_of_mem _ hz)]
theorem tups_short : ∀ ls : List (List Int), (∀ l ∈ ls, ∀ z ∈ l, z.natAbs < 10 ^ 30) → PyData.leavesShortAll 32 (ls.map tupD) = true
  | [], _ => by simp [PyData.leavesShortAll]
  | x :: l, h => by simp [PyData.leavesShortAll, PyData.leavesShort, tupD, ints_short x (h x List.mem_cons_self), tups_short l fun z hz => h z (List.mem_cons_of_mem _ hz)]
theorem ints_weight : ∀ l : List Int, (∀ z ∈ l, z.natAbs < 10 ^ 30) → PyData.weightAll (l.map .int) ≤ 101 * l.length
  | [], _ => by simp [PyData.weightAll]
  | x :: l, h => by
    have h1 := log_lt (h x List.mem_cons_self)
    have h2 := ints_weight l fun z hz => h z (List.mem_cons_of_mem _ hz)
    have h3 : PyData.weight (.int x) ≤ 100 := by
      simp only [PyData.weight]
      split <;> omega
    simp only [List.map_cons, PyData.weightAll, List.length_cons]
    omega
theorem tups_weight : ∀ ls : List (List Int), (∀ l ∈ ls, l.length ≤ 3 ∧ ∀ z ∈ l, z.natAbs < 10 ^ 30) → PyData.weightAll (ls.map tupD) ≤ 304 * ls.length
  | [], _ => by simp [PyData.weightAll]
  | x :: l, h => by
    obtain ⟨h1, h4⟩ := h x List.mem_cons_self
    have h2 := tups_weight l fun z hz => h z (List.mem_cons_of_mem _ hz)
    have h3 := ints_weight x h4
    simp only [List.map_cons, PyData.weightAll, List.length_cons, tupD, PyData.weight]
    omega
theorem lis_len {ls : List (List Int)} (h : Short ls) : (lisD ls).shown.length ≤ sizeLine := by
  obtain ⟨h1, h2⟩ := h
  have h3 := tups_short ls fun l hl => (h2 l hl).2
  have h4 := tups_weight ls h2
  have h5 := PyData.shown_le 32 (by decide) (lisD ls) (by simpa [lisD, PyData.leavesShort] using h3)
  have h6 : (lisD ls).weight ≤ 304 * 64 := by
    simp only [lisD, PyData.weight]
    omega
  have h7 : (32 + 2) * (lisD ls).weight ≤ 34 * (304 * 64) := Nat.mul_le_mul (Nat.le_refl _) h6
  rw [sizeLine_eq]
  omega
end
section
variable {K : PySem.W.Frag} {H : Hp}
theorem dqs_ints : ∀ l : List Int, Dqs K H (l.map V.int) (l.map .int) []
  | [] => .nil
  | x :: l => .cons (l1 := []) (.int x) (dqs_ints l)
theorem dqs_tups : ∀ ks : List (Addr × List Int), (∀ q ∈ ks, H q.1 = some (.tup (q.2.map V.int))) → Dqs K H (ks.map fun q => V.ref q.1) ((ks.map (·.2)).map tupD) []
  | [], _ => .nil
  | q :: ks, h => .cons (l1 := []) (.tup (SqT.of (h q List.mem_cons_self)) (dqs_ints q.2)) (dqs_tups ks fun z hz => h z (List.mem_cons_of_mem _ hz))
/-- the reading of repr of such a list -/
theorem rr_lis {u : Addr} {ks : List (Addr × List Int)} {Q : VK} (h : H u = some (.lst (ks.map fun q => V.ref q.1))) (t : ∀ q ∈ ks, H q.1 = some (.tup (q.2.map V.int))) (s : Short (ks.map (·.2))) (q : Q (.str (lisD (ks.map (·.2))).shown) H) : rRepr K [V.ref u] H Q := by
  refine ⟨.ref u, lisD (ks.map (·.2)), [u], rfl, .lst (SqL.of h) (dqs_tups ks t), fun z => ?_, ?_, ?_, lis_len s, q⟩
  · have := tups_nodict (ks.map (·.2))
    simp only [lisD, PyData.hasDict] at z
    rw [this] at z
    cases z
  · simp only [lisD, PyData.showable]
    exact tups_showable _ fun l hl => (s.2 l hl).2
  · have := lis_depth (ks.map (·.2))
    omega
/-- what the reading of repr of such a list asks -/
theorem lis_in {u : Addr} {ks : List (Addr × List Int)} (h : H u = some (.lst (ks.map fun q => V.ref q.1))) (t : ∀ q ∈ ks, H q.1 = some (.tup (q.2.map V.int))) (s : Short (ks.map (·.2))) :
    Dq K H (.ref u) (lisD (ks.map (·.2))) [u] ∧ ((lisD (ks.map (·.2))).hasDict = true → sysModules ∉ [u]) ∧ (lisD (ks.map (·.2))).showable = true ∧ (lisD (ks.map (·.2))).depth ≤ 60 ∧ (lisD (ks.map (·.2))).shown.length ≤ sizeLine := by
  refine ⟨.lst (SqL.of h) (dqs_tups ks t), fun z => ?_, ?_, ?_, lis_len s⟩
  · have := tups_nodict (ks.map (·.2))
    simp only [lisD, PyData.hasDict] at z
    rw [this] at z
    cases z
  · simp only [lisD, PyData.showable]
    exact tups_showable _ fun l hl => (s.2 l hl).2
  · have := lis_depth (ks.map (·.2))
    omega
theorem dp_ints : ∀ l : List Int, DpAll K H (l.map V.int) (l.map .int)
  | [] => .nil
  | x :: l => .cons (.int x) (dp_ints l)
theorem dp_tups : ∀ ks : List (Addr × List Int), (∀ q ∈ ks, H q.1 = some (.tup (q.2.map V.int))) → DpAll K H (ks.map fun q => V.ref q.1) ((ks.map (·.2)).map tupD)
  | [], _ => .nil
  | q :: ks, h => .cons (.tup (SqT.of (h q List.mem_cons_self)) (dp_ints q.2)) (dp_tups ks fun z hz => h z (List.mem_cons_of_mem _ hz))
theorem dp_lis {u : Addr} {ks : List (Addr × List Int)} (h : H u = some (.lst (ks.map fun q => V.ref q.1))) (t : ∀ q ∈ ks, H q.1 = some (.tup (q.2.map V.int))) : Dp K H (.ref u) (lisD (ks.map (·.2))) := .lst (SqL.of h) (dp_tups ks t)
end
end Xt
/-! Own ground, part H: the law called from outside, for defs that know that no repr is under way. -/
namespace Xh
open PySem PySem.Spec PyProof.Rows L2 Xa
/-- what can be tracked at the law's call: at most the script, and that as it stands -/
structure Track (P : Program) (w : World) (K : PySem.W.Frag) (h : Heap) (a : Addr) (ns : List Int) (H : Hp) : Prop where
  only : Only H
  seq : SqL K H a (ns.map V.int)
  hok : HOk P w H h
  just : ∀ b, H b ≠ none → b = a
  notK : H a ≠ none → K.lookup a = none
theorem track_ex {P : Program} {w : World} {K : PySem.W.Frag} {h : Heap} {a : Addr} {vs : List Value} {ns : List Int} (KX : K.In h) (ha : h.get? a = some { cls := .type "list", data := .seq vs.toArray }) (hi : IntsAre vs ns) (hl : ns.length ≤ sizeLine) : ∃ H, Track P w K h a ns H := by
  have rv := vals_ints hi
  have hlen : (ns.map V.int).length ≤ sizeLine := by rw [List.length_map] <;> exact hl
  by_cases hk : K.lookup a = none
  · refine ⟨upd (fun _ => none) a (.frz { cls := .type "list", data := .seq vs.toArray } (.lst (ns.map V.int))), fun b => ?_, .inl (.inr ⟨_, upd_same⟩), fun b u e => ?_, fun b nb => ?_, fun _ => hk⟩
    · by_cases e : b = a
      · rw [e, upd_same]
        exact .inr ⟨_, _, rfl⟩
      · rw [upd_ne e]
        exact .inl rfl
    · by_cases q : b = a
      · rw [q, upd_same] at e
        rw [← Option.some.inj e, q]
        exact ⟨ha, hlen, vs, _, rv, ha⟩
      · rw [upd_ne q] at e
        cases e
    · by_cases e : b = a
      · exact e
      · rw [upd_ne e] at nb
        exact absurd rfl nb
  · obtain ⟨o, ho⟩ := Option.ne_none_iff_exists'.mp hk
    have e := KX a o ho
    rw [ha] at e
    have eo := Option.some.inj e
    subst eo
    exact ⟨fun _ => none, fun _ => .inl rfl, .inr ⟨_, vs.toArray, _, ho, rfl, rfl, rfl, by rw [List.size_toArray, hi.length]; exact hl, by simpa using rv⟩, fun b u z => (nomatch z), fun b z => absurd rfl z, fun z => absurd rfl z⟩
/-- the call -/
theorem lawG {P : Program} {w : World} {K : PySem.W.Frag} {mg mb : Str → Option Value} {k : Nat} {fa a : Addr} {fd : FuncData} {x : Str} {sp : Sp} {s : Shared} {vs : List Value} {ns : List Int} (KX : K.In s.heap) (hns : s.heap.Ns mainGlobals mg) (hb : s.heap.Ns builtinsNs mb)
    (hbb : ∀ x : Str, x ≠ "__name__" → mb x = bootBuiltins x) (hlim : s.heap.NoLimit) (hg : s.gens = #[]) (ha : s.heap.get? a = some { cls := .type "list", data := .seq vs.toArray }) (hi : IntsAre vs ns) (hl : ns.length ≤ sizeLine) (hr : Room k callerA) (hn : NoRep callerA)
    (F : ∀ base : Heap, FnG P w K mg base k fa fd [x] sp) (hbind : ∀ (s : Shared) (u : Value), BindsTo s fd ⟨[u], []⟩ [(x, u)]) (hsp : ∀ H : Hp, SqL K H a (ns.map V.int) → sp [.ref a] H (fun v _ => v = .bl true) E0) :
    codeAny (model P w) callerA (.call (.ref fa) ⟨[.ref a], []⟩) (fun r s' => r = .ok (.ret (.bool true)) ∧ OldK s.heap s'.heap ∧ s'.os = s.os ∧ AllBare s'.gens) s := by
  obtain ⟨H, T⟩ := track_ex (P := P) (w := w) KX ha hi hl
  have free : ∀ {b : Addr} {o : Obj}, s.heap.get? b = some o → (∀ vs n, o.data ≠ .seq vs n) → H b = none := fun {b o} e ne => by
    cases q : H b with
    | none => rfl
    | some u =>
      have eb := T.just b (by rw [q]; simp)
      rw [eb, ha] at e
      have eo := Option.some.inj e
      subst eo
      exact absurd rfl (ne _ _)
  have names : ∀ {b : Addr} {m : Str → Option Value}, s.heap.Ns b m → (hidT s.heap H).Ns b m := fun ⟨o, es, ep, e, d, r⟩ => ⟨o, es, ep, hidT_get e (free e fun vs n z => by rw [d] at z; cases z), d, r⟩
  have kin : K.In (hidT s.heap H) := fun b o e => hidT_get (KX b o e) (by
    cases q : H b with
    | none => rfl
    | some u =>
      have eb := T.just b (by rw [q]; simp)
      have nk := T.notK (by rw [← eb, q]; simp)
      rw [eb, nk] at e
      cases e)
  have md : Mod K mg (hidT s.heap H) := ⟨kin, names hns, ⟨mb, names hb, hbb⟩, let ⟨mc, h1, h2⟩ := hlim; ⟨mc, names h1, h2⟩⟩
  have e0 : Env0 P w K mg (hidT s.heap H) callerA [] s H := ⟨rfl, md, fun b o e => of_hidT e, Nat.le_of_eq (hidT_size _ _), trivial, fun b z => absurd (show b ∈ ([] : List Addr) from z) List.not_mem_nil, T.hok, .of_eq hg⟩
  refine codeAny_mono ((F (hidT s.heap H)).go callerA [] s H ⟨[.ref a], []⟩ [.ref a] [.ref a] _ _ hr hn e0 (hbind s (.ref a)) (.cons rfl .nil) (hsp H T.seq)) fun r s' h => ?_
  cases r with
  | error e => exact False.elim h
  | ok fl =>
    cases fl with
    | next => exact False.elim h
    | brk => exact False.elim h
    | cont => exact False.elim h
    | ret u =>
      obtain ⟨v, H', os, bare, un, hok', r', q⟩ := h
      obtain rfl : v = .bl true := q
      obtain rfl : u = Value.bool true := r'
      refine ⟨rfl, OldK.of_keep fun b o e => ?_, os, bare⟩
      rcases T.only b with z | ⟨ob, xs, z⟩
      · exact un.keep b o e z (fun q => absurd (show b ∈ ([] : List Addr) from q) List.not_mem_nil) List.not_mem_nil
      · obtain ⟨e1, _⟩ := T.hok b _ z
        obtain ⟨e2, _⟩ := hok' b _ (un.frzs b ob _ z)
        rw [← Option.some.inj (e1.symm.trans e)]
        exact e2
/-- the walk behind the head -/
theorem walkG {l : PySem.W.OpenLaw} {n k : Nat} {q : Program} {loose : List Str} {XP : (Str → Option Value) → Heap → Prop} {YP : World → Heap → Prop} {d : DefRec} {x : Str} (hm : l.most = some n) (hn2 : n ≤ sizeLine) (hdf : d.params.defaults = []) (hr : Room k callerA) (hn : NoRep callerA)
    (F : ∀ (w : World) (mg : Str → Option Value) (fa : Addr) (h : Heap), YP w h → h.Ns mainGlobals mg → mg d.name = some (.ref fa) →
      ∃ (K : PySem.W.Frag) (fd : FuncData) (sp : Sp), K.In h ∧ (∀ (s : Shared) (u : Value), BindsTo s fd ⟨[u], []⟩ [(x, u)]) ∧ (∀ (H : Hp) (a : Addr) (ns : List Int), SqL K H a (ns.map V.int) → sp [.ref a] H (fun v _ => v = .bl true) E0) ∧ ∀ base : Heap, FnG l.prog w K mg base k fa fd [x] sp) :
    PySem.W.WalkO q loose XP YP l.row.toRowW d [] (fun f vs => PySem.call f vs) := by
  refine Att.attach_call hm hdf fun w s₀ s₁ mg mb fa o pm cd doc a vs ns G Y ho hd hcd hmg hobj hints hlen hg => ?_
  obtain ⟨K, fd, sp, KX, hb, hsp, hF⟩ := F w mg fa _ Y G.T.g hmg
  exact lawG KX G.T.g G.T.b G.T.builtins G.T.nolimit hg hobj hints (Nat.le_trans hlen hn2) hr hn hF hb fun H hS => hsp H a ns hS
end Xh
/-! Own ground, part V: an own error class called with one keyword. -/
namespace Xv
open PySem PySem.W PySem.Calls PyProof.Rows PySem.HandSPX Builtin Builtin.ObjectAttr
section
variable {P : Program} {w : World} {A : Around} {E : Value → Shared → Prop} {R : Result → Shared → Prop} {h : Heap} {g : Array GenState} {d : Drawn} {t : Nat} {os : OsState}
variable {nm qn : Str} {C N : Addr} {bs bm : List Value} {hdct : Bool} {sn : List Str} {sub : List Value} {ab : Bool} {col : Option Bool} {dd : Option Addr} {k0 k1 k2 k3 k5 : Option Value} {x : Str} {v : Value}
abbrev ObC (nm qn : Str) (C N : Addr) (bs bm : List Value) (hdct : Bool) (sn : List Str) (sub : List Value) (ab : Bool) (col : Option Bool) (dd : Option Addr) (k0 k1 k2 k3 k5 : Option Value) : Obj := excClassObj nm qn C N bs bm hdct sn sub ab col dd k0 k1 k2 k3 k5 "ValueError.__new__"
theorem hasVE (m : refsVE bm = true) (z : String) : (Value.ref C :: bm).contains (.type z) = veTail.contains (.type z) := by
  rw [List.contains_cons, refsVE_contains z bm m]
  rfl
/-- the check ahead of __new__ -/
theorem kwNewCheck {M : Model} (m : refsVE bm = true) {Q : Unit → Shared → Prop} (hC : h.get? C = some (ObC nm qn C N bs bm hdct sn sub ab col dd k0 k1 k2 k3 k5)) (hq : Q () ⟨h, g, d, t, os⟩) : wpAny M A (checkBuiltinCall "ValueError.__new__" ⟨[.ref C], [(x, v)]⟩) Q E ⟨h, g, d, t, os⟩ := by
  have F := F.excBase_ValueError
  have c1 : (Value.ref C :: bm).contains (.type "ValueError") = true := (hasVE m _).trans (by decide +kernel)
  have c2 := F.noStar
  simp only [checkBuiltinCall, F.newKind, F.newSplit, F.newRow]
  repeat (first | refine wpAny_loadPart_at hC ?_ | (refine wpAny_isSubtype_exc hC ?_; rw [c1]) | refine wpAny_staticBase_exc hC ?_ | refine wpAny_madeBy_exc hC ?_ | simp only [bne_self_eq_false, Bool.false_eq_true, if_false] | wp_step)
  exact hq
/-- __new__ -/
theorem kwNew (m : refsVE bm = true) (hC : h.get? C = some (ObC nm qn C N bs bm hdct sn sub ab col dd k0 k1 k2 k3 k5))
    (hq : R (.ok (.ret (.ref (h.objs.size + 1)))) ⟨(h.push (kdv_tup [])).push (excO C h.objs.size), g, d, t, os⟩) : codeAny (model P w) A (.builtin "ValueError.__new__" ⟨[.ref C], [(x, v)]⟩) R ⟨h, g, d, t, os⟩ := by
  have F := F.excBase_ValueError
  have c0 := F.ends
  have c1 : (Value.ref C :: bm).contains (.type "ValueError") = true := (hasVE m _).trans (by decide +kernel)
  have c2 : (Value.ref C :: bm).contains (.type "AttributeError") = false := (hasVE m _).trans (by decide +kernel)
  have c3 : (Value.ref C :: bm).contains (.type "NameError") = false := (hasVE m _).trans (by decide +kernel)
  refine codeAny_builtinAt F.entry ?_
  unfold Builtin.«BaseException.__new__»
  refine PySem.wpAt_bind ?_
  show PySem.wpAt _ _ _ (stack >>= _) _ _ _
  refine PySem.wpAt_bind (PySem.wpAt_stack fun p below => PySem.wpAt_of_wpAny ?_)
  wp_walk
  refine PySem.wpAt_of_wpAny ?_
  rw [F.owner]
  repeat (first | with_reducible refine wpAny_madeHere_exc F.canon hC ?_ | with_reducible refine wpAny_loadPart_at hC ?_ | (with_reducible refine wpAny_isSubtype_exc hC ?_; first | rw [c1] | rw [c2] | rw [c3]) | wp_step)
  show R _ _
  rw [Heap.size_push]
  exact hq
/-- the check ahead of type's call -/
theorem kwTypeCheck {M : Model} {Q : Unit → Shared → Prop} (hC : h.get? C = some (ObC nm qn C N bs bm hdct sn sub ab col dd k0 k1 k2 k3 k5)) (hq : Q () ⟨h, g, d, t, os⟩) : wpAny M A (checkBuiltinCall "type.__call__" ⟨[.ref C], [(x, v)]⟩) Q E ⟨h, g, d, t, os⟩ := by
  have c1 := tc_sub
  have c2 : (⟨h, g, d, t, os⟩ : Shared).TypeIs (.ref C) "type" := ⟨_, hC, rfl⟩
  simp only [checkBuiltinCall, tc_kind, tc_split]
  repeat (any_goals (first | assumption | with_reducible refine wpAny_loadPart_at hC ?_ | with_reducible refine wpAny_onRaise ?_ | with_reducible refine wpAny_map ?_ | wp_step))
/-- type's call -/
theorem kwTypeCall (m : refsVE bm = true) {fI : Addr} {Q : PySem.Fin → Shared → Prop} (hC : h.get? C = some (ObC nm qn C N bs bm hdct sn sub ab col dd k0 k1 k2 k3 k5))
    (hi : Looks (model P w) h (typeLookup (.ref C) "__init__") (some (.ref fI))) (hb : ∀ self, Looks (model P w) h (bindSpecial (.ref fI) self) (.ref fI, [self]))
    (hq : codeAny (model P w) A (.call (.ref fI) ⟨[.ref (h.objs.size + 1)], [(x, v)]⟩) (fun r s' => match r with
      | .ok (.ret u) => u = .none ∧ Q (.done (.ret (.ref (h.objs.size + 1)))) s'
      | .ok _ => False
      | .error e => E e s') ⟨(h.push (kdv_tup [])).push (excO C h.objs.size), g, d, t, os⟩) : wpAny (model P w) A (Builtin.«type.__call__» ⟨[.ref C], [(x, v)]⟩) Q E ⟨h, g, d, t, os⟩ := by
  have F := F.excBase_ValueError
  repeat (first | with_reducible refine wpAny_loadPart_at hC ?_ | with_reducible refine wpAny_madeBy_exc hC ?_ | wp_step)
  refine codeAny_call_builtin_code (Code.quiet_builtin _ F.quiet) (kwNewCheck m hC ?_)
  refine kwNew m hC ?_
  show wpAny _ _ _ _ _ _
  have keep : ∀ b o, h.get? b = some o → ((h.push (kdv_tup [])).push (excO C h.objs.size)).get? b = some o := fun b o e => Heap.get?_push_of_some _ (Heap.get?_push_of_some _ e)
  have hC1 := keep _ _ hC
  have at1 : ((h.push (kdv_tup [])).push (excO C h.objs.size)).get? (h.objs.size + 1) = some (excO C h.objs.size) := by heap_get
  have cc : (Value.ref C :: bm).contains (.ref C) = true := by simp
  have i1 := hi.keeps keep
  have b1 := (hb (.ref (h.objs.size + 1))).keeps keep
  unfold isInstance
  repeat (first | with_reducible refine wpAny_loadPart_at at1 ?_ | (with_reducible refine wpAny_isSubtype_exc hC1 ?_; rw [cc]) | wp_step)
  show wpAny _ _ (typeLookup (.ref C) _) _ _ _
  refine i1.at ?_
  refine wpAny_holding (wpAny_bind (b1.at ?_))
  refine wpAny_bind (wpAny_call (codeAny_mono hq fun r s' z => ?_))
  rcases r with e | (u | _ | _ | _) <;> first | exact z | exact z.elim | skip
  obtain ⟨rfl, z⟩ := z
  first
    | exact wpAny_pure (wpAny_pure z)
    | (wp_walk; exact z)
/-- the class called -/
theorem kwCall (m : refsVE bm = true) {fI : Addr} (hC : h.get? C = some (ObC nm qn C N bs bm hdct sn sub ab col dd k0 k1 k2 k3 k5))
    (hi : Looks (model P w) h (typeLookup (.ref C) "__init__") (some (.ref fI))) (hb : ∀ self, Looks (model P w) h (bindSpecial (.ref fI) self) (.ref fI, [self]))
    (hq : codeAny (model P w) (A.under (.builtin "type.__call__" ⟨[.ref C], [(x, v)]⟩)) (.call (.ref fI) ⟨[.ref (h.objs.size + 1)], [(x, v)]⟩) (InitBack (h.objs.size + 1) R) ⟨(h.push (kdv_tup [])).push (excO C h.objs.size), g, d, t, os⟩) :
    codeAny (model P w) A (.call (.ref C) ⟨[], [(x, v)]⟩) R ⟨h, g, d, t, os⟩ := by
  have c1 := tc_lookup
  have c2 := tc_bind (.ref C)
  have c3 : (⟨h, g, d, t, os⟩ : Shared).TypeIs (.ref C) "type" := ⟨_, hC, rfl⟩
  refine codeAny_of_tree ?_
  show wpAny _ _ (callAny (.ref C) _) _ _ _
  repeat (any_goals (first | assumption | with_reducible refine wpAny_loadPart_at hC ?_ | wp_step))
  refine ⟨rfl, ?_⟩
  refine codeAny_call_builtin_at (Code.quiet_builtin _ (by decide +kernel)) entry_typeCall (kwTypeCheck hC (kwTypeCall m hC hi hb ?_))
  refine codeAny_mono hq fun r s' z => ?_
  rcases r with e | (u | _ | _ | _) <;> exact z
end
end Xv
/-! Own ground, part W: own errors made as values. -/
namespace Xw
open PySem PySem.Spec PyProof.Rows L2 Xa Xb Xc Xp Xm
/-- an error's own dict stands, if it has one -/
def DictAt (H : Hp) : Option Addr → List (Str × V) → Prop
  | some d, fs => H d = some (exd d fs)
  | none, fs => fs = []
section
variable {X : Cx} {pins : List (Addr × Obj)} {σ : L2.St} {H : Hp} {st : Shared}
theorem exo_inst {a C : Addr} {od : Option Addr} {fs : List (Str × V)} (I : Inv X pins σ H st) (ha : H a = some (exo a C od)) (hd : DictAt H od fs) :
    ∃ (ox : Obj) (oo : Option Obj), PySem.W.InstAt st.heap a ox C oo ∧ ∀ o, oo = some o → ∃ mA : Str → Option Value, (∀ n, PySem.W.lookIn n o = some (mA n)) ∧ ∀ n, RelO (fs.lookup n) (mA n) := by
  obtain ⟨t1, e⟩ := exo_at I.hok ha
  cases od with
  | none => exact ⟨_, none, ⟨e, rfl, rfl, trivial⟩, fun o z => nomatch z⟩
  | some d =>
    obtain ⟨mA, hns, hr⟩ := exd_at I.hok (show H d = some (exd d fs) from hd)
    obtain ⟨oD, ho, hl⟩ := lookIn_ns hns
    exact ⟨_, some oD, ⟨e, rfl, rfl, ho⟩, fun o z => ⟨mA, fun n => by rw [← Option.some.inj z]; exact hl n, hr⟩⟩
end
/-- e.f, a made error's field -/
def tXw (K : PySem.W.Frag) (f : Str) (te : TE) : TE := fun σ H Q => te σ H fun x H1 => ∃ (a C d : Addr) (fs : List (Str × V)) (v : V), x = .ref a ∧ H1 a = some (exo a C (some d)) ∧ H1 d = some (exd d fs) ∧ XCls K C f ∧ fs.lookup f = some v ∧ Q v H1
/-- isinstance(e, c), e a made error -/
def rIsw (K : PySem.W.Frag) : List V → Hp → VK → Prop := fun xs H Q => ∃ (a C : Addr) (od : Option Addr) (fs : List (Str × V)) (c : V) (cv : Value) (b : Bool), xs = [.ref a, c] ∧ H a = some (exo a C od) ∧ DictAt H od fs ∧ ExcC K C ∧ ClsV c cv ∧ PySem.W.kitOne K (.ref C) cv = some b ∧ Q (.bl b) H
section
variable {X : Cx} {e : Expr} {te : TE} {pos : Pos} {f : Str}
theorem pe_xw (he : PE X e te) (hb : attributeBase e f X.env (eval e X.env) = eval e X.env := by rfl) : PE X (.Attribute e f pos) (tXw X.K f te) := by
  refine ⟨fun pins st σ H Q I h => attr_of hb (thn (he.run pins st σ H _ I h) fun u s1 ⟨x, H1, I1, rx, a, C, d, fs, v, ex, ea, ed, T, l, q⟩ => ?_)⟩
  subst ex
  obtain rfl : u = Value.ref a := rx
  obtain ⟨ox, oo, J, m⟩ := exo_inst (od := some d) I1 ea ed
  cases oo with
  | none =>
    obtain ⟨t1, e1⟩ := exo_at I1.hok ea
    obtain ⟨j1, j2, j3, j4⟩ := J
    rw [e1] at j1
    rw [← Option.some.inj j1] at j4
    exact j4.elim
  | some od =>
    obtain ⟨mA, hl, hr⟩ := m od rfl
    obtain ⟨u, hu, ru⟩ := RelO.some_of (v := v) (o := mA f) (by rw [← l]; exact hr f)
    exact HandSPX.exc_get I1.kIn J T.xf.ga T.xf.gg T.xf.exC (PySem.W.findObj_own T.xf.hdC T.nof rfl (by rw [hl, hu])) (handed_of ru) ⟨v, H1, I1.tok _, ru, q⟩
theorem call_isw : CallR X (.builtin "isinstance") (rIsw X.K) := by
  intro pins st σ H xs us Q I r h
  obtain ⟨a, C, od, fs, c, cv, b, rfl, ha, hd, T, k, e, q⟩ := h
  obtain ⟨u1, u2, rfl, r1, r2⟩ := vals2 r
  have e2 := k.eq r2
  subst e2
  obtain rfl := (show u1 = Value.ref a from r1)
  obtain ⟨ox, oo, J, _⟩ := exo_inst I ha hd
  have hc : (PySem.W.clsIn X.K C).isSome = true := by
    obtain ⟨cd, hcd, _⟩ := PySem.W.any_some T.hd
    rw [hcd]
    rfl
  exact PySem.W.kia_one (PySem.W.kitx_exc hc T.hg T.hk T.hs T.ha T.hn T.ht T.hm) I.kIn J e (fun z => nomatch z) fun tk => ⟨.bl b, H, I.tok tk, rfl, q⟩
end
/-! ### C(e), C(f=e), C() -/
structure XNew (P : Program) (w : World) (K : PySem.W.Frag) (mg : Str → Option Value) (base : Heap) (x : Str) (C : Addr) (f : Str) : Prop where
  cls : XCls K C f
  glo : mg x = some (.ref C)
  ini : ∃ (fI : Addr) (fd : FuncData), PySem.W.findIn K (.ref C) "__init__" = some (some (.ref fI)) ∧ PySem.W.typeIn K (.ref fI) = some (.type "function") ∧ FnOk P w K mg base CX0 1 fI fd ["self", f] (spXi C f) ∧ Binds K fd ["self", f] [] ∧
    (∃ ds, Vals [V.non] ds ∧ Binds K fd ["self", f] ds) ∧ ∀ (s : Shared) (u v : Value), K.In s.heap → BindsTo s fd ⟨[u], [(f, v)]⟩ ((["self", f] : List Str).zip [u, v])
/-- the reading: a new error with its field -/
def tNew (C : Addr) (f : Str) (te : TE) : TE := fun σ H Q => te σ H fun v H1 => ∀ a d, H1 a = none → H1 d = none → d ≠ a → Q (.ref a) (upd (upd H1 d (exd d [(f, v)])) a (exo a C (some d)))
theorem new2 {H : Hp} {a C d : Addr} {f : Str} {v : V} (ne : d ≠ a) : upd (upd (upd H a (exo a C none)) d (exd d [(f, v)])) a (exo a C (some d)) = upd (upd H d (exd d [(f, v)])) a (exo a C (some d)) := by
  funext b
  by_cases h1 : b = a
  · rw [h1, upd_same, upd_same]
  · rw [upd_ne h1, upd_ne h1]
    by_cases h2 : b = d
    · rw [h2, upd_same, upd_same]
    · rw [upd_ne h2, upd_ne h2, upd_ne h1]
section
variable {X : Cx} {C fI : Addr} {fd : FuncData} {f : Str}
/-- what stands behind the call's own work -/
theorem run_new {pins : List (Addr × Obj)} {σ : L2.St} {H1 : Hp} {hp : Heap} {g : Array GenState} {dr : Drawn} {tk : Nat} {os : OsState} {Q : VK} {v : V} {ar : Args} {us : List Value} {under : List Value} {kws : List (Str × Value)} (F1 : FnOk X.prog X.w X.K X.mg X.base CX0 1 fI fd ["self", f] (spXi C f)) (hr : Room 2 X.A)
    (I1 : Inv X pins σ H1 ⟨hp, g, dr, tk, os⟩) {pushed : List Value} (hb : ∀ s : Shared, X.K.In s.heap → BindsTo s fd ar ((["self", f] : List Str).zip us)) (rel : Vals [V.ref (hp.objs.size + 1), v] us) (q : ∀ a d, H1 a = none → H1 d = none → d ≠ a → Q (.ref a) (upd (upd H1 d (exd d [(f, v)])) a (exo a C (some d)))) :
    codeAny (model X.prog X.w) (X.A.under (.builtin "type.__call__" ⟨.ref C :: under, kws⟩)) (.call (.ref fI) ar) (PySem.W.InitBack (hp.objs.size + 1) fun r s' => match r with
      | .ok (.ret u) => EP X pins σ Q u s'
      | .ok _ => False
      | .error e => X.xe e s') ⟨(hp.push (PySem.W.kdv_tup pushed)).push (HandSPX.excO C hp.objs.size), g, dr, tk, os⟩ := by
  have hsz : hp.objs.size ≤ hp.objs.size + 1 := Nat.le_succ _
  have hn : H1 (hp.objs.size + 1) = none := I1.hok.fresh hsz
  have kk : ∀ b o, hp.get? b = some o → ((hp.push (PySem.W.kdv_tup pushed)).push (HandSPX.excO C hp.objs.size)).get? b = some o := fun b o e => Heap.get?_push_of_some _ (Heap.get?_push_of_some _ e)
  have hget : ((hp.push (PySem.W.kdv_tup pushed)).push (HandSPX.excO C hp.objs.size)).get? (hp.objs.size + 1) = some (HandSPX.excO C hp.objs.size) := by heap_get
  have I2 : Inv X pins σ (upd H1 (hp.objs.size + 1) (exo (hp.objs.size + 1) C none)) ⟨(hp.push (PySem.W.kdv_tup pushed)).push (HandSPX.excO C hp.objs.size), g, dr, tk, os⟩ :=
    I1.laid (t' := tk) (a := hp.objs.size + 1) (o := exo (hp.objs.size + 1) C none) (h' := (hp.push (PySem.W.kdv_tup pushed)).push (HandSPX.excO C hp.objs.size)) kk hsz (exo_ok hget)
  refine codeAny_mono (F1.run _ X.stack _ _ ar us _ (fun u H2 => u = .non ∧ Q (.ref (hp.objs.size + 1)) H2) (fun _ _ _ => False) (hr.make C under kws) (I2.env0.make C under kws) (hb _ I2.kIn) rel ?_) fun r s' hq' => ?_
  · refine ⟨hp.objs.size + 1, v, rfl, upd_same, fun dx n ne => ⟨rfl, ?_⟩⟩
    rw [new2 ne]
    rw [upd_ne ne] at n
    exact q _ dx hn n ne
  · cases r with
    | error er => exact False.elim hq'
    | ok fl =>
      cases fl with
      | ret u =>
        obtain ⟨v2, H2, J, rv, ev, q2⟩ := I2.after hq'
        subst ev
        exact ⟨rv, .ref (hp.objs.size + 1), H2, J, rfl, q2⟩
      | next => exact False.elim hq'
      | brk => exact False.elim hq'
      | cont => exact False.elim hq'
end
section
variable {X : Cx} {C : Addr} {x f : Str} {e : Expr} {te : TE} {p pos kp : Pos}
/-- one argument's wish -/
def one1 (G : V → Hp → Prop) : List V → Hp → Prop
  | [v], H => G v H
  | _, _ => False
theorem pe_new (M : XNew X.prog X.w X.K X.mg X.base x C f) (hr : Room 2 X.A) (he : PE X e te) (hg : Gl X x := by rfl) (hdb : (x == ("__debug__" : Str)) = false := by decide)
    (hst : starEach [e] X.env = (false, eval e X.env) :: starEach [] X.env := by rfl) (hpl : (backTo pos (starEach [] X.env)).any (·.1) = false := by rfl) : PE X (.Call (.Name x p) [e] [] pos) (tNew C f te) := by
  obtain ⟨fI, fd, i1, i2, F, b, _, _⟩ := M.ini
  obtain ⟨nm, q, N, bs, bm, sn, sub, ab, col, dd, k0, k1, k2, k3, k5, hC, hbm⟩ := M.cls.oex.cls
  refine ⟨fun pins s σ H Q I h => wpAny_Call_Name_kw (ld_glob I hg M.glo ?_ hdb)⟩
  refine PySem.W.callWith_K (h₀ := X.base) I.ok.mod.kin M.cls.oex.kC (thn ((pa_cons he pa_nil hst).run pos pins s σ H (one1 fun v H1 => ∀ a d, H1 a = none → H1 d = none → d ≠ a → Q (.ref a) (upd (upd H1 d (exd d [(f, v)])) a (exo a C (some d)))) I h) fun us s1 ⟨vs, H1, I1, r1, q1⟩ => ⟨I1.kIn, ?_⟩) hst hpl
  cases r1 with
  | nil => exact False.elim q1
  | @cons v u vs us rv rs =>
    cases rs with
    | cons _ _ => exact False.elim q1
    | nil =>
      obtain ⟨hp, g, dr, tk, os⟩ := s1
      show wpAny _ _ (call (.ref C) [u]) _ _ _
      refine wpAny_call (codeAny_mono (HandSPX.call_own PySem.F.excBase_ValueError (fun Y => HandSPX.refsVE_contains Y bm hbm) (I1.kIn _ _ hC) (PySem.W.looks_findIn I1.kIn i1) (fun self => PySem.W.bind_fn I1.kIn self i2) (by rw [sizeLine_eq]; exact Nat.le_of_ble_eq_true rfl) (run_new (us := [.ref (hp.objs.size + 1), u]) F hr I1 (fun s3 k3 => ?_) (.cons rfl (.cons rv .nil)) q1)) fun r s3 z => ?_)
      · have y := b s3 [.ref (hp.objs.size + 1), u] k3 rfl
        rwa [List.append_nil] at y
      · cases r with
        | error er => exact z
        | ok fl => cases fl <;> first | exact z | exact False.elim z
theorem pe_new0 (M : XNew X.prog X.w X.K X.mg X.base x C f) (hr : Room 2 X.A) (hg : Gl X x := by rfl) (hdb : (x == ("__debug__" : Str)) = false := by decide) : PE X (.Call (.Name x p) [] [] pos) (tNew C f (tC .non)) := by
  obtain ⟨fI, fd, i1, i2, F, _, ⟨ds, rd, b⟩, _⟩ := M.ini
  obtain ⟨nm, q, N, bs, bm, sn, sub, ab, col, dd, k0, k1, k2, k3, k5, hC, hbm⟩ := M.cls.oex.cls
  refine ⟨fun pins s σ H Q I1 q1 => wpAny_Call_Name_kw (ld_glob I1 hg M.glo ?_ hdb)⟩
  refine PySem.W.callWith_K0 I1.kIn M.cls.oex.kC ?_
  cases rd with
  | @cons v u vs us rv rs =>
    cases rs with
    | nil =>
      obtain ⟨hp, g, dr, tk, os⟩ := s
      show wpAny _ _ (call (.ref C) []) _ _ _
      refine wpAny_call (codeAny_mono (HandSPX.call_own PySem.F.excBase_ValueError (fun Y => HandSPX.refsVE_contains Y bm hbm) (I1.kIn _ _ hC) (PySem.W.looks_findIn I1.kIn i1) (fun self => PySem.W.bind_fn I1.kIn self i2) (by rw [sizeLine_eq]; exact Nat.le_of_ble_eq_true rfl) (run_new (us := [.ref (hp.objs.size + 1), u]) F hr I1 (fun s3 k3 => b s3 [.ref (hp.objs.size + 1)] k3 rfl) (.cons rfl (.cons rv .nil)) q1)) fun r s3 z => ?_)
      cases r with
      | error er => exact z
      | ok fl => cases fl <;> first | exact z | exact False.elim z
theorem pe_newK (M : XNew X.prog X.w X.K X.mg X.base x C f) (hr : Room 2 X.A) (he : PE X e te) (hg : Gl X x := by rfl) (hdb : (x == ("__debug__" : Str)) = false := by decide)
    (hall : (backToKw pos (keywordEach [⟨some f, e, kp⟩] X.env)).all (·.1.isSome) = true := by rfl) (hks : (backToKw pos (keywordEach [⟨some f, e, kp⟩] X.env)).filterMap (·.1) = [f] := by rfl)
    (hpl : ((backTo pos (starEach [] X.env)).any (·.1) || (backToKw pos (keywordEach [⟨some f, e, kp⟩] X.env)).any (·.1.isNone)) = false := by rfl) : PE X (.Call (.Name x p) [] [⟨some f, e, kp⟩] pos) (tNew C f te) := by
  obtain ⟨fI, fd, i1, i2, F, _, _, b⟩ := M.ini
  obtain ⟨nm, q, N, bs, bm, sn, sub, ab, col, dd, k0, k1, k2, k3, k5, hC, hbm⟩ := M.cls.oex.cls
  refine ⟨fun pins s σ H Q I h => wpAny_Call_Name_kw (ld_glob I hg M.glo ?_ hdb)⟩
  refine PySem.W.callWith_KW0 (h₀ := X.base) I.ok.mod.kin M.cls.oex.kC hall (thn ((pk_cons he pk_nil).run pos pins s σ H (one1 fun v H1 => ∀ a d, H1 a = none → H1 d = none → d ≠ a → Q (.ref a) (upd (upd H1 d (exd d [(f, v)])) a (exo a C (some d)))) I h) fun us s1 ⟨vs, H1, I1, r1, q1⟩ => ⟨I1.kIn, ?_⟩) hpl
  cases r1 with
  | nil => exact False.elim q1
  | @cons v u vs us rv rs =>
    cases rs with
    | cons _ _ => exact False.elim q1
    | nil =>
      obtain ⟨hp, g, dr, tk, os⟩ := s1
      rw [hks]
      show wpAny _ _ (call (.ref C) [] [(f, u)]) _ _ _
      refine wpAny_call (codeAny_mono (Xv.kwCall hbm (I1.kIn _ _ hC) (PySem.W.looks_findIn I1.kIn i1) (fun self => PySem.W.bind_fn I1.kIn self i2) (run_new (us := [.ref (hp.objs.size + 1), u]) (pushed := []) F hr I1 (fun s3 k3 => b s3 _ _ k3) (.cons rfl (.cons rv .nil)) q1)) fun r s3 z => ?_)
      cases r with
      | error er => exact z
      | ok fl => cases fl <;> first | exact z | exact False.elim z
end
end Xw
/-! Own ground, part Y: lists that are laid anew, and not where the modules' table stands. -/
namespace Xy
open PySem PySem.Spec PyProof.Rows L2
/-- free, and not the table of modules -/
def Free (H : Hp) (p : Addr) : Prop := H p = none ∧ sysModules ≠ p
section
variable {X : Cx} {es : List Expr} {t : TA} {pos : Pos}
theorem free_at {pins : List (Addr × Obj)} {σ : L2.St} {H : Hp} {s : Shared} (I : Inv X pins σ H s) : Free H s.heap.objs.size := ⟨I.hok.fresh (Nat.le_refl _), Nat.ne_of_lt I.big⟩
def tLstB (t : TA) : TE := fun σ H Q => t σ H fun xs H1 => xs.length ≤ sizeLine ∧ ∀ p, Free H1 p → Q (.ref p) (upd H1 p (.lst xs))
theorem pe_lstB (h : PA X es t) : PE X (.List es pos) (tLstB t) :=
  ⟨fun pins s σ H Q I hq => wpAny_List_spliced (thn (h.run pos pins s σ H _ I hq) fun us s1 ⟨xs, H1, I1, r, z, q⟩ => ⟨(by rw [← r.length] <;> exact z), .ref s1.heap.objs.size, upd H1 s1.heap.objs.size (.lst xs),
    I1.laid (t' := s1.toks) (fun b u e => Heap.get?_push_of_some _ e) (Nat.le_refl _) ⟨z, us, 0, r, Heap.get?_push_size _ rfl⟩, rfl, q _ (free_at I1)⟩)⟩
def rCatB : R2 := fun x y H Q => ∃ l b xs zs, x = .ref l ∧ y = .ref b ∧ H l = some (.lst xs) ∧ H b = some (.lst zs) ∧ xs.length + zs.length ≤ sizeLine ∧ ∀ p, Free H p → Q (.ref p) (upd H p (.lst (xs ++ zs)))
theorem op_catB : OpR X (binaryOp .Add) rCatB := by
  rintro pins s σ H x y v u Q I rx ry ⟨l, b, xs, zs, rfl, rfl, hl, hb, hz, q⟩
  obtain rfl : v = Value.ref l := rx
  obtain rfl : u = Value.ref b := ry
  obtain ⟨z1, i1, n1, r1, len1, e1⟩ := I.lstM hl
  obtain ⟨z2, i2, n2, r2, len2, e2⟩ := I.lstM hb
  refine PySem.P.add_list e1 e2 ?_ (by rw [List.size_toArray, List.size_toArray]; omega)
  rw [show i1.toArray ++ i2.toArray = (i1 ++ i2).toArray by simp]
  exact ⟨.ref _, _, I.lnew (t' := s.toks) (r1.append r2) (by rw [List.length_append]; omega), rfl, q _ (free_at I)⟩
/-- a list, so many times over -/
def rRepB (n : Nat) : R2 := fun x y H Q => ∃ l v, x = .ref l ∧ y = .int (n : Int) ∧ H l = some (.lst [v]) ∧ n ≤ 1000 ∧ ∀ p, Free H p → Q (.ref p) (upd H p (.lst (List.replicate n v)))
theorem flat1 {α : Type} (a : α) : ∀ n : Nat, (List.replicate n [a]).flatten = List.replicate n a
  | 0 => rfl
  | n + 1 => by rw [List.replicate_succ, List.flatten_cons, flat1 a n, List.replicate_succ] <;> rfl
theorem rep1 {v : V} {u : Value} (h : RelV v u) : ∀ n : Nat, Vals (List.replicate n v) (List.replicate n u)
  | 0 => .nil
  | n + 1 => .cons h (rep1 h n)
theorem foldA (u : Value) (m : Nat) : List.foldl (fun x1 x2 => x1 ++ x2) #[] (List.replicate m ([u] : List Value).toArray) = (List.replicate m u).toArray := by
  have h := foldl_rep [u] m []
  rw [List.nil_append, flat1] at h
  exact h
theorem op_repB {n : Nat} : OpR X (binaryOp .Mult) (rRepB n) := by
  rintro pins s σ H x y a b Q I rx ry ⟨l, v, rfl, rfl, hl, hn, q⟩
  obtain rfl : a = Value.ref l := rx
  obtain ⟨t, rfl⟩ := ry
  obtain ⟨z, its, k, r, len, e⟩ := I.lstM hl
  cases r with
  | @cons _ u _ us rv rs =>
    cases rs with
    | nil =>
      have e0 : s.heap.get? l = some { cls := .type "list", data := .seq ([u] : List Value).toArray k } := e
      have fin : ∀ arr : Array Value, arr.size = 1 → s.heap.get? l = some { cls := .type "list", data := .seq arr k } → ∀ m : Int, 0 ≤ m → m ≤ 1000 → ∀ Q2 : Value → Shared → Prop, Q2 (.ref s.heap.objs.size) { s with heap := s.heap.push { cls := .type "list", data := .seq (List.foldl (fun x1 x2 => x1 ++ x2) #[] (List.replicate (if arr.isEmpty = true then 0 else m.toNat) arr)) } } →
          wpAny (model X.prog X.w) X.A (binaryOp .Mult (.ref l) (.int m t)) Q2 X.xe s := fun arr sz e m m0 m1 Q2 q2 => by
        have c1 : ¬ arr.size * m.toNat > (2 ^ 63 - 1) / 8 := by
          rw [sz]
          have : (1000 : Nat) ≤ (2 ^ 63 - 1) / 8 := by decide
          omega
        have c2 : ¬ (!Builtin.List.listFitsIndex m) = true := by
          rw [fitsIndex_both (by omega) (by omega)]
          exact Bool.false_ne_true
        have c3 : ¬ Builtin.List.listTooLong (arr.size * m.toNat) = true := by
          rw [sz, notLongL (Nat.le_of_lt (small1000 (by omega)))]
          exact Bool.false_ne_true
        refine wpAny_binaryOp_repeat_ref (T := "list") (U := "int") (by decide) ⟨_, e, rfl⟩ (fun s' => typeIs_int s' m t) noFill_list_mul PySem.F.fills_int_mul PySem.F.slot_int_rmul repeat_list PySem.F.slot_int_index.lookup
          (call_meets PySem.F.slot_int_rmul (typeIs_int s m t) PySem.F.entry_int_rmul (PySem.F.args_int_rmul_2 _ _) (int___rmul___int_list m t l arr k)
            ⟨e, rfl, ⟨_, e, rfl⟩, call_meets PySem.F.slot_list_mul ⟨_, e, rfl⟩ PySem.F.entry_list_mul (PySem.F.args_list_mul_2 _ _) (AutoListH.list___mul___list_int_3 l arr k m t c2 c1 c3) ⟨e, q2⟩⟩)
      refine fin _ rfl e0 n (by omega) (by omega) _ ?_
      have w : List.foldl (fun x1 x2 => x1 ++ x2) #[] (List.replicate (if ([u] : List Value).toArray.isEmpty = true then 0 else (n : Int).toNat) ([u] : List Value).toArray) = (List.replicate n u).toArray := by
        rw [if_neg (by simp), Int.toNat_natCast]
        exact foldA u n
      rw [w]
      have small : (List.replicate n v).length ≤ sizeLine := by
        rw [List.length_replicate]
        exact Nat.le_trans hn (Nat.le_of_lt (small1000 (by decide)))
      exact ⟨.ref _, _, I.lnew (t' := s.toks) (rep1 rv n) small, rfl, q _ (free_at I)⟩
end
end Xy
/-! Own ground, part Z: an own error without a field. -/
namespace Xz
open PySem PySem.Spec PyProof.Rows L2 Xa Xb Xc Xp Xm Xw
def spXi0 (C : Addr) : Sp := fun xs H Q _ => ∃ a : Addr, xs = [.ref a] ∧ H a = some (exo a C none) ∧ Q .non H
def x0Body (msg : Str) (k : Nat) (p1 p2 p3 p4 p5 p6 : Pos) : List Stmt := [.Expr (.Call (.Attribute (.Name "WatchError" p1) "__init__" p2) [.Name "self" p3, .Constant (.str msg) k p4] [] p5) p6]
theorem ok_xi0 {P : Program} {w : World} {K : PySem.W.Frag} {mg : Str → Option Value} {base : Heap} {C fI : Addr} {fd : FuncData} {qual msg : Str} {params : Arguments} {scope : Scope} {dvs : List V} {k : Nat} {p1 p2 p3 p4 p5 p6 : Pos}
    (F : FunD K "__init__" qual params (x0Body msg k p1 p2 p3 p4 p5 p6) scope dvs [] fI fd) (S : FnScope ["self"] ["self"] scope) (T : OexC K C) (B : WBase K mg "WatchError") (hs : scope.names.lookup ("self" : Str) = some .local) (hw : scope.names.lookup ("WatchError" : Str) = some .globalImplicit) (run : XiRun qual scope msg k p1 p2 p3 p4 p5) :
    FnOk P w K mg base CX0 1 fI fd ["self"] (spXi0 C) := by
  refine F.ok S (fun xs H Q E h => ?_) (fun cdv A outer s H vs Q E hr h => ?_)
  · obtain ⟨a, rfl, _⟩ := h
    rfl
  · obtain ⟨a, rfl, ha, q⟩ := h
    obtain ⟨pl, hc⟩ := run s.heap.objs.size fI cdv
    refine ⟨_, PSs.nox (pss_one (ps_expr (pe_winit (pl := pl) hw B (pa_cons (pe_var (i := 0) rfl (.inl hs)) (pa_cons pe_str pa_nil)) (by decide) hc))), ?_⟩
    exact ⟨_, rfl, a, C, [.str msg], rfl, (by show 1 ≤ 1000; decide), T, ha, q⟩
structure XNew0 (P : Program) (w : World) (K : PySem.W.Frag) (mg : Str → Option Value) (base : Heap) (x : Str) (C : Addr) : Prop where
  oex : OexC K C
  glo : mg x = some (.ref C)
  ini : ∃ (fI : Addr) (fd : FuncData), PySem.W.findIn K (.ref C) "__init__" = some (some (.ref fI)) ∧ PySem.W.typeIn K (.ref fI) = some (.type "function") ∧ FnOk P w K mg base CX0 1 fI fd ["self"] (spXi0 C) ∧ Binds K fd ["self"] []
def tNew0 (C : Addr) : TE := fun _ H Q => ∀ a, H a = none → Q (.ref a) (upd H a (exo a C none))
section
variable {X : Cx} {C : Addr} {x : Str} {p pos : Pos}
theorem pe_newN (M : XNew0 X.prog X.w X.K X.mg X.base x C) (hr : Room 2 X.A) (hg : Gl X x := by rfl) (hdb : (x == ("__debug__" : Str)) = false := by decide) : PE X (.Call (.Name x p) [] [] pos) (tNew0 C) := by
  obtain ⟨fI, fd, i1, i2, F1, b⟩ := M.ini
  obtain ⟨nm, q, N, bs, bm, sn, sub, ab, col, dd, k0, k1, k2, k3, k5, hC, hbm⟩ := M.oex.cls
  refine ⟨fun pins s σ H Q I1 q1 => wpAny_Call_Name_kw (ld_glob I1 hg M.glo ?_ hdb)⟩
  refine PySem.W.callWith_K0 I1.kIn M.oex.kC ?_
  obtain ⟨hp, g, dr, tk, os⟩ := s
  show wpAny _ _ (call (.ref C) []) _ _ _
  have hsz : hp.objs.size ≤ hp.objs.size + 1 := Nat.le_succ _
  have hn : H (hp.objs.size + 1) = none := I1.hok.fresh hsz
  have kk : ∀ b o, hp.get? b = some o → ((hp.push (PySem.W.kdv_tup [])).push (HandSPX.excO C hp.objs.size)).get? b = some o := fun b o e => Heap.get?_push_of_some _ (Heap.get?_push_of_some _ e)
  have hget : ((hp.push (PySem.W.kdv_tup [])).push (HandSPX.excO C hp.objs.size)).get? (hp.objs.size + 1) = some (HandSPX.excO C hp.objs.size) := by heap_get
  have I2 : Inv X pins σ (upd H (hp.objs.size + 1) (exo (hp.objs.size + 1) C none)) ⟨(hp.push (PySem.W.kdv_tup [])).push (HandSPX.excO C hp.objs.size), g, dr, tk, os⟩ :=
    I1.laid (t' := tk) (a := hp.objs.size + 1) (o := exo (hp.objs.size + 1) C none) (h' := (hp.push (PySem.W.kdv_tup [])).push (HandSPX.excO C hp.objs.size)) kk hsz (exo_ok hget)
  have bb := b _ [Value.ref (hp.objs.size + 1)] I2.kIn rfl
  rw [List.append_nil] at bb
  refine wpAny_call (PySem.HandSPX.call_own PySem.F.excBase_ValueError (fun Y => HandSPX.refsVE_contains Y bm hbm) (I1.kIn _ _ hC) (PySem.W.looks_findIn I1.kIn i1) (fun self => PySem.W.bind_fn I1.kIn self i2) (by rw [sizeLine_eq]; exact Nat.le_of_ble_eq_true rfl)
    (codeAny_mono (F1.run _ X.stack _ _ ⟨[Value.ref (hp.objs.size + 1)], []⟩ [Value.ref (hp.objs.size + 1)] [V.ref (hp.objs.size + 1)] (fun u H2 => u = .non ∧ Q (.ref (hp.objs.size + 1)) H2) (fun _ _ _ => False) (hr.make C [] []) (I2.env0.make C [] []) bb (.cons rfl .nil)
      ⟨_, rfl, upd_same, rfl, q1 _ hn⟩) fun r s' hq' => ?_))
  cases r with
  | error er => exact False.elim hq'
  | ok fl =>
    cases fl with
    | ret u =>
      obtain ⟨v2, H2, J, rv, ev, q2⟩ := I2.after hq'
      subst ev
      exact ⟨rv, .ref (hp.objs.size + 1), H2, J, rfl, q2⟩
    | next => exact False.elim hq'
    | brk => exact False.elim hq'
    | cont => exact False.elim hq'
end
end Xz
/-! The draws: cell, hash, generator, random. -/
namespace Kx
open PySem PySem.Spec PyProof.Rows L2 Xa Xb Xc Xd
def top (i : Nat) : Stmt := PySem.Challenge.pw_hearunlike_k01_errors.main.body.getD i (.Pass ⟨0, 0, 0, 0⟩)
abbrev FnP (K : PySem.W.Frag) (x : Str) (st : Stmt) (f : Addr) (fd : FuncData) : Prop := FunD K x x (defArgs st) (defBody st) (defScope st) [] [] f fd
abbrev sCell : Stmt := top 20
abbrev sHash : Stmt := top 21
abbrev sGener : Stmt := top 22
abbrev sRandom : Stmt := top 23
/-- the built-ins that the text has not taken -/
structure Bi (mg : Str → Option Value) : Prop where
  len : mg "len" = none
  int : mg "int" = none
  max : mg "max" = none
  range : mg "range" = none
theorem pa1 {X : Cx} {e : Expr} {te : TE} (he : PE X e te) (hs : starEach (e :: []) X.env = (false, eval e X.env) :: starEach [] X.env := by rfl) : PA X [e] (tCons te tNil) := pa_cons he pa_nil hs
section
variable {P : Program} {w : World} {K : PySem.W.Frag} {mg : Str → Option Value} {base : Heap} {f : Addr} {fd : FuncData}

/-! ### cell -/
def spCell (K : PySem.W.Frag) : Sp := fun xs H Q _ => ∃ (a : Addr) (ns : List Int) (i : Nat), xs = [.ref a, .int (i : Int)] ∧ SqL K H a (ns.map V.int) ∧ ∀ z, Q (.int z) H
theorem scCell : FnScope ["script", "index"] ["script", "index"] (defScope sCell) := ⟨rfl, rfl, rfl, by decide +kernel, rfl, by decide +kernel, by decide +kernel⟩
theorem ok_cell (F : FnP K "_law_cell" sCell f fd) (B : Bi mg) : FnG P w K mg base 1 f fd ["script", "index"] (spCell K) := by
  refine okG F scCell (fun xs H Q E h => ?_) (fun cdv A outer s H vs Q E hr hn h => ?_)
  · obtain ⟨a, ns, i, rfl, _⟩ := h
    rfl
  · obtain ⟨a, ns, i, rfl, hS, q⟩ := h
    refine ⟨_, pss_cons (ps_if (pt_cmpR op_lt (pv 1) (pe_callB call_len_seq (by rfl) B.len PySem.boot_len (pa_cons (pv 0) pa_nil)) (nomark _)) (pss_one (ps_ret (pe_ix ix_list (pv 0) (pv 1) (fun _ _ => rfl)))) pss_nil)
      (pss_one (ps_ret pe_int)), ?_⟩
    refine ⟨_, rfl, _, rfl, a, _, rfl, .inl hS, _, _, rfl, rfl, _, rfl, ite2 (fun c => ?_) (fun _ => q 0)⟩
    have hlt : i < (ns.map V.int).length := by
      have c2 := of_decide_eq_true c
      omega
    rw [List.length_map] at hlt
    exact ⟨_, rfl, _, rfl, a, _, _, .int ns[i], rfl, rfl, hS, atI_nat (by rw [List.getElem?_map, List.getElem?_eq_getElem hlt]; rfl), q _⟩

/-! ### hash -/
def spHash : Sp := fun xs H Q _ => ∃ (z i : Int), xs = [.int z, .int i] ∧ 0 ≤ z ∧ z < 2147483647 ∧ 0 ≤ i ∧ i < 2 ^ 50 ∧ ∀ r : Int, 0 ≤ r → r < 2147483587 → Q (.int r) H
theorem scHash : FnScope ["seed", "index", "mixed"] ["seed", "index"] (defScope sHash) := ⟨rfl, rfl, rfl, by decide +kernel, rfl, by decide +kernel, by decide +kernel⟩
theorem ok_hash (F : FnP K "_law_hash" sHash f fd) (B : Bi mg) : FnG P w K mg base 1 f fd ["seed", "index"] spHash := by
  refine okG F scHash (fun xs H Q E h => ?_) (fun cdv A outer s H vs Q E hr hn h => ?_)
  · obtain ⟨z, i, rfl, _⟩ := h
    rfl
  · obtain ⟨z, i, rfl, z0, z1, i0, i1, q⟩ := h
    refine ⟨_, pss_cons (ps_set (i := 2) scHash.nd rfl (Or.inl rfl) (pe_op op_modN (pe_callTy call_int1 (by rfl) B.int (by decide +kernel) (pa1 (pe_op op_add (pe_op op_add (pe_op op_add (pe_op op_mul (pv 0) pe_int) (pe_op op_mul (pe_op op_mul pe_int (pv 1)) (pv 1))) (pv 1)) pe_int))) pe_int))
      (pss_cons (ps_set (i := 2) scHash.nd rfl (Or.inl rfl) (pe_op op_modN (pe_callTy call_int1 (by rfl) B.int (by decide +kernel) (pa1 (pe_op op_add (pe_op op_mul (pv 2) (pv 2)) pe_int))) pe_int))
      (pss_one (ps_ret (pe_op op_modN (pe_callTy call_int1 (by rfl) B.int (by decide +kernel) (pa1 (pe_op op_mul (pv 2) pe_int))) pe_int)))), ?_⟩
    have m1 : ∀ x y : Int, 0 < y → 0 ≤ x.fmod y ∧ x.fmod y < y := fun x y hy => ⟨Int.fmod_nonneg_of_pos _ hy, Int.fmod_lt_of_pos _ hy⟩
    refine ⟨_, rfl, _, _, rfl, rfl, .inr ⟨by decide, by decide⟩, _, rfl, _, _, rfl, rfl, .inl ⟨by decide, by decide⟩, _, rfl, _, _, rfl, rfl, .inr ⟨by omega, by omega⟩, _, _, rfl, rfl, _, rfl, _, _, rfl, rfl, _, _, rfl, rfl, .inl ⟨_, rfl, ?_⟩⟩
    refine ⟨_, _, rfl, rfl, (by show (2147483647 : Int) ≠ 0; decide), ?_⟩
    obtain ⟨a0, a1⟩ := m1 (z * 1103515245 + 7919 * i * i + i + 1) 2147483647 (by decide)
    refine ⟨_, rfl, _, rfl, _, _, rfl, rfl, .inl ⟨by omega, by omega⟩, _, _, rfl, rfl, .inl ⟨_, rfl, ?_⟩⟩
    refine ⟨_, _, rfl, rfl, (by show (2147483629 : Int) ≠ 0; decide), ?_⟩
    refine ⟨_, rfl, _, _, rfl, rfl, .inr ⟨by decide, by decide⟩, .inl ⟨_, rfl, ?_⟩⟩
    refine ⟨_, _, rfl, rfl, (by show (2147483587 : Int) ≠ 0; decide), ?_⟩
    exact q _ (m1 _ _ (by decide)).1 (m1 _ _ (by decide)).2

/-! ### generator, random -/
/-- a generator's list stands at g, its counter at most n -/
def Gen (H : Hp) (g : Addr) (n : Nat) : Prop := ∃ g0 g1 g2 : Int, H g = some (.lst [.int g0, .int g1, .int g2]) ∧ 0 ≤ g0 ∧ g0 < 2 ^ 2000 ∧ 0 ≤ g1 ∧ g1 < 2147483647 ∧ 0 ≤ g2 ∧ g2 ≤ n
theorem op_powW {X : Cx} : OpR X (binaryOp .Pow) (rI (fun i j => 0 ≤ j ∧ (Builtin.Int.intBits i : Int) * j ≤ 2 ^ 27) fun i j => .int (i ^ j.toNat)) := by
  rintro pins st σ H x y v u Q I rx ry ⟨i, j, rfl, rfl, ⟨h1, h2⟩, q⟩
  obtain ⟨t, rfl⟩ := rx
  obtain ⟨t2, rfl⟩ := ry
  exact pow_int h1 h2 ⟨.int _, H, I.tok _, ⟨_, rfl⟩, q⟩
def spGener (K : PySem.W.Frag) : Sp := fun xs H Q _ => ∃ (a : Addr) (ns : List Int) (i : Nat), xs = [.ref a, .int (i : Int)] ∧ i ≤ 1000 ∧ SqL K H a (ns.map V.int) ∧ ∀ p H', H p = none → Same H H' → Gen H' p (1000 * i) → Q (.ref p) H'
theorem scGener : FnScope ["script", "index", "seed"] ["script", "index"] (defScope sGener) := ⟨rfl, rfl, rfl, by decide +kernel, rfl, by decide +kernel, by decide +kernel⟩
theorem ok_gener {fC : Addr} {fdC : FuncData} (F : FnP K "_law_generator" sGener f fd) (B : Bi mg) (FC : FnP K "_law_cell" sCell fC fdC) (gC : mg "_law_cell" = some (.ref fC)) : FnG P w K mg base 2 f fd ["script", "index"] (spGener K) := by
  have GC : FnG P w K mg base 1 fC fdC ["script", "index"] (spCell K) := ok_cell FC B
  have bC : Binds K fdC ["script", "index"] [] := FC.bindsN fun _ _ _ _ _ _ us hl => match us, hl with | [_, _], _ => rfl
  refine okG F scGener (fun xs H Q E h => ?_) (fun cdv A outer s H vs Q E hr hn h => ?_)
  · obtain ⟨a, ns, i, rfl, _⟩ := h
    rfl
  · obtain ⟨a, ns, i, rfl, hi, hS, q⟩ := h
    refine ⟨_, pss_cons (ps_set (i := 2) scGener.nd rfl (Or.inl rfl) (pe_callG GC hr hn rfl gC FC.kp bC (pa_cons (pv 0) (pa_cons (pv 1) pa_nil))))
      (pss_one (ps_ret (pe_lst (pa_cons (pe_op op_modN (pe_callTy call_int1 (by rfl) B.int (by decide +kernel) (pa1 (pe_callB (call_max2 rfl) (by rfl) B.max (by decide +kernel) (pa_cons (pe_op op_sub (pv 2) (pe_op op_pow pe_int pe_int)) (pa_cons pe_int pa_nil))))) (pe_op op_powW (pe_op op_pow pe_int pe_int) pe_int))
        (pa_cons (pe_op op_modN (pe_callTy call_int1 (by rfl) B.int (by decide +kernel) (pa1 (pv 2))) pe_int) (pa_cons (pe_op op_mul pe_int (pv 1)) pa_nil)))))), ?_⟩
    refine ⟨_, rfl, _, rfl, a, ns, i, rfl, hS, fun z => ?_⟩
    refine ⟨_, rfl, _, _, rfl, rfl, ⟨by decide, by decide, by decide⟩, _, _, rfl, rfl, _, _, rfl, .inl ⟨_, rfl, _, _, rfl, rfl, ⟨by decide, by decide, by decide⟩, _, _, rfl, rfl, ⟨by decide, by decide +kernel⟩, ?_⟩⟩
    have big : (0 : Int) < (10 ^ (60 : Int).toNat) ^ (10 : Int).toNat := by decide
    have big2 : ((10 : Int) ^ (60 : Int).toNat) ^ (10 : Int).toNat < 2 ^ 2000 := by decide
    refine ⟨_, _, rfl, rfl, Int.ne_of_gt big, _, rfl, .inl ⟨_, rfl, _, _, rfl, rfl, (by show (2147483647 : Int) ≠ 0; decide), _, rfl, _, _, rfl, rfl, .inl ⟨by decide, by decide⟩, (by show 3 ≤ sizeLine; decide), fun p np => ?_⟩⟩
    refine q p _ np (fun b o e => by rw [upd_ne (ne_of_none e np)]; exact e) ⟨_, _, _, upd_same, Int.fmod_nonneg_of_pos _ big, Int.lt_trans (Int.fmod_lt_of_pos _ big) big2, Int.fmod_nonneg_of_pos _ (by decide), Int.fmod_lt_of_pos _ (by decide), by omega, by omega⟩

def spRandom : Sp := fun xs H Q _ => ∃ (g : Addr) (b : Int) (n : Nat), xs = [.ref g, .int b] ∧ 0 < b ∧ b < 2 ^ 90 ∧ Gen H g n ∧ n ≤ 2 ^ 40 ∧ ∀ (r : Int) (H' : Hp), 0 ≤ r → r < b → Gen H' g (n + 4) → (∀ c, c ≠ g → H' c = H c) → Q (.int r) H'
theorem scRandom : FnScope ["generator", "bound", "drawn", "turn"] ["generator", "bound"] (defScope sRandom) := ⟨rfl, rfl, rfl, by decide +kernel, rfl, by decide +kernel, by decide +kernel⟩
theorem ok_random {fC : Addr} {fdC : FuncData} (F : FnP K "_law_random" sRandom f fd) (B : Bi mg) (FC : FnP K "_law_hash" sHash fC fdC) (gC : mg "_law_hash" = some (.ref fC)) : FnG P w K mg base 2 f fd ["generator", "bound"] spRandom := by
  have GC : FnG P w K mg base 1 fC fdC ["seed", "index"] spHash := ok_hash FC B
  have bC : Binds K fdC ["seed", "index"] [] := FC.bindsN fun _ _ _ _ _ _ us hl => match us, hl with | [_, _], _ => rfl
  refine okG F scRandom (fun xs H Q E h => ?_) (fun cdv A outer s H vs Q E hr hn h => ?_)
  · obtain ⟨g, b, n, rfl, _⟩ := h
    rfl
  · obtain ⟨g, b, n, rfl, b0, b1, ⟨g0, g1, g2, hg, g00, g01, g10, g11, g20, g21⟩, hn1, q⟩ := h
    refine ⟨_, pss_cons (ps_if (pt_cmpR op_gt (pe_ix ix_list (pv 0) pe_int (fun _ _ => rfl)) pe_int (nomark _))
        (pss_cons (ps_set (i := 2) scRandom.nd rfl (Or.inl rfl) (pe_op op_modN (pe_callTy call_int1 (by rfl) B.int (by decide +kernel) (pa1 (pe_ix ix_list (pv 0) pe_int (fun _ _ => rfl)))) (pv 1)))
        (pss_cons (ps_asg (pe_op op_fdivW (pe_ix ix_list (pv 0) pe_int (fun _ _ => rfl)) (pv 1)) (pg_sub (pv 0) pe_int set_list))
        (pss_one (ps_ret (pv 2))))) pss_nil)
      (pss_cons (ps_set (i := 2) scRandom.nd rfl (Or.inl rfl) pe_int)
      (pss_cons (ps_for PassesOwn.never rfl (pi_range1 (by rfl) B.range (pa1 (pe_op op_add pe_int (pe_op op_fdivW (pe_bits (pv 1)) pe_int)))) (pg_name (i := 3) scRandom.nd rfl (Or.inl rfl))
        (pss_cons (ps_asg (pe_op op_add (pe_ix ix_list (pv 0) pe_int (fun _ _ => rfl)) pe_int) (pg_sub (pv 0) pe_int set_list))
        (pss_one (ps_set (i := 2) scRandom.nd rfl (Or.inl rfl) (pe_op op_add (pe_op op_mul (pv 2) pe_int) (pe_callG GC hr hn rfl gC FC.kp bC (pa_cons (pe_ix ix_list (pv 0) pe_int (fun _ _ => rfl)) (pa_cons (pe_ix ix_list (pv 0) pe_int (fun _ _ => rfl)) pa_nil))))))))
      (pss_one (ps_ret (pe_op op_modN (pe_callTy call_int1 (by rfl) B.int (by decide +kernel) (pa1 (pv 2))) (pv 1)))))), ?_⟩
    have at0 : ∀ (z : Int) (r : List V), atI (V.int z :: r) 0 = some (V.int z) := fun z r => atI_nat (j := 0) rfl
    refine ⟨_, rfl, g, _, 0, .int g0, rfl, rfl, SqL.of hg, at0 _ _, _, _, rfl, rfl, _, rfl, ite2 (fun c => ?_) (fun c => ?_)⟩
    · have g0p : 0 < g0 := of_decide_eq_true c
      have bn : b.natAbs < 2 ^ 90 := by omega
      refine ⟨_, rfl, g, _, 0, .int g0, rfl, rfl, SqL.of hg, at0 _ _, .inl ⟨_, rfl, _, rfl, _, _, rfl, rfl, Int.ne_of_gt b0, ?_⟩⟩
      refine ⟨_, rfl, g, _, 0, .int g0, rfl, rfl, SqL.of hg, at0 _ _, _, rfl, _, _, rfl, rfl, wide_div b0 bn (by decide) (by decide), ?_⟩
      refine ⟨_, rfl, g, _, 0, 0, rfl, rfl, hg, rfl, _, rfl, ?_⟩
      refine q _ _ (Int.fmod_nonneg_of_pos _ b0) (Int.fmod_lt_of_pos _ b0) ⟨_, g1, g2, upd_same, Int.ediv_nonneg g00 (Int.le_of_lt b0), ?_, g10, g11, g20, by omega⟩ fun c hc => upd_ne hc
      exact Int.lt_of_le_of_lt (Int.ediv_le_self _ g00) g01
    · have bits : Builtin.Int.intBits b ≤ 90 := by
        have h1 : b.natAbs < 2 ^ 90 := by omega
        have h2 := PySem.Flt.log2_lt_of (k := 90) (by decide) h1
        unfold Builtin.Int.intBits
        split <;> omega
      have at1 : ∀ (x z : Int) (r : List V), atI (V.int x :: V.int z :: r) 1 = some (V.int z) := fun x z r => atI_nat (j := 1) rfl
      have at2 : ∀ (x y z : Int) (r : List V), atI (V.int x :: V.int y :: V.int z :: r) 2 = some (V.int z) := fun x y z r => atI_nat (j := 2) rfl
      refine ⟨_, rfl, b, rfl, _, _, rfl, rfl, ⟨by decide, by decide⟩, _, _, rfl, rfl, _, rfl, by omega, by omega, ?_⟩
      have e30 : (1 + ((Builtin.Int.intBits b : Nat) : Int) / 30).toNat ≤ 4 := by omega
      generalize (1 + ((Builtin.Int.intBits b : Nat) : Int) / 30).toNat = m at e30
      refine for_range (lo := 0) (n := m) (fun i σ H' => ∃ (dr : Int) (tv : Option V), σ = [some (.ref g), some (.int b), some (.int dr), tv] ∧ 0 ≤ dr ∧ H' = upd H g (.lst [.int g0, .int g1, .int (g2 + i)])) ⟨0, none, rfl, by decide, ?_⟩ ?_ ?_
      · funext c
        by_cases hc : c = g
        · rw [hc, upd_same, hg]
          simp
        · rw [upd_ne hc]
      · rintro i σ H' hi ⟨dr, tv, rfl, d0, rfl⟩
        refine ⟨_, rfl, g, _, 2, .int (g2 + i), rfl, rfl, SqL.of upd_same, at2 _ _ _ _, _, _, rfl, rfl, _, rfl, g, _, 2, 2, rfl, rfl, upd_same, rfl, ?_⟩
        refine ⟨_, rfl, _, _, rfl, rfl, .inr ⟨by decide, by decide⟩, _, rfl, g, _, 1, .int g1, rfl, rfl, SqL.of upd_same, at1 _ _ _, _, rfl, g, _, 2, .int (g2 + i + 1), rfl, rfl, SqL.of upd_same, at2 _ _ _ _, g1, g2 + i + 1, rfl, g10, g11, by omega, by omega, fun r r0 r1 => ?_⟩
        refine ⟨_, _, rfl, rfl, _, _, rfl, ?_, ?_⟩
        · have : 0 ≤ dr * 2147483587 := Int.mul_nonneg d0 (by decide)
          omega
        · rw [upd_upd]
          have e : g2 + (i : Int) + 1 = g2 + ((i + 1 : Nat) : Int) := by omega
          rw [← e]
          rfl
      · rintro σ H' ⟨dr, tv, rfl, d0, rfl⟩
        refine ⟨_, rfl, .inl ⟨_, rfl, _, rfl, _, _, rfl, rfl, Int.ne_of_gt b0, ?_⟩⟩
        exact q _ _ (Int.fmod_nonneg_of_pos _ b0) (Int.fmod_lt_of_pos _ b0) ⟨g0, g1, g2 + m, upd_same, g00, g01, g10, g11, by omega, by omega⟩ fun c hc => upd_ne hc
end
end Kx
/-! The kinds of errors. -/
namespace Kx
open PySem PySem.Spec PyProof.Rows L2 Xa Xb Xc Xd Xp Xm Xr Xl Xk Xt Xw
abbrev sKinds : Stmt := top 24
def nmC : Nat → Str
  | 0 => "InvalidNumber"
  | 1 => "InvalidList"
  | 2 => "InvalidItem"
  | 3 => "InvalidWeb"
  | 4 => "InvalidSpot"
  | 5 => "InvalidPlan"
  | 6 => "InvalidNeeds"
  | 7 => "InvalidHeard"
  | 8 => "InvalidRule"
  | 9 => "InvalidPrices"
  | 10 => "InvalidText"
  | 11 => "Taken"
  | 12 => "Vacant"
  | 13 => "InvalidName"
  | 14 => "TakenName"
  | 15 => "UnknownName"
  | _ => "NothingToUndo"
def fdC (i : Nat) : Str := if i < 13 then "value" else "name"
structure Bi3 (mg : Str → Option Value) : Prop extends Bi mg where
  isi : mg "isinstance" = none
  list : mg "list" = none
  dict : mg "dict" = none
  repr : mg "repr" = none
/-- how a def of the text stands -/
structure Dfn (K : PySem.W.Frag) (mg : Str → Option Value) (x : Str) (st : Stmt) : Prop where
  at_ : ∃ (f : Addr) (fd : FuncData), FnP K x st f fd ∧ mg x = some (.ref f)
/-- what of the error classes the text says -/
structure XF (K : PySem.W.Frag) (mg : Str → Option Value) (cl : Nat → Addr) : Prop where
  g : ∀ i, i < 17 → mg (nmC i) = some (.ref (cl i))
  w : ∃ W, mg "WatchError" = some (.ref W) ∧ ∀ i, i < 17 → PySem.W.kitOne K (.ref (cl i)) (.ref W) = some true
  ve : mg "ValueError" = none
  kv : ∀ i, i < 17 → PySem.W.kitOne K (.ref (cl i)) (.type "ValueError") = some true
  k : ∀ i j, i < 17 → j < 17 → PySem.W.kitOne K (.ref (cl i)) (.ref (cl j)) = some (decide (i = j))
  ex : ∀ i, i < 17 → ExcC K (cl i)
theorem dictAt_same {H H' : Hp} (e : Same H H') {od : Option Addr} {fs : List (Str × V)} (h : DictAt H od fs) : DictAt H' od fs := by
  cases od with
  | none => exact h
  | some d => exact e _ _ h
/-- an error of the i-th class -/
def ErrAt (cl : Nat → Addr) (H : Hp) (a : Addr) (i : Nat) (fs : List (Str × V)) : Prop := ∃ od, H a = some (exo a (cl i) od) ∧ DictAt H od fs
theorem ErrAt.same {cl : Nat → Addr} {H H' : Hp} {a : Addr} {i : Nat} {fs : List (Str × V)} (e : Same H H') : ErrAt cl H a i fs → ErrAt cl H' a i fs := fun ⟨od, h, d⟩ => ⟨od, e _ _ h, dictAt_same e d⟩
theorem kindAt (i j : Nat) (h : j < 17) : ((List.range 17).map fun j => V.bl (decide (i = j)))[j]? = some (.bl (decide (i = j))) := by
  rw [List.getElem?_map, List.getElem?_range h]
  rfl
section
variable {P : Program} {w : World} {K : PySem.W.Frag} {mg : Str → Option Value} {base : Heap} {f : Addr} {fd : FuncData} {cl : Nat → Addr}
def spKinds (cl : Nat → Addr) : Sp := fun xs H Q _ => ∃ (a : Addr) (i : Nat) (fs : List (Str × V)), xs = [.ref a] ∧ i < 17 ∧ ErrAt cl H a i fs ∧ ∀ r H', Same H H' → H r = none → H' r = some (.lst [.int i]) → Q (.ref r) H'
theorem scKinds : FnScope ["error", "classes", "at"] ["error"] (defScope sKinds) := ⟨rfl, rfl, rfl, by decide +kernel, rfl, by decide +kernel, by decide +kernel⟩
theorem can_kinds (D : Dfn K mg "_law_kinds" sKinds) (B : Bi3 mg) (F : XF K mg cl) : CanG P w K mg base 1 "_law_kinds" ["error"] (spKinds cl) := by
  obtain ⟨f, fd, FF, g⟩ := D.at_
  obtain ⟨W, gW, kW⟩ := F.w
  refine FnG.can (okG FF scKinds (fun xs H Q E h => ?_) (fun cdv A outer s H vs Q E hr hn h => ?_)) FF g fun _ _ _ _ _ _ us hl => match us, hl with | [_], _ => rfl
  · obtain ⟨a, i, fs, rfl, _⟩ := h
    rfl
  · obtain ⟨a, i, fs, rfl, hi, ⟨od, a0, d0⟩, q⟩ := h
    refine ⟨_, PSs.nox (pss_cons (ps_set (i := 1) scKinds.nd rfl (.inr rfl) (pe_lst (pa_cons (pe_bi call_isw B.isi (pa_cons (pv 0) (pa1 (pe_glob (v := .ref (cl 0)) (by rfl) (F.g 0 (by decide)) rfl)))) (pa_cons (pe_bi call_isw B.isi (pa_cons (pv 0) (pa1 (pe_glob (v := .ref (cl 1)) (by rfl) (F.g 1 (by decide)) rfl)))) (pa1 (pe_bi call_isw B.isi (pa_cons (pv 0) (pa1 (pe_glob (v := .ref (cl 2)) (by rfl) (F.g 2 (by decide)) rfl)))))))))
      (pss_cons (ps_set (i := 1) scKinds.nd rfl (.inr rfl) (pe_op op_cat (pv 1) (pe_lst (pa_cons (pe_bi call_isw B.isi (pa_cons (pv 0) (pa1 (pe_glob (v := .ref (cl 3)) (by rfl) (F.g 3 (by decide)) rfl)))) (pa_cons (pe_bi call_isw B.isi (pa_cons (pv 0) (pa1 (pe_glob (v := .ref (cl 4)) (by rfl) (F.g 4 (by decide)) rfl)))) (pa1 (pe_bi call_isw B.isi (pa_cons (pv 0) (pa1 (pe_glob (v := .ref (cl 5)) (by rfl) (F.g 5 (by decide)) rfl))))))))))
      (pss_cons (ps_set (i := 1) scKinds.nd rfl (.inr rfl) (pe_op op_cat (pv 1) (pe_lst (pa_cons (pe_bi call_isw B.isi (pa_cons (pv 0) (pa1 (pe_glob (v := .ref (cl 6)) (by rfl) (F.g 6 (by decide)) rfl)))) (pa1 (pe_bi call_isw B.isi (pa_cons (pv 0) (pa1 (pe_glob (v := .ref (cl 7)) (by rfl) (F.g 7 (by decide)) rfl)))))))))
      (pss_cons (ps_set (i := 1) scKinds.nd rfl (.inr rfl) (pe_op op_cat (pv 1) (pe_lst (pa_cons (pe_bi call_isw B.isi (pa_cons (pv 0) (pa1 (pe_glob (v := .ref (cl 8)) (by rfl) (F.g 8 (by decide)) rfl)))) (pa1 (pe_bi call_isw B.isi (pa_cons (pv 0) (pa1 (pe_glob (v := .ref (cl 9)) (by rfl) (F.g 9 (by decide)) rfl)))))))))
      (pss_cons (ps_set (i := 1) scKinds.nd rfl (.inr rfl) (pe_op op_cat (pv 1) (pe_lst (pa_cons (pe_bi call_isw B.isi (pa_cons (pv 0) (pa1 (pe_glob (v := .ref (cl 10)) (by rfl) (F.g 10 (by decide)) rfl)))) (pa_cons (pe_bi call_isw B.isi (pa_cons (pv 0) (pa1 (pe_glob (v := .ref (cl 11)) (by rfl) (F.g 11 (by decide)) rfl)))) (pa1 (pe_bi call_isw B.isi (pa_cons (pv 0) (pa1 (pe_glob (v := .ref (cl 12)) (by rfl) (F.g 12 (by decide)) rfl))))))))))
      (pss_cons (ps_set (i := 1) scKinds.nd rfl (.inr rfl) (pe_op op_cat (pv 1) (pe_lst (pa_cons (pe_bi call_isw B.isi (pa_cons (pv 0) (pa1 (pe_glob (v := .ref (cl 13)) (by rfl) (F.g 13 (by decide)) rfl)))) (pa_cons (pe_bi call_isw B.isi (pa_cons (pv 0) (pa1 (pe_glob (v := .ref (cl 14)) (by rfl) (F.g 14 (by decide)) rfl)))) (pa1 (pe_bi call_isw B.isi (pa_cons (pv 0) (pa1 (pe_glob (v := .ref (cl 15)) (by rfl) (F.g 15 (by decide)) rfl))))))))))
      (pss_cons (ps_if (PW.pt (pw_or (pt_not (pt_val (pe_bi call_isw B.isi (pa_cons (pv 0) (pa1 (pe_glob (v := .ref W) (by rfl) gW rfl)))))) (pw_or1 (pt_not (pt_val (pe_bi call_isw B.isi (pa_cons (pv 0) (pa1 (pe_tyv "ValueError" F.ve))))))))) (pss_one (ps_ret (pe_lst pa_nil))) pss_nil)
      (pss_one (ps_ret (pe_lc (own := [("at", 2)]) (g := gName 2) rfl scKinds.nd (pi_range1 (by rfl) B.range (pa1 pe_int)) (blkOk_by (own := [("at", 2)]) (N := ["error", "classes", "at"]) (sc := defScope sKinds) (by decide +kernel))
        (fun _ _ _ _ _ => pg_name (i := 2) scKinds.nd rfl (Or.inl rfl)) (fun _ _ _ _ _ => pts_one (pt_val (pe_ix (r := rIxL K) ix_list (pe_op (r := rCat) op_cat (pv 1) (pe_lst (pa1 (pe_bi (id := "isinstance") (r := rIsw K) call_isw B.isi (pa_cons (pv 0) (pa1 (pe_glob (v := .ref (cl 16)) (by rfl) (F.g 16 (by decide)) rfl))))))) (pv 2) (fun _ _ => rfl)))) (fun _ _ _ _ _ => pv 2))))))))))), ?_⟩
    refine ⟨_, rfl, a, cl i, od, fs, _, _, _, rfl, a0, d0, F.ex i hi, .own _, F.k i 0 hi (by decide), _, rfl, a, cl i, od, fs, _, _, _, rfl, a0, d0, F.ex i hi, .own _, F.k i 1 hi (by decide), _, rfl, a, cl i, od, fs, _, _, _, rfl, a0, d0, F.ex i hi, .own _, F.k i 2 hi (by decide), (by show 3 ≤ sizeLine; decide), fun l1 n1 => ?_⟩
    have s1 := upd_same_as (o := .lst [V.bl (decide (i = 0)), V.bl (decide (i = 1)), V.bl (decide (i = 2))]) n1
    have a1 := s1 _ _ a0
    have d1 := dictAt_same s1 d0
    have e1 : (upd H l1 (.lst [V.bl (decide (i = 0)), V.bl (decide (i = 1)), V.bl (decide (i = 2))])) l1 = some (.lst [V.bl (decide (i = 0)), V.bl (decide (i = 1)), V.bl (decide (i = 2))]) := upd_same
    generalize upd H l1 (.lst [V.bl (decide (i = 0)), V.bl (decide (i = 1)), V.bl (decide (i = 2))]) = H1 at s1 a1 d1 e1 ⊢
    refine ⟨_, rfl, _, rfl, a, cl i, od, fs, _, _, _, rfl, a1, d1, F.ex i hi, .own _, F.k i 3 hi (by decide), _, rfl, a, cl i, od, fs, _, _, _, rfl, a1, d1, F.ex i hi, .own _, F.k i 4 hi (by decide), _, rfl, a, cl i, od, fs, _, _, _, rfl, a1, d1, F.ex i hi, .own _, F.k i 5 hi (by decide), (by show 3 ≤ sizeLine; decide), fun m1 q1 => ?_⟩
    refine ⟨l1, m1, [V.bl (decide (i = 0)), V.bl (decide (i = 1)), V.bl (decide (i = 2))], [V.bl (decide (i = 3)), V.bl (decide (i = 4)), V.bl (decide (i = 5))], rfl, rfl, upd_same_as q1 _ _ e1, upd_same, (by show 6 ≤ sizeLine; decide), fun l2 n2 => ?_⟩
    have t1 := (upd_same_as (o := .lst [V.bl (decide (i = 3)), V.bl (decide (i = 4)), V.bl (decide (i = 5))]) q1).trans (upd_same_as (o := .lst ([V.bl (decide (i = 0)), V.bl (decide (i = 1)), V.bl (decide (i = 2))] ++ [V.bl (decide (i = 3)), V.bl (decide (i = 4)), V.bl (decide (i = 5))])) n2)
    have s2 := s1.trans t1
    have a2 := t1 _ _ a1
    have d2 := dictAt_same t1 d1
    have e2 : (upd (upd H1 m1 (.lst [V.bl (decide (i = 3)), V.bl (decide (i = 4)), V.bl (decide (i = 5))])) l2 (.lst ([V.bl (decide (i = 0)), V.bl (decide (i = 1)), V.bl (decide (i = 2))] ++ [V.bl (decide (i = 3)), V.bl (decide (i = 4)), V.bl (decide (i = 5))]))) l2 = some (.lst ([V.bl (decide (i = 0)), V.bl (decide (i = 1)), V.bl (decide (i = 2))] ++ [V.bl (decide (i = 3)), V.bl (decide (i = 4)), V.bl (decide (i = 5))])) := upd_same
    replace s2 : Same H (upd (upd H1 m1 (.lst [V.bl (decide (i = 3)), V.bl (decide (i = 4)), V.bl (decide (i = 5))])) l2 (.lst ([V.bl (decide (i = 0)), V.bl (decide (i = 1)), V.bl (decide (i = 2))] ++ [V.bl (decide (i = 3)), V.bl (decide (i = 4)), V.bl (decide (i = 5))]))) := s2
    clear t1
    change _ at a2 d2
    generalize hG2 : upd (upd H1 m1 (.lst [V.bl (decide (i = 3)), V.bl (decide (i = 4)), V.bl (decide (i = 5))])) l2 (.lst ([V.bl (decide (i = 0)), V.bl (decide (i = 1)), V.bl (decide (i = 2))] ++ [V.bl (decide (i = 3)), V.bl (decide (i = 4)), V.bl (decide (i = 5))])) = H2 at s2 a2 d2 e2 ⊢
    replace e2 : H2 l2 = some (.lst [V.bl (decide (i = 0)), V.bl (decide (i = 1)), V.bl (decide (i = 2)), V.bl (decide (i = 3)), V.bl (decide (i = 4)), V.bl (decide (i = 5))]) := e2
    refine ⟨_, rfl, _, rfl, a, cl i, od, fs, _, _, _, rfl, a2, d2, F.ex i hi, .own _, F.k i 6 hi (by decide), _, rfl, a, cl i, od, fs, _, _, _, rfl, a2, d2, F.ex i hi, .own _, F.k i 7 hi (by decide), (by show 2 ≤ sizeLine; decide), fun m2 q2 => ?_⟩
    refine ⟨l2, m2, [V.bl (decide (i = 0)), V.bl (decide (i = 1)), V.bl (decide (i = 2)), V.bl (decide (i = 3)), V.bl (decide (i = 4)), V.bl (decide (i = 5))], [V.bl (decide (i = 6)), V.bl (decide (i = 7))], rfl, rfl, upd_same_as q2 _ _ e2, upd_same, (by show 8 ≤ sizeLine; decide), fun l3 n3 => ?_⟩
    have t2 := (upd_same_as (o := .lst [V.bl (decide (i = 6)), V.bl (decide (i = 7))]) q2).trans (upd_same_as (o := .lst ([V.bl (decide (i = 0)), V.bl (decide (i = 1)), V.bl (decide (i = 2)), V.bl (decide (i = 3)), V.bl (decide (i = 4)), V.bl (decide (i = 5))] ++ [V.bl (decide (i = 6)), V.bl (decide (i = 7))])) n3)
    have s3 := s2.trans t2
    have a3 := t2 _ _ a2
    have d3 := dictAt_same t2 d2
    have e3 : (upd (upd H2 m2 (.lst [V.bl (decide (i = 6)), V.bl (decide (i = 7))])) l3 (.lst ([V.bl (decide (i = 0)), V.bl (decide (i = 1)), V.bl (decide (i = 2)), V.bl (decide (i = 3)), V.bl (decide (i = 4)), V.bl (decide (i = 5))] ++ [V.bl (decide (i = 6)), V.bl (decide (i = 7))]))) l3 = some (.lst ([V.bl (decide (i = 0)), V.bl (decide (i = 1)), V.bl (decide (i = 2)), V.bl (decide (i = 3)), V.bl (decide (i = 4)), V.bl (decide (i = 5))] ++ [V.bl (decide (i = 6)), V.bl (decide (i = 7))])) := upd_same
    replace s3 : Same H (upd (upd H2 m2 (.lst [V.bl (decide (i = 6)), V.bl (decide (i = 7))])) l3 (.lst ([V.bl (decide (i = 0)), V.bl (decide (i = 1)), V.bl (decide (i = 2)), V.bl (decide (i = 3)), V.bl (decide (i = 4)), V.bl (decide (i = 5))] ++ [V.bl (decide (i = 6)), V.bl (decide (i = 7))]))) := s3
    clear t2
    change _ at a3 d3
    generalize hG3 : upd (upd H2 m2 (.lst [V.bl (decide (i = 6)), V.bl (decide (i = 7))])) l3 (.lst ([V.bl (decide (i = 0)), V.bl (decide (i = 1)), V.bl (decide (i = 2)), V.bl (decide (i = 3)), V.bl (decide (i = 4)), V.bl (decide (i = 5))] ++ [V.bl (decide (i = 6)), V.bl (decide (i = 7))])) = H3 at s3 a3 d3 e3 ⊢
    replace e3 : H3 l3 = some (.lst [V.bl (decide (i = 0)), V.bl (decide (i = 1)), V.bl (decide (i = 2)), V.bl (decide (i = 3)), V.bl (decide (i = 4)), V.bl (decide (i = 5)), V.bl (decide (i = 6)), V.bl (decide (i = 7))]) := e3
    refine ⟨_, rfl, _, rfl, a, cl i, od, fs, _, _, _, rfl, a3, d3, F.ex i hi, .own _, F.k i 8 hi (by decide), _, rfl, a, cl i, od, fs, _, _, _, rfl, a3, d3, F.ex i hi, .own _, F.k i 9 hi (by decide), (by show 2 ≤ sizeLine; decide), fun m3 q3 => ?_⟩
    refine ⟨l3, m3, [V.bl (decide (i = 0)), V.bl (decide (i = 1)), V.bl (decide (i = 2)), V.bl (decide (i = 3)), V.bl (decide (i = 4)), V.bl (decide (i = 5)), V.bl (decide (i = 6)), V.bl (decide (i = 7))], [V.bl (decide (i = 8)), V.bl (decide (i = 9))], rfl, rfl, upd_same_as q3 _ _ e3, upd_same, (by show 10 ≤ sizeLine; decide), fun l4 n4 => ?_⟩
    have t3 := (upd_same_as (o := .lst [V.bl (decide (i = 8)), V.bl (decide (i = 9))]) q3).trans (upd_same_as (o := .lst ([V.bl (decide (i = 0)), V.bl (decide (i = 1)), V.bl (decide (i = 2)), V.bl (decide (i = 3)), V.bl (decide (i = 4)), V.bl (decide (i = 5)), V.bl (decide (i = 6)), V.bl (decide (i = 7))] ++ [V.bl (decide (i = 8)), V.bl (decide (i = 9))])) n4)
    have s4 := s3.trans t3
    have a4 := t3 _ _ a3
    have d4 := dictAt_same t3 d3
    have e4 : (upd (upd H3 m3 (.lst [V.bl (decide (i = 8)), V.bl (decide (i = 9))])) l4 (.lst ([V.bl (decide (i = 0)), V.bl (decide (i = 1)), V.bl (decide (i = 2)), V.bl (decide (i = 3)), V.bl (decide (i = 4)), V.bl (decide (i = 5)), V.bl (decide (i = 6)), V.bl (decide (i = 7))] ++ [V.bl (decide (i = 8)), V.bl (decide (i = 9))]))) l4 = some (.lst ([V.bl (decide (i = 0)), V.bl (decide (i = 1)), V.bl (decide (i = 2)), V.bl (decide (i = 3)), V.bl (decide (i = 4)), V.bl (decide (i = 5)), V.bl (decide (i = 6)), V.bl (decide (i = 7))] ++ [V.bl (decide (i = 8)), V.bl (decide (i = 9))])) := upd_same
    replace s4 : Same H (upd (upd H3 m3 (.lst [V.bl (decide (i = 8)), V.bl (decide (i = 9))])) l4 (.lst ([V.bl (decide (i = 0)), V.bl (decide (i = 1)), V.bl (decide (i = 2)), V.bl (decide (i = 3)), V.bl (decide (i = 4)), V.bl (decide (i = 5)), V.bl (decide (i = 6)), V.bl (decide (i = 7))] ++ [V.bl (decide (i = 8)), V.bl (decide (i = 9))]))) := s4
    clear t3
    change _ at a4 d4
    generalize hG4 : upd (upd H3 m3 (.lst [V.bl (decide (i = 8)), V.bl (decide (i = 9))])) l4 (.lst ([V.bl (decide (i = 0)), V.bl (decide (i = 1)), V.bl (decide (i = 2)), V.bl (decide (i = 3)), V.bl (decide (i = 4)), V.bl (decide (i = 5)), V.bl (decide (i = 6)), V.bl (decide (i = 7))] ++ [V.bl (decide (i = 8)), V.bl (decide (i = 9))])) = H4 at s4 a4 d4 e4 ⊢
    replace e4 : H4 l4 = some (.lst [V.bl (decide (i = 0)), V.bl (decide (i = 1)), V.bl (decide (i = 2)), V.bl (decide (i = 3)), V.bl (decide (i = 4)), V.bl (decide (i = 5)), V.bl (decide (i = 6)), V.bl (decide (i = 7)), V.bl (decide (i = 8)), V.bl (decide (i = 9))]) := e4
    refine ⟨_, rfl, _, rfl, a, cl i, od, fs, _, _, _, rfl, a4, d4, F.ex i hi, .own _, F.k i 10 hi (by decide), _, rfl, a, cl i, od, fs, _, _, _, rfl, a4, d4, F.ex i hi, .own _, F.k i 11 hi (by decide), _, rfl, a, cl i, od, fs, _, _, _, rfl, a4, d4, F.ex i hi, .own _, F.k i 12 hi (by decide), (by show 3 ≤ sizeLine; decide), fun m4 q4 => ?_⟩
    refine ⟨l4, m4, [V.bl (decide (i = 0)), V.bl (decide (i = 1)), V.bl (decide (i = 2)), V.bl (decide (i = 3)), V.bl (decide (i = 4)), V.bl (decide (i = 5)), V.bl (decide (i = 6)), V.bl (decide (i = 7)), V.bl (decide (i = 8)), V.bl (decide (i = 9))], [V.bl (decide (i = 10)), V.bl (decide (i = 11)), V.bl (decide (i = 12))], rfl, rfl, upd_same_as q4 _ _ e4, upd_same, (by show 13 ≤ sizeLine; decide), fun l5 n5 => ?_⟩
    have t4 := (upd_same_as (o := .lst [V.bl (decide (i = 10)), V.bl (decide (i = 11)), V.bl (decide (i = 12))]) q4).trans (upd_same_as (o := .lst ([V.bl (decide (i = 0)), V.bl (decide (i = 1)), V.bl (decide (i = 2)), V.bl (decide (i = 3)), V.bl (decide (i = 4)), V.bl (decide (i = 5)), V.bl (decide (i = 6)), V.bl (decide (i = 7)), V.bl (decide (i = 8)), V.bl (decide (i = 9))] ++ [V.bl (decide (i = 10)), V.bl (decide (i = 11)), V.bl (decide (i = 12))])) n5)
    have s5 := s4.trans t4
    have a5 := t4 _ _ a4
    have d5 := dictAt_same t4 d4
    have e5 : (upd (upd H4 m4 (.lst [V.bl (decide (i = 10)), V.bl (decide (i = 11)), V.bl (decide (i = 12))])) l5 (.lst ([V.bl (decide (i = 0)), V.bl (decide (i = 1)), V.bl (decide (i = 2)), V.bl (decide (i = 3)), V.bl (decide (i = 4)), V.bl (decide (i = 5)), V.bl (decide (i = 6)), V.bl (decide (i = 7)), V.bl (decide (i = 8)), V.bl (decide (i = 9))] ++ [V.bl (decide (i = 10)), V.bl (decide (i = 11)), V.bl (decide (i = 12))]))) l5 = some (.lst ([V.bl (decide (i = 0)), V.bl (decide (i = 1)), V.bl (decide (i = 2)), V.bl (decide (i = 3)), V.bl (decide (i = 4)), V.bl (decide (i = 5)), V.bl (decide (i = 6)), V.bl (decide (i = 7)), V.bl (decide (i = 8)), V.bl (decide (i = 9))] ++ [V.bl (decide (i = 10)), V.bl (decide (i = 11)), V.bl (decide (i = 12))])) := upd_same
    replace s5 : Same H (upd (upd H4 m4 (.lst [V.bl (decide (i = 10)), V.bl (decide (i = 11)), V.bl (decide (i = 12))])) l5 (.lst ([V.bl (decide (i = 0)), V.bl (decide (i = 1)), V.bl (decide (i = 2)), V.bl (decide (i = 3)), V.bl (decide (i = 4)), V.bl (decide (i = 5)), V.bl (decide (i = 6)), V.bl (decide (i = 7)), V.bl (decide (i = 8)), V.bl (decide (i = 9))] ++ [V.bl (decide (i = 10)), V.bl (decide (i = 11)), V.bl (decide (i = 12))]))) := s5
    clear t4
    change _ at a5 d5
    generalize hG5 : upd (upd H4 m4 (.lst [V.bl (decide (i = 10)), V.bl (decide (i = 11)), V.bl (decide (i = 12))])) l5 (.lst ([V.bl (decide (i = 0)), V.bl (decide (i = 1)), V.bl (decide (i = 2)), V.bl (decide (i = 3)), V.bl (decide (i = 4)), V.bl (decide (i = 5)), V.bl (decide (i = 6)), V.bl (decide (i = 7)), V.bl (decide (i = 8)), V.bl (decide (i = 9))] ++ [V.bl (decide (i = 10)), V.bl (decide (i = 11)), V.bl (decide (i = 12))])) = H5 at s5 a5 d5 e5 ⊢
    replace e5 : H5 l5 = some (.lst [V.bl (decide (i = 0)), V.bl (decide (i = 1)), V.bl (decide (i = 2)), V.bl (decide (i = 3)), V.bl (decide (i = 4)), V.bl (decide (i = 5)), V.bl (decide (i = 6)), V.bl (decide (i = 7)), V.bl (decide (i = 8)), V.bl (decide (i = 9)), V.bl (decide (i = 10)), V.bl (decide (i = 11)), V.bl (decide (i = 12))]) := e5
    refine ⟨_, rfl, _, rfl, a, cl i, od, fs, _, _, _, rfl, a5, d5, F.ex i hi, .own _, F.k i 13 hi (by decide), _, rfl, a, cl i, od, fs, _, _, _, rfl, a5, d5, F.ex i hi, .own _, F.k i 14 hi (by decide), _, rfl, a, cl i, od, fs, _, _, _, rfl, a5, d5, F.ex i hi, .own _, F.k i 15 hi (by decide), (by show 3 ≤ sizeLine; decide), fun m5 q5 => ?_⟩
    refine ⟨l5, m5, [V.bl (decide (i = 0)), V.bl (decide (i = 1)), V.bl (decide (i = 2)), V.bl (decide (i = 3)), V.bl (decide (i = 4)), V.bl (decide (i = 5)), V.bl (decide (i = 6)), V.bl (decide (i = 7)), V.bl (decide (i = 8)), V.bl (decide (i = 9)), V.bl (decide (i = 10)), V.bl (decide (i = 11)), V.bl (decide (i = 12))], [V.bl (decide (i = 13)), V.bl (decide (i = 14)), V.bl (decide (i = 15))], rfl, rfl, upd_same_as q5 _ _ e5, upd_same, (by show 16 ≤ sizeLine; decide), fun l6 n6 => ?_⟩
    have t5 := (upd_same_as (o := .lst [V.bl (decide (i = 13)), V.bl (decide (i = 14)), V.bl (decide (i = 15))]) q5).trans (upd_same_as (o := .lst ([V.bl (decide (i = 0)), V.bl (decide (i = 1)), V.bl (decide (i = 2)), V.bl (decide (i = 3)), V.bl (decide (i = 4)), V.bl (decide (i = 5)), V.bl (decide (i = 6)), V.bl (decide (i = 7)), V.bl (decide (i = 8)), V.bl (decide (i = 9)), V.bl (decide (i = 10)), V.bl (decide (i = 11)), V.bl (decide (i = 12))] ++ [V.bl (decide (i = 13)), V.bl (decide (i = 14)), V.bl (decide (i = 15))])) n6)
    have s6 := s5.trans t5
    have a6 := t5 _ _ a5
    have d6 := dictAt_same t5 d5
    have e6 : (upd (upd H5 m5 (.lst [V.bl (decide (i = 13)), V.bl (decide (i = 14)), V.bl (decide (i = 15))])) l6 (.lst ([V.bl (decide (i = 0)), V.bl (decide (i = 1)), V.bl (decide (i = 2)), V.bl (decide (i = 3)), V.bl (decide (i = 4)), V.bl (decide (i = 5)), V.bl (decide (i = 6)), V.bl (decide (i = 7)), V.bl (decide (i = 8)), V.bl (decide (i = 9)), V.bl (decide (i = 10)), V.bl (decide (i = 11)), V.bl (decide (i = 12))] ++ [V.bl (decide (i = 13)), V.bl (decide (i = 14)), V.bl (decide (i = 15))]))) l6 = some (.lst ([V.bl (decide (i = 0)), V.bl (decide (i = 1)), V.bl (decide (i = 2)), V.bl (decide (i = 3)), V.bl (decide (i = 4)), V.bl (decide (i = 5)), V.bl (decide (i = 6)), V.bl (decide (i = 7)), V.bl (decide (i = 8)), V.bl (decide (i = 9)), V.bl (decide (i = 10)), V.bl (decide (i = 11)), V.bl (decide (i = 12))] ++ [V.bl (decide (i = 13)), V.bl (decide (i = 14)), V.bl (decide (i = 15))])) := upd_same
    replace s6 : Same H (upd (upd H5 m5 (.lst [V.bl (decide (i = 13)), V.bl (decide (i = 14)), V.bl (decide (i = 15))])) l6 (.lst ([V.bl (decide (i = 0)), V.bl (decide (i = 1)), V.bl (decide (i = 2)), V.bl (decide (i = 3)), V.bl (decide (i = 4)), V.bl (decide (i = 5)), V.bl (decide (i = 6)), V.bl (decide (i = 7)), V.bl (decide (i = 8)), V.bl (decide (i = 9)), V.bl (decide (i = 10)), V.bl (decide (i = 11)), V.bl (decide (i = 12))] ++ [V.bl (decide (i = 13)), V.bl (decide (i = 14)), V.bl (decide (i = 15))]))) := s6
    clear t5
    change _ at a6 d6
    generalize hG6 : upd (upd H5 m5 (.lst [V.bl (decide (i = 13)), V.bl (decide (i = 14)), V.bl (decide (i = 15))])) l6 (.lst ([V.bl (decide (i = 0)), V.bl (decide (i = 1)), V.bl (decide (i = 2)), V.bl (decide (i = 3)), V.bl (decide (i = 4)), V.bl (decide (i = 5)), V.bl (decide (i = 6)), V.bl (decide (i = 7)), V.bl (decide (i = 8)), V.bl (decide (i = 9)), V.bl (decide (i = 10)), V.bl (decide (i = 11)), V.bl (decide (i = 12))] ++ [V.bl (decide (i = 13)), V.bl (decide (i = 14)), V.bl (decide (i = 15))])) = H6 at s6 a6 d6 e6 ⊢
    replace e6 : H6 l6 = some (.lst [V.bl (decide (i = 0)), V.bl (decide (i = 1)), V.bl (decide (i = 2)), V.bl (decide (i = 3)), V.bl (decide (i = 4)), V.bl (decide (i = 5)), V.bl (decide (i = 6)), V.bl (decide (i = 7)), V.bl (decide (i = 8)), V.bl (decide (i = 9)), V.bl (decide (i = 10)), V.bl (decide (i = 11)), V.bl (decide (i = 12)), V.bl (decide (i = 13)), V.bl (decide (i = 14)), V.bl (decide (i = 15))]) := e6
    have e17 : ([V.bl (decide (i = 0)), V.bl (decide (i = 1)), V.bl (decide (i = 2)), V.bl (decide (i = 3)), V.bl (decide (i = 4)), V.bl (decide (i = 5)), V.bl (decide (i = 6)), V.bl (decide (i = 7)), V.bl (decide (i = 8)), V.bl (decide (i = 9)), V.bl (decide (i = 10)), V.bl (decide (i = 11)), V.bl (decide (i = 12)), V.bl (decide (i = 13)), V.bl (decide (i = 14)), V.bl (decide (i = 15)), V.bl (decide (i = 16))] : List V) = (List.range 17).map fun j => V.bl (decide (i = j)) := rfl
    refine ⟨_, rfl, a, cl i, od, fs, _, _, true, rfl, a6, d6, F.ex i hi, .own _, kW i hi, true, rfl, iteF ?_⟩
    refine ⟨_, rfl, a, cl i, od, fs, _, _, true, rfl, a6, d6, F.ex i hi, .ty _, F.kv i hi, true, rfl, iteF ?_⟩
    refine ⟨_, rfl, by decide, by decide, fun D nD => ?_⟩
    have nDH := s6.free nD
    refine lc_range (lo := 0) (n := 17) (fun j H' => H' D = some (.lst (if i < j then [V.int i] else [])) ∧ Same H6 H') ⟨upd_same, upd_same_as nD⟩ ?_ ?_
    · rintro j H' hj ⟨hD, sm⟩
      refine ⟨rfl, ?_⟩
      have aj := sm _ _ a6
      have dj := dictAt_same sm d6
      refine ⟨_, rfl, _, rfl, a, cl i, od, fs, _, _, _, rfl, aj, dj, F.ex i hi, .own _, F.k i 16 hi (by decide), (by show 1 ≤ sizeLine; decide), fun m nm => ?_⟩
      refine ⟨l6, m, [V.bl (decide (i = 0)), V.bl (decide (i = 1)), V.bl (decide (i = 2)), V.bl (decide (i = 3)), V.bl (decide (i = 4)), V.bl (decide (i = 5)), V.bl (decide (i = 6)), V.bl (decide (i = 7)), V.bl (decide (i = 8)), V.bl (decide (i = 9)), V.bl (decide (i = 10)), V.bl (decide (i = 11)), V.bl (decide (i = 12)), V.bl (decide (i = 13)), V.bl (decide (i = 14)), V.bl (decide (i = 15))], [V.bl (decide (i = 16))], rfl, rfl, upd_same_as nm _ _ (sm _ _ e6), upd_same, (by show 17 ≤ sizeLine; decide), fun r nr => ?_⟩
      have st := (upd_same_as (o := .lst [V.bl (decide (i = 16))]) nm).trans (upd_same_as (o := .lst ([V.bl (decide (i = 0)), V.bl (decide (i = 1)), V.bl (decide (i = 2)), V.bl (decide (i = 3)), V.bl (decide (i = 4)), V.bl (decide (i = 5)), V.bl (decide (i = 6)), V.bl (decide (i = 7)), V.bl (decide (i = 8)), V.bl (decide (i = 9)), V.bl (decide (i = 10)), V.bl (decide (i = 11)), V.bl (decide (i = 12)), V.bl (decide (i = 13)), V.bl (decide (i = 14)), V.bl (decide (i = 15))] ++ [V.bl (decide (i = 16))])) nr)
      refine ⟨_, rfl, r, _, _, .bl (decide (i = j)), rfl, rfl, SqL.of upd_same, ?_, decide (i = j), rfl, ?_⟩
      · show atI [V.bl (decide (i = 0)), V.bl (decide (i = 1)), V.bl (decide (i = 2)), V.bl (decide (i = 3)), V.bl (decide (i = 4)), V.bl (decide (i = 5)), V.bl (decide (i = 6)), V.bl (decide (i = 7)), V.bl (decide (i = 8)), V.bl (decide (i = 9)), V.bl (decide (i = 10)), V.bl (decide (i = 11)), V.bl (decide (i = 12)), V.bl (decide (i = 13)), V.bl (decide (i = 14)), V.bl (decide (i = 15)), V.bl (decide (i = 16))] (0 + (j : Int)) = _
        rw [e17, Int.zero_add]
        exact atI_nat (kindAt i j hj)
      · have hD2 := st _ _ hD
        by_cases ij : i = j
        · rw [decide_eq_true ij]
          rw [if_neg (show ¬ i < j by omega)] at hD2
          refine iteT ⟨_, rfl, [], hD2, (by rw [sizeLine_eq]; exact Nat.le_of_ble_eq_true rfl), ?_, fun c o e => ?_⟩
          · rw [upd_same, if_pos (show i < j + 1 by omega), ij]
            show some (HO.lst ([] ++ [V.int (0 + (j : Int))])) = _
            rw [Int.zero_add]
            rfl
          · rw [upd_ne (ne_of_none e nD)]
            exact st _ _ (sm _ _ e)
        · rw [decide_eq_false ij]
          refine iteF ⟨?_, fun c o e => st _ _ (sm _ _ e)⟩
          by_cases lt : i < j
          · rw [if_pos lt] at hD2
            rw [if_pos (show i < j + 1 by omega)]
            exact hD2
          · rw [if_neg lt] at hD2
            rw [if_neg (show ¬ i < j + 1 by omega)]
            exact hD2
    · rintro H' ⟨hD, sm⟩
      rw [if_pos hi] at hD
      exact q D H' (s6.trans sm) nDH hD
end
end Kx
/-! The errors made. -/
namespace Kx
open PySem PySem.Spec PyProof.Rows L2 Xa Xb Xc Xd Xp Xm Xr Xl Xk Xt Xw
abbrev sPlaced : Stmt := top 26
abbrev sNamed : Stmt := top 27
abbrev sBare : Stmt := top 28
/-- errors of the first classes, each with the field g -/
def Errs (cl : Nat → Addr) (H : Hp) (es : List Addr) (g : V) : Prop := ∀ (i : Nat) (e : Addr), es[i]? = some e → ∃ d, H e = some (exo e (cl i) (some d)) ∧ H d = some (exd d [(fdC i, g)])
theorem Errs.same {cl : Nat → Addr} {H H' : Hp} {es : List Addr} {g : V} (h : Errs cl H es g) (s : Same H H') : Errs cl H' es g := fun i e z => let ⟨d, h1, h2⟩ := h i e z; ⟨d, s _ _ h1, s _ _ h2⟩
theorem new_same {H : Hp} {a d C : Addr} {f : Str} {v : V} (na : H a = none) (nd : H d = none) (ne : d ≠ a) : Same H (upd (upd H d (exd d [(f, v)])) a (exo a C (some d))) := fun c o e => by
  rw [upd_ne (ne_of_none e na), upd_ne (ne_of_none e nd)]
  exact e
theorem Errs.snoc {cl : Nat → Addr} {H : Hp} {es : List Addr} {g : V} {a d : Addr} (h : Errs cl H es g) (na : H a = none) (nd : H d = none) (ne : d ≠ a) : Errs cl (upd (upd H d (exd d [(fdC es.length, g)])) a (exo a (cl es.length) (some d))) (es ++ [a]) g := fun i e z => by
  by_cases lt : i < es.length
  · rw [List.getElem?_append_left lt] at z
    exact h.same (new_same na nd ne) i e z
  · rw [List.getElem?_append_right (by omega)] at z
    have i0 : i - es.length = 0 := by
      cases q : i - es.length with
      | zero => rfl
      | succ k =>
        rw [q] at z
        simp at z
    rw [i0] at z
    have e1 : a = e := Option.some.inj z
    have e2 : i = es.length := by omega
    subst e1 e2
    exact ⟨d, upd_same, by rw [upd_ne ne, upd_same]⟩
/-- the classes as they are called -/
structure XE (P : Program) (w : World) (K : PySem.W.Frag) (mg : Str → Option Value) (base : Heap) (cl : Nat → Addr) : Prop where
  n : ∀ i, i < 16 → XNew P w K mg base (nmC i) (cl i) (fdC i)
section
variable {P : Program} {w : World} {K : PySem.W.Frag} {mg : Str → Option Value} {base : Heap} {f : Addr} {fd : FuncData} {cl : Nat → Addr}
def spPlaced (cl : Nat → Addr) : Sp := fun xs H Q _ => ∃ g, xs = [g] ∧ ∀ (L : Addr) (es : List Addr) (H' : Hp), Same H H' → H L = none → H' L = some (.lst (es.map V.ref)) → es.length = 16 → Errs cl H' es g → Q (.ref L) H'
theorem scPlaced : FnScope ["given", "found"] ["given"] (defScope sPlaced) := ⟨rfl, rfl, rfl, by decide +kernel, rfl, by decide +kernel, by decide +kernel⟩
theorem can_placed (D : Dfn K mg "_law_placed" sPlaced) (F : XE P w K mg base cl) : CanG P w K mg base 3 "_law_placed" ["given"] (spPlaced cl) := by
  obtain ⟨f, fd, FF, g'⟩ := D.at_
  refine FnG.can (okG FF scPlaced (fun xs H Q E h => ?_) (fun cdv A outer s H vs Q E hr hn h => ?_)) FF g' fun _ _ _ _ _ _ us hl => match us, hl with | [_], _ => rfl
  · obtain ⟨g, rfl, _⟩ := h
    rfl
  · obtain ⟨g, rfl, q⟩ := h
    have h2 := hr.mono (show 2 ≤ 2 by decide)
    refine ⟨_, PSs.nox (pss_cons (ps_set (i := 1) scPlaced.nd rfl (.inl rfl) (pe_lst (pa_cons (pe_new (F.n 0 (by decide)) h2 (pv 0)) (pa_cons (pe_new (F.n 1 (by decide)) h2 (pv 0)) (pa_cons (pe_new (F.n 2 (by decide)) h2 (pv 0)) (pa_cons (pe_new (F.n 3 (by decide)) h2 (pv 0)) (pa1 (pe_new (F.n 4 (by decide)) h2 (pv 0)))))))))
      (pss_cons (ps_set (i := 1) scPlaced.nd rfl (.inl rfl) (pe_op op_cat (pv 1) (pe_lst (pa_cons (pe_new (F.n 5 (by decide)) h2 (pv 0)) (pa_cons (pe_new (F.n 6 (by decide)) h2 (pv 0)) (pa_cons (pe_new (F.n 7 (by decide)) h2 (pv 0)) (pa1 (pe_new (F.n 8 (by decide)) h2 (pv 0)))))))))
      (pss_cons (ps_set (i := 1) scPlaced.nd rfl (.inl rfl) (pe_op op_cat (pv 1) (pe_lst (pa_cons (pe_new (F.n 9 (by decide)) h2 (pv 0)) (pa_cons (pe_new (F.n 10 (by decide)) h2 (pv 0)) (pa_cons (pe_new (F.n 11 (by decide)) h2 (pv 0)) (pa1 (pe_new (F.n 12 (by decide)) h2 (pv 0)))))))))
      (pss_one (ps_ret (pe_op op_cat (pv 1) (pe_lst (pa_cons (pe_new (F.n 13 (by decide)) h2 (pv 0)) (pa_cons (pe_new (F.n 14 (by decide)) h2 (pv 0)) (pa1 (pe_new (F.n 15 (by decide)) h2 (pv 0)))))))))))), ?_⟩
    have E0 : Errs cl H [] g := fun i e z => by simp at z
    have S0 : Same H H := Same.refl H
    refine ⟨_, rfl, ?_⟩
    refine fun a0 d0 na0 nd0 ne0 => ?_
    have t0 := new_same (C := cl 0) (f := fdC 0) (v := g) na0 nd0 ne0
    have E1 := E0.snoc na0 nd0 ne0
    have S1 := S0.trans t0
    change Errs cl (upd (upd _ d0 (exd d0 [(fdC 0, g)])) a0 (exo a0 (cl 0) (some d0))) _ _ at E1
    generalize hG0 : upd (upd _ d0 (exd d0 [(fdC 0, g)])) a0 (exo a0 (cl 0) (some d0)) = G1 at E1 S1 ⊢
    clear E0 S0 t0
    refine ⟨_, rfl, ?_⟩
    refine fun a1 d1 na1 nd1 ne1 => ?_
    have t1 := new_same (C := cl 1) (f := fdC 1) (v := g) na1 nd1 ne1
    have E2 := E1.snoc na1 nd1 ne1
    have S2 := S1.trans t1
    change Errs cl (upd (upd _ d1 (exd d1 [(fdC 1, g)])) a1 (exo a1 (cl 1) (some d1))) _ _ at E2
    generalize hG1 : upd (upd _ d1 (exd d1 [(fdC 1, g)])) a1 (exo a1 (cl 1) (some d1)) = G2 at E2 S2 ⊢
    clear E1 S1 t1
    refine ⟨_, rfl, ?_⟩
    refine fun a2 d2 na2 nd2 ne2 => ?_
    have t2 := new_same (C := cl 2) (f := fdC 2) (v := g) na2 nd2 ne2
    have E3 := E2.snoc na2 nd2 ne2
    have S3 := S2.trans t2
    change Errs cl (upd (upd _ d2 (exd d2 [(fdC 2, g)])) a2 (exo a2 (cl 2) (some d2))) _ _ at E3
    generalize hG2 : upd (upd _ d2 (exd d2 [(fdC 2, g)])) a2 (exo a2 (cl 2) (some d2)) = G3 at E3 S3 ⊢
    clear E2 S2 t2
    refine ⟨_, rfl, ?_⟩
    refine fun a3 d3 na3 nd3 ne3 => ?_
    have t3 := new_same (C := cl 3) (f := fdC 3) (v := g) na3 nd3 ne3
    have E4 := E3.snoc na3 nd3 ne3
    have S4 := S3.trans t3
    change Errs cl (upd (upd _ d3 (exd d3 [(fdC 3, g)])) a3 (exo a3 (cl 3) (some d3))) _ _ at E4
    generalize hG3 : upd (upd _ d3 (exd d3 [(fdC 3, g)])) a3 (exo a3 (cl 3) (some d3)) = G4 at E4 S4 ⊢
    clear E3 S3 t3
    refine ⟨_, rfl, ?_⟩
    refine fun a4 d4 na4 nd4 ne4 => ?_
    have t4 := new_same (C := cl 4) (f := fdC 4) (v := g) na4 nd4 ne4
    have E5 := E4.snoc na4 nd4 ne4
    have S5 := S4.trans t4
    change Errs cl (upd (upd _ d4 (exd d4 [(fdC 4, g)])) a4 (exo a4 (cl 4) (some d4))) _ _ at E5
    generalize hG4 : upd (upd _ d4 (exd d4 [(fdC 4, g)])) a4 (exo a4 (cl 4) (some d4)) = G5 at E5 S5 ⊢
    clear E4 S4 t4
    refine ⟨(by show 5 ≤ sizeLine; decide), fun l1 nl1 => ?_⟩
    have u1 := upd_same_as (o := .lst [V.ref a0, V.ref a1, V.ref a2, V.ref a3, V.ref a4]) nl1
    have f1 : (upd G5 l1 (.lst [V.ref a0, V.ref a1, V.ref a2, V.ref a3, V.ref a4])) l1 = some (.lst [V.ref a0, V.ref a1, V.ref a2, V.ref a3, V.ref a4]) := upd_same
    replace E5 := E5.same u1
    replace S5 := S5.trans u1
    generalize upd G5 l1 (.lst [V.ref a0, V.ref a1, V.ref a2, V.ref a3, V.ref a4]) = G6 at E5 S5 f1 ⊢
    clear u1
    refine ⟨_, rfl, ?_⟩
    refine ⟨_, rfl, ?_⟩
    refine fun a5 d5 na5 nd5 ne5 => ?_
    have t5 := new_same (C := cl 5) (f := fdC 5) (v := g) na5 nd5 ne5
    have E6 := E5.snoc na5 nd5 ne5
    have S6 := S5.trans t5
    replace f1 := t5 _ _ f1
    change Errs cl (upd (upd _ d5 (exd d5 [(fdC 5, g)])) a5 (exo a5 (cl 5) (some d5))) _ _ at E6
    generalize hG5 : upd (upd _ d5 (exd d5 [(fdC 5, g)])) a5 (exo a5 (cl 5) (some d5)) = G7 at E6 S6 f1 ⊢
    clear E5 S5 t5
    refine ⟨_, rfl, ?_⟩
    refine fun a6 d6 na6 nd6 ne6 => ?_
    have t6 := new_same (C := cl 6) (f := fdC 6) (v := g) na6 nd6 ne6
    have E7 := E6.snoc na6 nd6 ne6
    have S7 := S6.trans t6
    replace f1 := t6 _ _ f1
    change Errs cl (upd (upd _ d6 (exd d6 [(fdC 6, g)])) a6 (exo a6 (cl 6) (some d6))) _ _ at E7
    generalize hG6 : upd (upd _ d6 (exd d6 [(fdC 6, g)])) a6 (exo a6 (cl 6) (some d6)) = G8 at E7 S7 f1 ⊢
    clear E6 S6 t6
    refine ⟨_, rfl, ?_⟩
    refine fun a7 d7 na7 nd7 ne7 => ?_
    have t7 := new_same (C := cl 7) (f := fdC 7) (v := g) na7 nd7 ne7
    have E8 := E7.snoc na7 nd7 ne7
    have S8 := S7.trans t7
    replace f1 := t7 _ _ f1
    change Errs cl (upd (upd _ d7 (exd d7 [(fdC 7, g)])) a7 (exo a7 (cl 7) (some d7))) _ _ at E8
    generalize hG7 : upd (upd _ d7 (exd d7 [(fdC 7, g)])) a7 (exo a7 (cl 7) (some d7)) = G9 at E8 S8 f1 ⊢
    clear E7 S7 t7
    refine ⟨_, rfl, ?_⟩
    refine fun a8 d8 na8 nd8 ne8 => ?_
    have t8 := new_same (C := cl 8) (f := fdC 8) (v := g) na8 nd8 ne8
    have E9 := E8.snoc na8 nd8 ne8
    have S9 := S8.trans t8
    replace f1 := t8 _ _ f1
    change Errs cl (upd (upd _ d8 (exd d8 [(fdC 8, g)])) a8 (exo a8 (cl 8) (some d8))) _ _ at E9
    generalize hG8 : upd (upd _ d8 (exd d8 [(fdC 8, g)])) a8 (exo a8 (cl 8) (some d8)) = G10 at E9 S9 f1 ⊢
    clear E8 S8 t8
    refine ⟨(by show 4 ≤ sizeLine; decide), fun l2 nl2 => ?_⟩
    have u2 := upd_same_as (o := .lst [V.ref a5, V.ref a6, V.ref a7, V.ref a8]) nl2
    have f2 : (upd G10 l2 (.lst [V.ref a5, V.ref a6, V.ref a7, V.ref a8])) l2 = some (.lst [V.ref a5, V.ref a6, V.ref a7, V.ref a8]) := upd_same
    replace f1 := u2 _ _ f1
    replace E9 := E9.same u2
    replace S9 := S9.trans u2
    generalize upd G10 l2 (.lst [V.ref a5, V.ref a6, V.ref a7, V.ref a8]) = G11 at E9 S9 f2 f1 ⊢
    clear u2
    refine ⟨l1, l2, [V.ref a0, V.ref a1, V.ref a2, V.ref a3, V.ref a4], [V.ref a5, V.ref a6, V.ref a7, V.ref a8], rfl, rfl, f1, f2, (by show 9 ≤ sizeLine; decide), fun l3 nl3 => ?_⟩
    have u3 := upd_same_as (o := .lst ([V.ref a0, V.ref a1, V.ref a2, V.ref a3, V.ref a4] ++ [V.ref a5, V.ref a6, V.ref a7, V.ref a8])) nl3
    have f3 : (upd G11 l3 (.lst ([V.ref a0, V.ref a1, V.ref a2, V.ref a3, V.ref a4] ++ [V.ref a5, V.ref a6, V.ref a7, V.ref a8]))) l3 = some (.lst [V.ref a0, V.ref a1, V.ref a2, V.ref a3, V.ref a4, V.ref a5, V.ref a6, V.ref a7, V.ref a8]) := upd_same
    have z3 := S9.free nl3
    replace E9 := E9.same u3
    replace S9 := S9.trans u3
    generalize upd G11 l3 (.lst ([V.ref a0, V.ref a1, V.ref a2, V.ref a3, V.ref a4] ++ [V.ref a5, V.ref a6, V.ref a7, V.ref a8])) = G12 at E9 S9 f3 ⊢
    clear u3
    refine ⟨_, rfl, ?_⟩
    refine ⟨_, rfl, ?_⟩
    refine fun a9 d9 na9 nd9 ne9 => ?_
    have t9 := new_same (C := cl 9) (f := fdC 9) (v := g) na9 nd9 ne9
    have E10 := E9.snoc na9 nd9 ne9
    have S10 := S9.trans t9
    replace f3 := t9 _ _ f3
    change Errs cl (upd (upd _ d9 (exd d9 [(fdC 9, g)])) a9 (exo a9 (cl 9) (some d9))) _ _ at E10
    generalize hG9 : upd (upd _ d9 (exd d9 [(fdC 9, g)])) a9 (exo a9 (cl 9) (some d9)) = G13 at E10 S10 f3 ⊢
    clear E9 S9 t9
    refine ⟨_, rfl, ?_⟩
    refine fun a10 d10 na10 nd10 ne10 => ?_
    have t10 := new_same (C := cl 10) (f := fdC 10) (v := g) na10 nd10 ne10
    have E11 := E10.snoc na10 nd10 ne10
    have S11 := S10.trans t10
    replace f3 := t10 _ _ f3
    change Errs cl (upd (upd _ d10 (exd d10 [(fdC 10, g)])) a10 (exo a10 (cl 10) (some d10))) _ _ at E11
    generalize hG10 : upd (upd _ d10 (exd d10 [(fdC 10, g)])) a10 (exo a10 (cl 10) (some d10)) = G14 at E11 S11 f3 ⊢
    clear E10 S10 t10
    refine ⟨_, rfl, ?_⟩
    refine fun a11 d11 na11 nd11 ne11 => ?_
    have t11 := new_same (C := cl 11) (f := fdC 11) (v := g) na11 nd11 ne11
    have E12 := E11.snoc na11 nd11 ne11
    have S12 := S11.trans t11
    replace f3 := t11 _ _ f3
    change Errs cl (upd (upd _ d11 (exd d11 [(fdC 11, g)])) a11 (exo a11 (cl 11) (some d11))) _ _ at E12
    generalize hG11 : upd (upd _ d11 (exd d11 [(fdC 11, g)])) a11 (exo a11 (cl 11) (some d11)) = G15 at E12 S12 f3 ⊢
    clear E11 S11 t11
    refine ⟨_, rfl, ?_⟩
    refine fun a12 d12 na12 nd12 ne12 => ?_
    have t12 := new_same (C := cl 12) (f := fdC 12) (v := g) na12 nd12 ne12
    have E13 := E12.snoc na12 nd12 ne12
    have S13 := S12.trans t12
    replace f3 := t12 _ _ f3
    change Errs cl (upd (upd _ d12 (exd d12 [(fdC 12, g)])) a12 (exo a12 (cl 12) (some d12))) _ _ at E13
    generalize hG12 : upd (upd _ d12 (exd d12 [(fdC 12, g)])) a12 (exo a12 (cl 12) (some d12)) = G16 at E13 S13 f3 ⊢
    clear E12 S12 t12
    refine ⟨(by show 4 ≤ sizeLine; decide), fun l4 nl4 => ?_⟩
    have u4 := upd_same_as (o := .lst [V.ref a9, V.ref a10, V.ref a11, V.ref a12]) nl4
    have f4 : (upd G16 l4 (.lst [V.ref a9, V.ref a10, V.ref a11, V.ref a12])) l4 = some (.lst [V.ref a9, V.ref a10, V.ref a11, V.ref a12]) := upd_same
    replace f3 := u4 _ _ f3
    replace E13 := E13.same u4
    replace S13 := S13.trans u4
    generalize upd G16 l4 (.lst [V.ref a9, V.ref a10, V.ref a11, V.ref a12]) = G17 at E13 S13 f4 f3 ⊢
    clear u4
    refine ⟨l3, l4, [V.ref a0, V.ref a1, V.ref a2, V.ref a3, V.ref a4, V.ref a5, V.ref a6, V.ref a7, V.ref a8], [V.ref a9, V.ref a10, V.ref a11, V.ref a12], rfl, rfl, f3, f4, (by show 13 ≤ sizeLine; decide), fun l5 nl5 => ?_⟩
    have u5 := upd_same_as (o := .lst ([V.ref a0, V.ref a1, V.ref a2, V.ref a3, V.ref a4, V.ref a5, V.ref a6, V.ref a7, V.ref a8] ++ [V.ref a9, V.ref a10, V.ref a11, V.ref a12])) nl5
    have f5 : (upd G17 l5 (.lst ([V.ref a0, V.ref a1, V.ref a2, V.ref a3, V.ref a4, V.ref a5, V.ref a6, V.ref a7, V.ref a8] ++ [V.ref a9, V.ref a10, V.ref a11, V.ref a12]))) l5 = some (.lst [V.ref a0, V.ref a1, V.ref a2, V.ref a3, V.ref a4, V.ref a5, V.ref a6, V.ref a7, V.ref a8, V.ref a9, V.ref a10, V.ref a11, V.ref a12]) := upd_same
    have z5 := S13.free nl5
    replace E13 := E13.same u5
    replace S13 := S13.trans u5
    generalize upd G17 l5 (.lst ([V.ref a0, V.ref a1, V.ref a2, V.ref a3, V.ref a4, V.ref a5, V.ref a6, V.ref a7, V.ref a8] ++ [V.ref a9, V.ref a10, V.ref a11, V.ref a12])) = G18 at E13 S13 f5 ⊢
    clear u5
    refine ⟨_, rfl, ?_⟩
    refine ⟨_, rfl, ?_⟩
    refine fun a13 d13 na13 nd13 ne13 => ?_
    have t13 := new_same (C := cl 13) (f := fdC 13) (v := g) na13 nd13 ne13
    have E14 := E13.snoc na13 nd13 ne13
    have S14 := S13.trans t13
    replace f5 := t13 _ _ f5
    change Errs cl (upd (upd _ d13 (exd d13 [(fdC 13, g)])) a13 (exo a13 (cl 13) (some d13))) _ _ at E14
    generalize hG13 : upd (upd _ d13 (exd d13 [(fdC 13, g)])) a13 (exo a13 (cl 13) (some d13)) = G19 at E14 S14 f5 ⊢
    clear E13 S13 t13
    refine ⟨_, rfl, ?_⟩
    refine fun a14 d14 na14 nd14 ne14 => ?_
    have t14 := new_same (C := cl 14) (f := fdC 14) (v := g) na14 nd14 ne14
    have E15 := E14.snoc na14 nd14 ne14
    have S15 := S14.trans t14
    replace f5 := t14 _ _ f5
    change Errs cl (upd (upd _ d14 (exd d14 [(fdC 14, g)])) a14 (exo a14 (cl 14) (some d14))) _ _ at E15
    generalize hG14 : upd (upd _ d14 (exd d14 [(fdC 14, g)])) a14 (exo a14 (cl 14) (some d14)) = G20 at E15 S15 f5 ⊢
    clear E14 S14 t14
    refine ⟨_, rfl, ?_⟩
    refine fun a15 d15 na15 nd15 ne15 => ?_
    have t15 := new_same (C := cl 15) (f := fdC 15) (v := g) na15 nd15 ne15
    have E16 := E15.snoc na15 nd15 ne15
    have S16 := S15.trans t15
    replace f5 := t15 _ _ f5
    change Errs cl (upd (upd _ d15 (exd d15 [(fdC 15, g)])) a15 (exo a15 (cl 15) (some d15))) _ _ at E16
    generalize hG15 : upd (upd _ d15 (exd d15 [(fdC 15, g)])) a15 (exo a15 (cl 15) (some d15)) = G21 at E16 S16 f5 ⊢
    clear E15 S15 t15
    refine ⟨(by show 3 ≤ sizeLine; decide), fun l6 nl6 => ?_⟩
    have u6 := upd_same_as (o := .lst [V.ref a13, V.ref a14, V.ref a15]) nl6
    have f6 : (upd G21 l6 (.lst [V.ref a13, V.ref a14, V.ref a15])) l6 = some (.lst [V.ref a13, V.ref a14, V.ref a15]) := upd_same
    replace f5 := u6 _ _ f5
    replace E16 := E16.same u6
    replace S16 := S16.trans u6
    generalize upd G21 l6 (.lst [V.ref a13, V.ref a14, V.ref a15]) = G22 at E16 S16 f6 f5 ⊢
    clear u6
    refine ⟨l5, l6, [V.ref a0, V.ref a1, V.ref a2, V.ref a3, V.ref a4, V.ref a5, V.ref a6, V.ref a7, V.ref a8, V.ref a9, V.ref a10, V.ref a11, V.ref a12], [V.ref a13, V.ref a14, V.ref a15], rfl, rfl, f5, f6, (by show 16 ≤ sizeLine; decide), fun l7 nl7 => ?_⟩
    have u7 := upd_same_as (o := .lst ([V.ref a0, V.ref a1, V.ref a2, V.ref a3, V.ref a4, V.ref a5, V.ref a6, V.ref a7, V.ref a8, V.ref a9, V.ref a10, V.ref a11, V.ref a12] ++ [V.ref a13, V.ref a14, V.ref a15])) nl7
    have f7 : (upd G22 l7 (.lst ([V.ref a0, V.ref a1, V.ref a2, V.ref a3, V.ref a4, V.ref a5, V.ref a6, V.ref a7, V.ref a8, V.ref a9, V.ref a10, V.ref a11, V.ref a12] ++ [V.ref a13, V.ref a14, V.ref a15]))) l7 = some (.lst [V.ref a0, V.ref a1, V.ref a2, V.ref a3, V.ref a4, V.ref a5, V.ref a6, V.ref a7, V.ref a8, V.ref a9, V.ref a10, V.ref a11, V.ref a12, V.ref a13, V.ref a14, V.ref a15]) := upd_same
    have z7 := S16.free nl7
    replace E16 := E16.same u7
    replace S16 := S16.trans u7
    generalize upd G22 l7 (.lst ([V.ref a0, V.ref a1, V.ref a2, V.ref a3, V.ref a4, V.ref a5, V.ref a6, V.ref a7, V.ref a8, V.ref a9, V.ref a10, V.ref a11, V.ref a12] ++ [V.ref a13, V.ref a14, V.ref a15])) = G23 at E16 S16 f7 ⊢
    clear u7
    exact q l7 [a0, a1, a2, a3, a4, a5, a6, a7, a8, a9, a10, a11, a12, a13, a14, a15] G23 S16 z7 f7 rfl E16
def spNamed (cl : Nat → Addr) : Sp := fun xs H Q _ => ∃ g, xs = [g] ∧ ∀ (L : Addr) (es : List Addr) (H' : Hp), Same H H' → H L = none → H' L = some (.lst (es.map V.ref)) → es.length = 16 → Errs cl H' es g → Q (.ref L) H'
theorem scNamed : FnScope ["given", "found"] ["given"] (defScope sNamed) := ⟨rfl, rfl, rfl, by decide +kernel, rfl, by decide +kernel, by decide +kernel⟩
theorem can_named (D : Dfn K mg "_law_named" sNamed) (F : XE P w K mg base cl) : CanG P w K mg base 3 "_law_named" ["given"] (spNamed cl) := by
  obtain ⟨f, fd, FF, g'⟩ := D.at_
  refine FnG.can (okG FF scNamed (fun xs H Q E h => ?_) (fun cdv A outer s H vs Q E hr hn h => ?_)) FF g' fun _ _ _ _ _ _ us hl => match us, hl with | [_], _ => rfl
  · obtain ⟨g, rfl, _⟩ := h
    rfl
  · obtain ⟨g, rfl, q⟩ := h
    have h2 := hr.mono (show 2 ≤ 2 by decide)
    refine ⟨_, PSs.nox (pss_cons (ps_set (i := 1) scNamed.nd rfl (.inl rfl) (pe_lst (pa_cons (pe_newK (F.n 0 (by decide)) h2 (pv 0)) (pa_cons (pe_newK (F.n 1 (by decide)) h2 (pv 0)) (pa_cons (pe_newK (F.n 2 (by decide)) h2 (pv 0)) (pa1 (pe_newK (F.n 3 (by decide)) h2 (pv 0))))))))
      (pss_cons (ps_set (i := 1) scNamed.nd rfl (.inl rfl) (pe_op op_cat (pv 1) (pe_lst (pa_cons (pe_newK (F.n 4 (by decide)) h2 (pv 0)) (pa_cons (pe_newK (F.n 5 (by decide)) h2 (pv 0)) (pa1 (pe_newK (F.n 6 (by decide)) h2 (pv 0))))))))
      (pss_cons (ps_set (i := 1) scNamed.nd rfl (.inl rfl) (pe_op op_cat (pv 1) (pe_lst (pa_cons (pe_newK (F.n 7 (by decide)) h2 (pv 0)) (pa_cons (pe_newK (F.n 8 (by decide)) h2 (pv 0)) (pa1 (pe_newK (F.n 9 (by decide)) h2 (pv 0))))))))
      (pss_cons (ps_set (i := 1) scNamed.nd rfl (.inl rfl) (pe_op op_cat (pv 1) (pe_lst (pa_cons (pe_newK (F.n 10 (by decide)) h2 (pv 0)) (pa_cons (pe_newK (F.n 11 (by decide)) h2 (pv 0)) (pa1 (pe_newK (F.n 12 (by decide)) h2 (pv 0))))))))
      (pss_one (ps_ret (pe_op op_cat (pv 1) (pe_lst (pa_cons (pe_newK (F.n 13 (by decide)) h2 (pv 0)) (pa_cons (pe_newK (F.n 14 (by decide)) h2 (pv 0)) (pa1 (pe_newK (F.n 15 (by decide)) h2 (pv 0))))))))))))), ?_⟩
    have E0 : Errs cl H [] g := fun i e z => by simp at z
    have S0 : Same H H := Same.refl H
    refine ⟨_, rfl, ?_⟩
    refine fun a0 d0 na0 nd0 ne0 => ?_
    have t0 := new_same (C := cl 0) (f := ("value" : Str)) (v := g) na0 nd0 ne0
    have E1 := E0.snoc na0 nd0 ne0
    have S1 := S0.trans t0
    change Errs cl (upd (upd _ d0 (exd d0 [(("value" : Str), g)])) a0 (exo a0 (cl 0) (some d0))) _ _ at E1
    generalize hG0 : upd (upd _ d0 (exd d0 [(("value" : Str), g)])) a0 (exo a0 (cl 0) (some d0)) = G1 at E1 S1 ⊢
    clear E0 S0 t0
    refine ⟨_, rfl, ?_⟩
    refine fun a1 d1 na1 nd1 ne1 => ?_
    have t1 := new_same (C := cl 1) (f := ("value" : Str)) (v := g) na1 nd1 ne1
    have E2 := E1.snoc na1 nd1 ne1
    have S2 := S1.trans t1
    change Errs cl (upd (upd _ d1 (exd d1 [(("value" : Str), g)])) a1 (exo a1 (cl 1) (some d1))) _ _ at E2
    generalize hG1 : upd (upd _ d1 (exd d1 [(("value" : Str), g)])) a1 (exo a1 (cl 1) (some d1)) = G2 at E2 S2 ⊢
    clear E1 S1 t1
    refine ⟨_, rfl, ?_⟩
    refine fun a2 d2 na2 nd2 ne2 => ?_
    have t2 := new_same (C := cl 2) (f := ("value" : Str)) (v := g) na2 nd2 ne2
    have E3 := E2.snoc na2 nd2 ne2
    have S3 := S2.trans t2
    change Errs cl (upd (upd _ d2 (exd d2 [(("value" : Str), g)])) a2 (exo a2 (cl 2) (some d2))) _ _ at E3
    generalize hG2 : upd (upd _ d2 (exd d2 [(("value" : Str), g)])) a2 (exo a2 (cl 2) (some d2)) = G3 at E3 S3 ⊢
    clear E2 S2 t2
    refine ⟨_, rfl, ?_⟩
    refine fun a3 d3 na3 nd3 ne3 => ?_
    have t3 := new_same (C := cl 3) (f := ("value" : Str)) (v := g) na3 nd3 ne3
    have E4 := E3.snoc na3 nd3 ne3
    have S4 := S3.trans t3
    change Errs cl (upd (upd _ d3 (exd d3 [(("value" : Str), g)])) a3 (exo a3 (cl 3) (some d3))) _ _ at E4
    generalize hG3 : upd (upd _ d3 (exd d3 [(("value" : Str), g)])) a3 (exo a3 (cl 3) (some d3)) = G4 at E4 S4 ⊢
    clear E3 S3 t3
    refine ⟨(by show 4 ≤ sizeLine; decide), fun l1 nl1 => ?_⟩
    have u1 := upd_same_as (o := .lst [V.ref a0, V.ref a1, V.ref a2, V.ref a3]) nl1
    have f1 : (upd G4 l1 (.lst [V.ref a0, V.ref a1, V.ref a2, V.ref a3])) l1 = some (.lst [V.ref a0, V.ref a1, V.ref a2, V.ref a3]) := upd_same
    replace E4 := E4.same u1
    replace S4 := S4.trans u1
    generalize upd G4 l1 (.lst [V.ref a0, V.ref a1, V.ref a2, V.ref a3]) = G5 at E4 S4 f1 ⊢
    clear u1
    refine ⟨_, rfl, ?_⟩
    refine ⟨_, rfl, ?_⟩
    refine fun a4 d4 na4 nd4 ne4 => ?_
    have t4 := new_same (C := cl 4) (f := ("value" : Str)) (v := g) na4 nd4 ne4
    have E5 := E4.snoc na4 nd4 ne4
    have S5 := S4.trans t4
    replace f1 := t4 _ _ f1
    change Errs cl (upd (upd _ d4 (exd d4 [(("value" : Str), g)])) a4 (exo a4 (cl 4) (some d4))) _ _ at E5
    generalize hG4 : upd (upd _ d4 (exd d4 [(("value" : Str), g)])) a4 (exo a4 (cl 4) (some d4)) = G6 at E5 S5 f1 ⊢
    clear E4 S4 t4
    refine ⟨_, rfl, ?_⟩
    refine fun a5 d5 na5 nd5 ne5 => ?_
    have t5 := new_same (C := cl 5) (f := ("value" : Str)) (v := g) na5 nd5 ne5
    have E6 := E5.snoc na5 nd5 ne5
    have S6 := S5.trans t5
    replace f1 := t5 _ _ f1
    change Errs cl (upd (upd _ d5 (exd d5 [(("value" : Str), g)])) a5 (exo a5 (cl 5) (some d5))) _ _ at E6
    generalize hG5 : upd (upd _ d5 (exd d5 [(("value" : Str), g)])) a5 (exo a5 (cl 5) (some d5)) = G7 at E6 S6 f1 ⊢
    clear E5 S5 t5
    refine ⟨_, rfl, ?_⟩
    refine fun a6 d6 na6 nd6 ne6 => ?_
    have t6 := new_same (C := cl 6) (f := ("value" : Str)) (v := g) na6 nd6 ne6
    have E7 := E6.snoc na6 nd6 ne6
    have S7 := S6.trans t6
    replace f1 := t6 _ _ f1
    change Errs cl (upd (upd _ d6 (exd d6 [(("value" : Str), g)])) a6 (exo a6 (cl 6) (some d6))) _ _ at E7
    generalize hG6 : upd (upd _ d6 (exd d6 [(("value" : Str), g)])) a6 (exo a6 (cl 6) (some d6)) = G8 at E7 S7 f1 ⊢
    clear E6 S6 t6
    refine ⟨(by show 3 ≤ sizeLine; decide), fun l2 nl2 => ?_⟩
    have u2 := upd_same_as (o := .lst [V.ref a4, V.ref a5, V.ref a6]) nl2
    have f2 : (upd G8 l2 (.lst [V.ref a4, V.ref a5, V.ref a6])) l2 = some (.lst [V.ref a4, V.ref a5, V.ref a6]) := upd_same
    replace f1 := u2 _ _ f1
    replace E7 := E7.same u2
    replace S7 := S7.trans u2
    generalize upd G8 l2 (.lst [V.ref a4, V.ref a5, V.ref a6]) = G9 at E7 S7 f2 f1 ⊢
    clear u2
    refine ⟨l1, l2, [V.ref a0, V.ref a1, V.ref a2, V.ref a3], [V.ref a4, V.ref a5, V.ref a6], rfl, rfl, f1, f2, (by show 7 ≤ sizeLine; decide), fun l3 nl3 => ?_⟩
    have u3 := upd_same_as (o := .lst ([V.ref a0, V.ref a1, V.ref a2, V.ref a3] ++ [V.ref a4, V.ref a5, V.ref a6])) nl3
    have f3 : (upd G9 l3 (.lst ([V.ref a0, V.ref a1, V.ref a2, V.ref a3] ++ [V.ref a4, V.ref a5, V.ref a6]))) l3 = some (.lst [V.ref a0, V.ref a1, V.ref a2, V.ref a3, V.ref a4, V.ref a5, V.ref a6]) := upd_same
    have z3 := S7.free nl3
    replace E7 := E7.same u3
    replace S7 := S7.trans u3
    generalize upd G9 l3 (.lst ([V.ref a0, V.ref a1, V.ref a2, V.ref a3] ++ [V.ref a4, V.ref a5, V.ref a6])) = G10 at E7 S7 f3 ⊢
    clear u3
    refine ⟨_, rfl, ?_⟩
    refine ⟨_, rfl, ?_⟩
    refine fun a7 d7 na7 nd7 ne7 => ?_
    have t7 := new_same (C := cl 7) (f := ("value" : Str)) (v := g) na7 nd7 ne7
    have E8 := E7.snoc na7 nd7 ne7
    have S8 := S7.trans t7
    replace f3 := t7 _ _ f3
    change Errs cl (upd (upd _ d7 (exd d7 [(("value" : Str), g)])) a7 (exo a7 (cl 7) (some d7))) _ _ at E8
    generalize hG7 : upd (upd _ d7 (exd d7 [(("value" : Str), g)])) a7 (exo a7 (cl 7) (some d7)) = G11 at E8 S8 f3 ⊢
    clear E7 S7 t7
    refine ⟨_, rfl, ?_⟩
    refine fun a8 d8 na8 nd8 ne8 => ?_
    have t8 := new_same (C := cl 8) (f := ("value" : Str)) (v := g) na8 nd8 ne8
    have E9 := E8.snoc na8 nd8 ne8
    have S9 := S8.trans t8
    replace f3 := t8 _ _ f3
    change Errs cl (upd (upd _ d8 (exd d8 [(("value" : Str), g)])) a8 (exo a8 (cl 8) (some d8))) _ _ at E9
    generalize hG8 : upd (upd _ d8 (exd d8 [(("value" : Str), g)])) a8 (exo a8 (cl 8) (some d8)) = G12 at E9 S9 f3 ⊢
    clear E8 S8 t8
    refine ⟨_, rfl, ?_⟩
    refine fun a9 d9 na9 nd9 ne9 => ?_
    have t9 := new_same (C := cl 9) (f := ("value" : Str)) (v := g) na9 nd9 ne9
    have E10 := E9.snoc na9 nd9 ne9
    have S10 := S9.trans t9
    replace f3 := t9 _ _ f3
    change Errs cl (upd (upd _ d9 (exd d9 [(("value" : Str), g)])) a9 (exo a9 (cl 9) (some d9))) _ _ at E10
    generalize hG9 : upd (upd _ d9 (exd d9 [(("value" : Str), g)])) a9 (exo a9 (cl 9) (some d9)) = G13 at E10 S10 f3 ⊢
    clear E9 S9 t9
    refine ⟨(by show 3 ≤ sizeLine; decide), fun l4 nl4 => ?_⟩
    have u4 := upd_same_as (o := .lst [V.ref a7, V.ref a8, V.ref a9]) nl4
    have f4 : (upd G13 l4 (.lst [V.ref a7, V.ref a8, V.ref a9])) l4 = some (.lst [V.ref a7, V.ref a8, V.ref a9]) := upd_same
    replace f3 := u4 _ _ f3
    replace E10 := E10.same u4
    replace S10 := S10.trans u4
    generalize upd G13 l4 (.lst [V.ref a7, V.ref a8, V.ref a9]) = G14 at E10 S10 f4 f3 ⊢
    clear u4
    refine ⟨l3, l4, [V.ref a0, V.ref a1, V.ref a2, V.ref a3, V.ref a4, V.ref a5, V.ref a6], [V.ref a7, V.ref a8, V.ref a9], rfl, rfl, f3, f4, (by show 10 ≤ sizeLine; decide), fun l5 nl5 => ?_⟩
    have u5 := upd_same_as (o := .lst ([V.ref a0, V.ref a1, V.ref a2, V.ref a3, V.ref a4, V.ref a5, V.ref a6] ++ [V.ref a7, V.ref a8, V.ref a9])) nl5
    have f5 : (upd G14 l5 (.lst ([V.ref a0, V.ref a1, V.ref a2, V.ref a3, V.ref a4, V.ref a5, V.ref a6] ++ [V.ref a7, V.ref a8, V.ref a9]))) l5 = some (.lst [V.ref a0, V.ref a1, V.ref a2, V.ref a3, V.ref a4, V.ref a5, V.ref a6, V.ref a7, V.ref a8, V.ref a9]) := upd_same
    have z5 := S10.free nl5
    replace E10 := E10.same u5
    replace S10 := S10.trans u5
    generalize upd G14 l5 (.lst ([V.ref a0, V.ref a1, V.ref a2, V.ref a3, V.ref a4, V.ref a5, V.ref a6] ++ [V.ref a7, V.ref a8, V.ref a9])) = G15 at E10 S10 f5 ⊢
    clear u5
    refine ⟨_, rfl, ?_⟩
    refine ⟨_, rfl, ?_⟩
    refine fun a10 d10 na10 nd10 ne10 => ?_
    have t10 := new_same (C := cl 10) (f := ("value" : Str)) (v := g) na10 nd10 ne10
    have E11 := E10.snoc na10 nd10 ne10
    have S11 := S10.trans t10
    replace f5 := t10 _ _ f5
    change Errs cl (upd (upd _ d10 (exd d10 [(("value" : Str), g)])) a10 (exo a10 (cl 10) (some d10))) _ _ at E11
    generalize hG10 : upd (upd _ d10 (exd d10 [(("value" : Str), g)])) a10 (exo a10 (cl 10) (some d10)) = G16 at E11 S11 f5 ⊢
    clear E10 S10 t10
    refine ⟨_, rfl, ?_⟩
    refine fun a11 d11 na11 nd11 ne11 => ?_
    have t11 := new_same (C := cl 11) (f := ("value" : Str)) (v := g) na11 nd11 ne11
    have E12 := E11.snoc na11 nd11 ne11
    have S12 := S11.trans t11
    replace f5 := t11 _ _ f5
    change Errs cl (upd (upd _ d11 (exd d11 [(("value" : Str), g)])) a11 (exo a11 (cl 11) (some d11))) _ _ at E12
    generalize hG11 : upd (upd _ d11 (exd d11 [(("value" : Str), g)])) a11 (exo a11 (cl 11) (some d11)) = G17 at E12 S12 f5 ⊢
    clear E11 S11 t11
    refine ⟨_, rfl, ?_⟩
    refine fun a12 d12 na12 nd12 ne12 => ?_
    have t12 := new_same (C := cl 12) (f := ("value" : Str)) (v := g) na12 nd12 ne12
    have E13 := E12.snoc na12 nd12 ne12
    have S13 := S12.trans t12
    replace f5 := t12 _ _ f5
    change Errs cl (upd (upd _ d12 (exd d12 [(("value" : Str), g)])) a12 (exo a12 (cl 12) (some d12))) _ _ at E13
    generalize hG12 : upd (upd _ d12 (exd d12 [(("value" : Str), g)])) a12 (exo a12 (cl 12) (some d12)) = G18 at E13 S13 f5 ⊢
    clear E12 S12 t12
    refine ⟨(by show 3 ≤ sizeLine; decide), fun l6 nl6 => ?_⟩
    have u6 := upd_same_as (o := .lst [V.ref a10, V.ref a11, V.ref a12]) nl6
    have f6 : (upd G18 l6 (.lst [V.ref a10, V.ref a11, V.ref a12])) l6 = some (.lst [V.ref a10, V.ref a11, V.ref a12]) := upd_same
    replace f5 := u6 _ _ f5
    replace E13 := E13.same u6
    replace S13 := S13.trans u6
    generalize upd G18 l6 (.lst [V.ref a10, V.ref a11, V.ref a12]) = G19 at E13 S13 f6 f5 ⊢
    clear u6
    refine ⟨l5, l6, [V.ref a0, V.ref a1, V.ref a2, V.ref a3, V.ref a4, V.ref a5, V.ref a6, V.ref a7, V.ref a8, V.ref a9], [V.ref a10, V.ref a11, V.ref a12], rfl, rfl, f5, f6, (by show 13 ≤ sizeLine; decide), fun l7 nl7 => ?_⟩
    have u7 := upd_same_as (o := .lst ([V.ref a0, V.ref a1, V.ref a2, V.ref a3, V.ref a4, V.ref a5, V.ref a6, V.ref a7, V.ref a8, V.ref a9] ++ [V.ref a10, V.ref a11, V.ref a12])) nl7
    have f7 : (upd G19 l7 (.lst ([V.ref a0, V.ref a1, V.ref a2, V.ref a3, V.ref a4, V.ref a5, V.ref a6, V.ref a7, V.ref a8, V.ref a9] ++ [V.ref a10, V.ref a11, V.ref a12]))) l7 = some (.lst [V.ref a0, V.ref a1, V.ref a2, V.ref a3, V.ref a4, V.ref a5, V.ref a6, V.ref a7, V.ref a8, V.ref a9, V.ref a10, V.ref a11, V.ref a12]) := upd_same
    have z7 := S13.free nl7
    replace E13 := E13.same u7
    replace S13 := S13.trans u7
    generalize upd G19 l7 (.lst ([V.ref a0, V.ref a1, V.ref a2, V.ref a3, V.ref a4, V.ref a5, V.ref a6, V.ref a7, V.ref a8, V.ref a9] ++ [V.ref a10, V.ref a11, V.ref a12])) = G20 at E13 S13 f7 ⊢
    clear u7
    refine ⟨_, rfl, ?_⟩
    refine ⟨_, rfl, ?_⟩
    refine fun a13 d13 na13 nd13 ne13 => ?_
    have t13 := new_same (C := cl 13) (f := ("name" : Str)) (v := g) na13 nd13 ne13
    have E14 := E13.snoc na13 nd13 ne13
    have S14 := S13.trans t13
    replace f7 := t13 _ _ f7
    change Errs cl (upd (upd _ d13 (exd d13 [(("name" : Str), g)])) a13 (exo a13 (cl 13) (some d13))) _ _ at E14
    generalize hG13 : upd (upd _ d13 (exd d13 [(("name" : Str), g)])) a13 (exo a13 (cl 13) (some d13)) = G21 at E14 S14 f7 ⊢
    clear E13 S13 t13
    refine ⟨_, rfl, ?_⟩
    refine fun a14 d14 na14 nd14 ne14 => ?_
    have t14 := new_same (C := cl 14) (f := ("name" : Str)) (v := g) na14 nd14 ne14
    have E15 := E14.snoc na14 nd14 ne14
    have S15 := S14.trans t14
    replace f7 := t14 _ _ f7
    change Errs cl (upd (upd _ d14 (exd d14 [(("name" : Str), g)])) a14 (exo a14 (cl 14) (some d14))) _ _ at E15
    generalize hG14 : upd (upd _ d14 (exd d14 [(("name" : Str), g)])) a14 (exo a14 (cl 14) (some d14)) = G22 at E15 S15 f7 ⊢
    clear E14 S14 t14
    refine ⟨_, rfl, ?_⟩
    refine fun a15 d15 na15 nd15 ne15 => ?_
    have t15 := new_same (C := cl 15) (f := ("name" : Str)) (v := g) na15 nd15 ne15
    have E16 := E15.snoc na15 nd15 ne15
    have S16 := S15.trans t15
    replace f7 := t15 _ _ f7
    change Errs cl (upd (upd _ d15 (exd d15 [(("name" : Str), g)])) a15 (exo a15 (cl 15) (some d15))) _ _ at E16
    generalize hG15 : upd (upd _ d15 (exd d15 [(("name" : Str), g)])) a15 (exo a15 (cl 15) (some d15)) = G23 at E16 S16 f7 ⊢
    clear E15 S15 t15
    refine ⟨(by show 3 ≤ sizeLine; decide), fun l8 nl8 => ?_⟩
    have u8 := upd_same_as (o := .lst [V.ref a13, V.ref a14, V.ref a15]) nl8
    have f8 : (upd G23 l8 (.lst [V.ref a13, V.ref a14, V.ref a15])) l8 = some (.lst [V.ref a13, V.ref a14, V.ref a15]) := upd_same
    replace f7 := u8 _ _ f7
    replace E16 := E16.same u8
    replace S16 := S16.trans u8
    generalize upd G23 l8 (.lst [V.ref a13, V.ref a14, V.ref a15]) = G24 at E16 S16 f8 f7 ⊢
    clear u8
    refine ⟨l7, l8, [V.ref a0, V.ref a1, V.ref a2, V.ref a3, V.ref a4, V.ref a5, V.ref a6, V.ref a7, V.ref a8, V.ref a9, V.ref a10, V.ref a11, V.ref a12], [V.ref a13, V.ref a14, V.ref a15], rfl, rfl, f7, f8, (by show 16 ≤ sizeLine; decide), fun l9 nl9 => ?_⟩
    have u9 := upd_same_as (o := .lst ([V.ref a0, V.ref a1, V.ref a2, V.ref a3, V.ref a4, V.ref a5, V.ref a6, V.ref a7, V.ref a8, V.ref a9, V.ref a10, V.ref a11, V.ref a12] ++ [V.ref a13, V.ref a14, V.ref a15])) nl9
    have f9 : (upd G24 l9 (.lst ([V.ref a0, V.ref a1, V.ref a2, V.ref a3, V.ref a4, V.ref a5, V.ref a6, V.ref a7, V.ref a8, V.ref a9, V.ref a10, V.ref a11, V.ref a12] ++ [V.ref a13, V.ref a14, V.ref a15]))) l9 = some (.lst [V.ref a0, V.ref a1, V.ref a2, V.ref a3, V.ref a4, V.ref a5, V.ref a6, V.ref a7, V.ref a8, V.ref a9, V.ref a10, V.ref a11, V.ref a12, V.ref a13, V.ref a14, V.ref a15]) := upd_same
    have z9 := S16.free nl9
    replace E16 := E16.same u9
    replace S16 := S16.trans u9
    generalize upd G24 l9 (.lst ([V.ref a0, V.ref a1, V.ref a2, V.ref a3, V.ref a4, V.ref a5, V.ref a6, V.ref a7, V.ref a8, V.ref a9, V.ref a10, V.ref a11, V.ref a12] ++ [V.ref a13, V.ref a14, V.ref a15])) = G25 at E16 S16 f9 ⊢
    clear u9
    exact q l9 [a0, a1, a2, a3, a4, a5, a6, a7, a8, a9, a10, a11, a12, a13, a14, a15] G25 S16 z9 f9 rfl E16
def spBare (cl : Nat → Addr) : Sp := fun xs H Q _ => xs = [] ∧ ∀ (L : Addr) (es : List Addr) (H' : Hp), Same H H' → H L = none → H' L = some (.lst (es.map V.ref)) → es.length = 16 → Errs cl H' es V.non → Q (.ref L) H'
theorem scBare : FnScope ["found"] [] (defScope sBare) := ⟨rfl, rfl, rfl, by decide +kernel, rfl, by decide +kernel, by decide +kernel⟩
theorem can_bare (D : Dfn K mg "_law_bare" sBare) (F : XE P w K mg base cl) : CanG P w K mg base 3 "_law_bare" [] (spBare cl) := by
  obtain ⟨f, fd, FF, g'⟩ := D.at_
  refine FnG.can (okG FF scBare (fun xs H Q E h => ?_) (fun cdv A outer s H vs Q E hr hn h => ?_)) FF g' fun _ _ _ _ _ _ us hl => match us, hl with | [], _ => rfl
  · obtain ⟨rfl, _⟩ := h
    rfl
  · obtain ⟨rfl, q⟩ := h
    have h2 := hr.mono (show 2 ≤ 2 by decide)
    refine ⟨_, PSs.nox (pss_cons (ps_set (i := 0) scBare.nd rfl (.inl rfl) (pe_lst (pa_cons (pe_new0 (F.n 0 (by decide)) h2) (pa_cons (pe_new0 (F.n 1 (by decide)) h2) (pa_cons (pe_new0 (F.n 2 (by decide)) h2) (pa_cons (pe_new0 (F.n 3 (by decide)) h2) (pa_cons (pe_new0 (F.n 4 (by decide)) h2) (pa1 (pe_new0 (F.n 5 (by decide)) h2)))))))))
      (pss_cons (ps_set (i := 0) scBare.nd rfl (.inl rfl) (pe_op op_cat (pv 0) (pe_lst (pa_cons (pe_new0 (F.n 6 (by decide)) h2) (pa_cons (pe_new0 (F.n 7 (by decide)) h2) (pa_cons (pe_new0 (F.n 8 (by decide)) h2) (pa_cons (pe_new0 (F.n 9 (by decide)) h2) (pa_cons (pe_new0 (F.n 10 (by decide)) h2) (pa1 (pe_new0 (F.n 11 (by decide)) h2))))))))))
      (pss_one (ps_ret (pe_op op_cat (pv 0) (pe_lst (pa_cons (pe_new0 (F.n 12 (by decide)) h2) (pa_cons (pe_new0 (F.n 13 (by decide)) h2) (pa_cons (pe_new0 (F.n 14 (by decide)) h2) (pa1 (pe_new0 (F.n 15 (by decide)) h2))))))))))), ?_⟩
    have E0 : Errs cl H [] V.non := fun i e z => by simp at z
    have S0 : Same H H := Same.refl H
    refine fun a0 d0 na0 nd0 ne0 => ?_
    have t0 := new_same (C := cl 0) (f := fdC 0) (v := V.non) na0 nd0 ne0
    have E1 := E0.snoc na0 nd0 ne0
    have S1 := S0.trans t0
    change Errs cl (upd (upd _ d0 (exd d0 [(fdC 0, V.non)])) a0 (exo a0 (cl 0) (some d0))) _ _ at E1
    generalize hG0 : upd (upd _ d0 (exd d0 [(fdC 0, V.non)])) a0 (exo a0 (cl 0) (some d0)) = G1 at E1 S1 ⊢
    clear E0 S0 t0
    refine fun a1 d1 na1 nd1 ne1 => ?_
    have t1 := new_same (C := cl 1) (f := fdC 1) (v := V.non) na1 nd1 ne1
    have E2 := E1.snoc na1 nd1 ne1
    have S2 := S1.trans t1
    change Errs cl (upd (upd _ d1 (exd d1 [(fdC 1, V.non)])) a1 (exo a1 (cl 1) (some d1))) _ _ at E2
    generalize hG1 : upd (upd _ d1 (exd d1 [(fdC 1, V.non)])) a1 (exo a1 (cl 1) (some d1)) = G2 at E2 S2 ⊢
    clear E1 S1 t1
    refine fun a2 d2 na2 nd2 ne2 => ?_
    have t2 := new_same (C := cl 2) (f := fdC 2) (v := V.non) na2 nd2 ne2
    have E3 := E2.snoc na2 nd2 ne2
    have S3 := S2.trans t2
    change Errs cl (upd (upd _ d2 (exd d2 [(fdC 2, V.non)])) a2 (exo a2 (cl 2) (some d2))) _ _ at E3
    generalize hG2 : upd (upd _ d2 (exd d2 [(fdC 2, V.non)])) a2 (exo a2 (cl 2) (some d2)) = G3 at E3 S3 ⊢
    clear E2 S2 t2
    refine fun a3 d3 na3 nd3 ne3 => ?_
    have t3 := new_same (C := cl 3) (f := fdC 3) (v := V.non) na3 nd3 ne3
    have E4 := E3.snoc na3 nd3 ne3
    have S4 := S3.trans t3
    change Errs cl (upd (upd _ d3 (exd d3 [(fdC 3, V.non)])) a3 (exo a3 (cl 3) (some d3))) _ _ at E4
    generalize hG3 : upd (upd _ d3 (exd d3 [(fdC 3, V.non)])) a3 (exo a3 (cl 3) (some d3)) = G4 at E4 S4 ⊢
    clear E3 S3 t3
    refine fun a4 d4 na4 nd4 ne4 => ?_
    have t4 := new_same (C := cl 4) (f := fdC 4) (v := V.non) na4 nd4 ne4
    have E5 := E4.snoc na4 nd4 ne4
    have S5 := S4.trans t4
    change Errs cl (upd (upd _ d4 (exd d4 [(fdC 4, V.non)])) a4 (exo a4 (cl 4) (some d4))) _ _ at E5
    generalize hG4 : upd (upd _ d4 (exd d4 [(fdC 4, V.non)])) a4 (exo a4 (cl 4) (some d4)) = G5 at E5 S5 ⊢
    clear E4 S4 t4
    refine fun a5 d5 na5 nd5 ne5 => ?_
    have t5 := new_same (C := cl 5) (f := fdC 5) (v := V.non) na5 nd5 ne5
    have E6 := E5.snoc na5 nd5 ne5
    have S6 := S5.trans t5
    change Errs cl (upd (upd _ d5 (exd d5 [(fdC 5, V.non)])) a5 (exo a5 (cl 5) (some d5))) _ _ at E6
    generalize hG5 : upd (upd _ d5 (exd d5 [(fdC 5, V.non)])) a5 (exo a5 (cl 5) (some d5)) = G6 at E6 S6 ⊢
    clear E5 S5 t5
    refine ⟨(by show 6 ≤ sizeLine; decide), fun l1 nl1 => ?_⟩
    have u1 := upd_same_as (o := .lst [V.ref a0, V.ref a1, V.ref a2, V.ref a3, V.ref a4, V.ref a5]) nl1
    have f1 : (upd G6 l1 (.lst [V.ref a0, V.ref a1, V.ref a2, V.ref a3, V.ref a4, V.ref a5])) l1 = some (.lst [V.ref a0, V.ref a1, V.ref a2, V.ref a3, V.ref a4, V.ref a5]) := upd_same
    replace E6 := E6.same u1
    replace S6 := S6.trans u1
    generalize upd G6 l1 (.lst [V.ref a0, V.ref a1, V.ref a2, V.ref a3, V.ref a4, V.ref a5]) = G7 at E6 S6 f1 ⊢
    clear u1
    refine ⟨_, rfl, ?_⟩
    refine fun a6 d6 na6 nd6 ne6 => ?_
    have t6 := new_same (C := cl 6) (f := fdC 6) (v := V.non) na6 nd6 ne6
    have E7 := E6.snoc na6 nd6 ne6
    have S7 := S6.trans t6
    replace f1 := t6 _ _ f1
    change Errs cl (upd (upd _ d6 (exd d6 [(fdC 6, V.non)])) a6 (exo a6 (cl 6) (some d6))) _ _ at E7
    generalize hG6 : upd (upd _ d6 (exd d6 [(fdC 6, V.non)])) a6 (exo a6 (cl 6) (some d6)) = G8 at E7 S7 f1 ⊢
    clear E6 S6 t6
    refine fun a7 d7 na7 nd7 ne7 => ?_
    have t7 := new_same (C := cl 7) (f := fdC 7) (v := V.non) na7 nd7 ne7
    have E8 := E7.snoc na7 nd7 ne7
    have S8 := S7.trans t7
    replace f1 := t7 _ _ f1
    change Errs cl (upd (upd _ d7 (exd d7 [(fdC 7, V.non)])) a7 (exo a7 (cl 7) (some d7))) _ _ at E8
    generalize hG7 : upd (upd _ d7 (exd d7 [(fdC 7, V.non)])) a7 (exo a7 (cl 7) (some d7)) = G9 at E8 S8 f1 ⊢
    clear E7 S7 t7
    refine fun a8 d8 na8 nd8 ne8 => ?_
    have t8 := new_same (C := cl 8) (f := fdC 8) (v := V.non) na8 nd8 ne8
    have E9 := E8.snoc na8 nd8 ne8
    have S9 := S8.trans t8
    replace f1 := t8 _ _ f1
    change Errs cl (upd (upd _ d8 (exd d8 [(fdC 8, V.non)])) a8 (exo a8 (cl 8) (some d8))) _ _ at E9
    generalize hG8 : upd (upd _ d8 (exd d8 [(fdC 8, V.non)])) a8 (exo a8 (cl 8) (some d8)) = G10 at E9 S9 f1 ⊢
    clear E8 S8 t8
    refine fun a9 d9 na9 nd9 ne9 => ?_
    have t9 := new_same (C := cl 9) (f := fdC 9) (v := V.non) na9 nd9 ne9
    have E10 := E9.snoc na9 nd9 ne9
    have S10 := S9.trans t9
    replace f1 := t9 _ _ f1
    change Errs cl (upd (upd _ d9 (exd d9 [(fdC 9, V.non)])) a9 (exo a9 (cl 9) (some d9))) _ _ at E10
    generalize hG9 : upd (upd _ d9 (exd d9 [(fdC 9, V.non)])) a9 (exo a9 (cl 9) (some d9)) = G11 at E10 S10 f1 ⊢
    clear E9 S9 t9
    refine fun a10 d10 na10 nd10 ne10 => ?_
    have t10 := new_same (C := cl 10) (f := fdC 10) (v := V.non) na10 nd10 ne10
    have E11 := E10.snoc na10 nd10 ne10
    have S11 := S10.trans t10
    replace f1 := t10 _ _ f1
    change Errs cl (upd (upd _ d10 (exd d10 [(fdC 10, V.non)])) a10 (exo a10 (cl 10) (some d10))) _ _ at E11
    generalize hG10 : upd (upd _ d10 (exd d10 [(fdC 10, V.non)])) a10 (exo a10 (cl 10) (some d10)) = G12 at E11 S11 f1 ⊢
    clear E10 S10 t10
    refine fun a11 d11 na11 nd11 ne11 => ?_
    have t11 := new_same (C := cl 11) (f := fdC 11) (v := V.non) na11 nd11 ne11
    have E12 := E11.snoc na11 nd11 ne11
    have S12 := S11.trans t11
    replace f1 := t11 _ _ f1
    change Errs cl (upd (upd _ d11 (exd d11 [(fdC 11, V.non)])) a11 (exo a11 (cl 11) (some d11))) _ _ at E12
    generalize hG11 : upd (upd _ d11 (exd d11 [(fdC 11, V.non)])) a11 (exo a11 (cl 11) (some d11)) = G13 at E12 S12 f1 ⊢
    clear E11 S11 t11
    refine ⟨(by show 6 ≤ sizeLine; decide), fun l2 nl2 => ?_⟩
    have u2 := upd_same_as (o := .lst [V.ref a6, V.ref a7, V.ref a8, V.ref a9, V.ref a10, V.ref a11]) nl2
    have f2 : (upd G13 l2 (.lst [V.ref a6, V.ref a7, V.ref a8, V.ref a9, V.ref a10, V.ref a11])) l2 = some (.lst [V.ref a6, V.ref a7, V.ref a8, V.ref a9, V.ref a10, V.ref a11]) := upd_same
    replace f1 := u2 _ _ f1
    replace E12 := E12.same u2
    replace S12 := S12.trans u2
    generalize upd G13 l2 (.lst [V.ref a6, V.ref a7, V.ref a8, V.ref a9, V.ref a10, V.ref a11]) = G14 at E12 S12 f2 f1 ⊢
    clear u2
    refine ⟨l1, l2, [V.ref a0, V.ref a1, V.ref a2, V.ref a3, V.ref a4, V.ref a5], [V.ref a6, V.ref a7, V.ref a8, V.ref a9, V.ref a10, V.ref a11], rfl, rfl, f1, f2, (by show 12 ≤ sizeLine; decide), fun l3 nl3 => ?_⟩
    have u3 := upd_same_as (o := .lst ([V.ref a0, V.ref a1, V.ref a2, V.ref a3, V.ref a4, V.ref a5] ++ [V.ref a6, V.ref a7, V.ref a8, V.ref a9, V.ref a10, V.ref a11])) nl3
    have f3 : (upd G14 l3 (.lst ([V.ref a0, V.ref a1, V.ref a2, V.ref a3, V.ref a4, V.ref a5] ++ [V.ref a6, V.ref a7, V.ref a8, V.ref a9, V.ref a10, V.ref a11]))) l3 = some (.lst [V.ref a0, V.ref a1, V.ref a2, V.ref a3, V.ref a4, V.ref a5, V.ref a6, V.ref a7, V.ref a8, V.ref a9, V.ref a10, V.ref a11]) := upd_same
    have z3 := S12.free nl3
    replace E12 := E12.same u3
    replace S12 := S12.trans u3
    generalize upd G14 l3 (.lst ([V.ref a0, V.ref a1, V.ref a2, V.ref a3, V.ref a4, V.ref a5] ++ [V.ref a6, V.ref a7, V.ref a8, V.ref a9, V.ref a10, V.ref a11])) = G15 at E12 S12 f3 ⊢
    clear u3
    refine ⟨_, rfl, ?_⟩
    refine fun a12 d12 na12 nd12 ne12 => ?_
    have t12 := new_same (C := cl 12) (f := fdC 12) (v := V.non) na12 nd12 ne12
    have E13 := E12.snoc na12 nd12 ne12
    have S13 := S12.trans t12
    replace f3 := t12 _ _ f3
    change Errs cl (upd (upd _ d12 (exd d12 [(fdC 12, V.non)])) a12 (exo a12 (cl 12) (some d12))) _ _ at E13
    generalize hG12 : upd (upd _ d12 (exd d12 [(fdC 12, V.non)])) a12 (exo a12 (cl 12) (some d12)) = G16 at E13 S13 f3 ⊢
    clear E12 S12 t12
    refine fun a13 d13 na13 nd13 ne13 => ?_
    have t13 := new_same (C := cl 13) (f := fdC 13) (v := V.non) na13 nd13 ne13
    have E14 := E13.snoc na13 nd13 ne13
    have S14 := S13.trans t13
    replace f3 := t13 _ _ f3
    change Errs cl (upd (upd _ d13 (exd d13 [(fdC 13, V.non)])) a13 (exo a13 (cl 13) (some d13))) _ _ at E14
    generalize hG13 : upd (upd _ d13 (exd d13 [(fdC 13, V.non)])) a13 (exo a13 (cl 13) (some d13)) = G17 at E14 S14 f3 ⊢
    clear E13 S13 t13
    refine fun a14 d14 na14 nd14 ne14 => ?_
    have t14 := new_same (C := cl 14) (f := fdC 14) (v := V.non) na14 nd14 ne14
    have E15 := E14.snoc na14 nd14 ne14
    have S15 := S14.trans t14
    replace f3 := t14 _ _ f3
    change Errs cl (upd (upd _ d14 (exd d14 [(fdC 14, V.non)])) a14 (exo a14 (cl 14) (some d14))) _ _ at E15
    generalize hG14 : upd (upd _ d14 (exd d14 [(fdC 14, V.non)])) a14 (exo a14 (cl 14) (some d14)) = G18 at E15 S15 f3 ⊢
    clear E14 S14 t14
    refine fun a15 d15 na15 nd15 ne15 => ?_
    have t15 := new_same (C := cl 15) (f := fdC 15) (v := V.non) na15 nd15 ne15
    have E16 := E15.snoc na15 nd15 ne15
    have S16 := S15.trans t15
    replace f3 := t15 _ _ f3
    change Errs cl (upd (upd _ d15 (exd d15 [(fdC 15, V.non)])) a15 (exo a15 (cl 15) (some d15))) _ _ at E16
    generalize hG15 : upd (upd _ d15 (exd d15 [(fdC 15, V.non)])) a15 (exo a15 (cl 15) (some d15)) = G19 at E16 S16 f3 ⊢
    clear E15 S15 t15
    refine ⟨(by show 4 ≤ sizeLine; decide), fun l4 nl4 => ?_⟩
    have u4 := upd_same_as (o := .lst [V.ref a12, V.ref a13, V.ref a14, V.ref a15]) nl4
    have f4 : (upd G19 l4 (.lst [V.ref a12, V.ref a13, V.ref a14, V.ref a15])) l4 = some (.lst [V.ref a12, V.ref a13, V.ref a14, V.ref a15]) := upd_same
    replace f3 := u4 _ _ f3
    replace E16 := E16.same u4
    replace S16 := S16.trans u4
    generalize upd G19 l4 (.lst [V.ref a12, V.ref a13, V.ref a14, V.ref a15]) = G20 at E16 S16 f4 f3 ⊢
    clear u4
    refine ⟨l3, l4, [V.ref a0, V.ref a1, V.ref a2, V.ref a3, V.ref a4, V.ref a5, V.ref a6, V.ref a7, V.ref a8, V.ref a9, V.ref a10, V.ref a11], [V.ref a12, V.ref a13, V.ref a14, V.ref a15], rfl, rfl, f3, f4, (by show 16 ≤ sizeLine; decide), fun l5 nl5 => ?_⟩
    have u5 := upd_same_as (o := .lst ([V.ref a0, V.ref a1, V.ref a2, V.ref a3, V.ref a4, V.ref a5, V.ref a6, V.ref a7, V.ref a8, V.ref a9, V.ref a10, V.ref a11] ++ [V.ref a12, V.ref a13, V.ref a14, V.ref a15])) nl5
    have f5 : (upd G20 l5 (.lst ([V.ref a0, V.ref a1, V.ref a2, V.ref a3, V.ref a4, V.ref a5, V.ref a6, V.ref a7, V.ref a8, V.ref a9, V.ref a10, V.ref a11] ++ [V.ref a12, V.ref a13, V.ref a14, V.ref a15]))) l5 = some (.lst [V.ref a0, V.ref a1, V.ref a2, V.ref a3, V.ref a4, V.ref a5, V.ref a6, V.ref a7, V.ref a8, V.ref a9, V.ref a10, V.ref a11, V.ref a12, V.ref a13, V.ref a14, V.ref a15]) := upd_same
    have z5 := S16.free nl5
    replace E16 := E16.same u5
    replace S16 := S16.trans u5
    generalize upd G20 l5 (.lst ([V.ref a0, V.ref a1, V.ref a2, V.ref a3, V.ref a4, V.ref a5, V.ref a6, V.ref a7, V.ref a8, V.ref a9, V.ref a10, V.ref a11] ++ [V.ref a12, V.ref a13, V.ref a14, V.ref a15])) = G21 at E16 S16 f5 ⊢
    clear u5
    exact q l5 [a0, a1, a2, a3, a4, a5, a6, a7, a8, a9, a10, a11, a12, a13, a14, a15] G21 S16 z5 f5 rfl E16
end
end Kx
/-! Errors looked at. -/
namespace Kx
open PySem PySem.Spec PyProof.Rows L2 Xa Xb Xc Xd Xp Xm Xr Xl Xk Xt Xw Xy
abbrev sRight : Stmt := top 25
def kinds (o n : Nat) : List PyData := (List.range' o n).map fun (j : Nat) => PyData.list [PyData.int (j : Int)]
theorem dp_kinds {K : PySem.W.Frag} {H : Hp} : ∀ (rs : List Addr) (o : Nat), (∀ (k : Nat) (r : Addr), rs[k]? = some r → H r = some (.lst [V.int ((o + k : Nat) : Int)])) → DpAll K H (rs.map V.ref) (kinds o rs.length)
  | [], _, _ => .nil
  | r :: rs, o, h => by
    have h0 := h 0 r rfl
    have t := dp_kinds (K := K) (H := H) rs (o + 1) fun k x e => by
      have y := h (k + 1) x e
      rw [y, show o + 1 + k = o + (k + 1) by omega]
    exact .cons (.lst (SqL.of h0) (.cons (.int _) .nil)) t
theorem kinds_shaped : SeqAt.shaped (.list (kinds 0 16)) = true := by decide +kernel
theorem kinds_eqv : PyData.eqv (.list (kinds 0 16)) (.list (kinds 0 16)) = true := SeqAt.eqv_refl _ (SeqAt.canLay_of_shaped kinds_shaped)
/-- such data can be told sixteen times over -/
structure Fine (d : PyData) : Prop where
  show_ : d.showable = true
  deep : d.depth ≤ 50
  leaves : d.leavesShort 32 = true
  small : d.weight ≤ 2000
theorem rep_all (p : PyData → Bool) (pa : List PyData → Bool) (h0 : pa [] = true) (h1 : ∀ d ds, pa (d :: ds) = (p d && pa ds)) (d : PyData) (h : p d = true) : ∀ n, pa (List.replicate n d) = true
  | 0 => h0
  | n + 1 => by
    rw [List.replicate_succ, h1, h, rep_all p pa h0 h1 d h n]
    rfl
theorem rep_depth (d : PyData) : ∀ n, PyData.depthAll (List.replicate n d) ≤ d.depth
  | 0 => by simp [PyData.depthAll]
  | n + 1 => by
    have := rep_depth d n
    rw [List.replicate_succ]
    simp only [PyData.depthAll]
    omega
theorem rep_weight (d : PyData) : ∀ n, PyData.weightAll (List.replicate n d) ≤ (d.weight + 1) * n
  | 0 => by simp [PyData.weightAll]
  | n + 1 => by
    have := rep_weight d n
    rw [List.replicate_succ]
    simp only [PyData.weightAll]
    rw [Nat.mul_succ]
    omega
theorem rep_dict (d : PyData) : ∀ n, PyData.hasDictAll (List.replicate n d) = true → d.hasDict = true
  | 0, h => by simp [PyData.hasDictAll] at h
  | n + 1, h => by
    rw [List.replicate_succ] at h
    simp only [PyData.hasDictAll, Bool.or_eq_true] at h
    rcases h with h | h
    · exact h
    · exact rep_dict d n h
theorem rep_dqs {K : PySem.W.Frag} {H : Hp} {v : V} {d : PyData} {ls : List Addr} (h : Dq K H v d ls) : ∀ n, Dqs K H (List.replicate n v) (List.replicate n d) (List.replicate n ls).flatten
  | 0 => .nil
  | n + 1 => by
    rw [List.replicate_succ, List.replicate_succ, List.replicate_succ, List.flatten_cons]
    exact .cons h (rep_dqs h n)
theorem rep_in {K : PySem.W.Frag} {H : Hp} {u : Addr} {v : V} {d : PyData} {ls : List Addr} (hu : H u = some (.lst (List.replicate 16 v))) (h : Dq K H v d ls) (nd : d.hasDict = true → sysModules ∉ ls) (nu : sysModules ≠ u) (F : Fine d) :
    ∃ l2, Dq K H (.ref u) (.list (List.replicate 16 d)) l2 ∧ ((PyData.list (List.replicate 16 d)).hasDict = true → sysModules ∉ l2) ∧ (PyData.list (List.replicate 16 d)).showable = true ∧ (PyData.list (List.replicate 16 d)).depth ≤ 60 ∧ (PyData.list (List.replicate 16 d)).shown.length ≤ sizeLine := by
  refine ⟨_, .lst (SqL.of hu) (rep_dqs h 16), fun z m => ?_, ?_, ?_, ?_⟩
  · simp only [PyData.hasDict] at z
    rcases List.mem_cons.mp m with e | e
    · exact nu e
    · obtain ⟨l, hl, e⟩ := List.mem_flatten.mp e
      rw [List.eq_of_mem_replicate hl] at e
      exact nd (rep_dict d 16 z) e
  · simp only [PyData.showable]
    exact rep_all PyData.showable PyData.showableAll (by simp [PyData.showableAll]) (fun d ds => by simp [PyData.showableAll]) d F.show_ 16
  · have := rep_depth d 16
    have := F.deep
    simp only [PyData.depth]
    omega
  · have h1 := rep_all (PyData.leavesShort 32) (PyData.leavesShortAll 32) (by simp [PyData.leavesShortAll]) (fun d ds => by simp [PyData.leavesShortAll]) d F.leaves 16
    have h2 := rep_weight d 16
    have h3 := F.small
    have h5 := PyData.shown_le 32 (by decide) (.list (List.replicate 16 d)) (by simp only [PyData.leavesShort]; exact h1)
    have h6 : (PyData.list (List.replicate 16 d)).weight ≤ 2001 * 16 := by
      simp only [PyData.weight]
      omega
    have h7 : (32 + 2) * (PyData.list (List.replicate 16 d)).weight ≤ 34 * (2001 * 16) := Nat.mul_le_mul (Nat.le_refl _) h6
    rw [sizeLine_eq]
    omega
theorem cut_lo (xs : List V) (h : xs.length = 16) : cutV xs none (some 13) = xs.take 13 := by
  unfold cutV HT.sIx
  rw [h]
  rfl
theorem cut_hi (xs : List V) (h : xs.length = 16) : cutV xs (some 13) none = xs.drop 13 := by
  unfold cutV HT.sIx
  rw [h]
  show (xs.drop 13).take 3 = xs.drop 13
  exact List.take_of_length_le (by rw [List.length_drop, h]; decide)
theorem refs_get {es : List Addr} {j : Nat} {x : V} (h : (es.map V.ref)[j]? = some x) : ∃ e, es[j]? = some e ∧ x = .ref e := by
  rw [List.getElem?_map] at h
  cases q : es[j]? with
  | none =>
    rw [q] at h
    cases h
  | some e =>
    rw [q] at h
    exact ⟨e, rfl, (Option.some.inj h).symm⟩
/-- lists of one number each, laid one behind another -/
def Laid (H : Hp) (D : Addr) (rs : List Addr) : Prop := H D = some (.lst (rs.map V.ref)) ∧ ∀ (k : Nat) (r : Addr), rs[k]? = some r → r ≠ D ∧ H r = some (.lst [V.int ((0 + k : Nat) : Int)])
theorem Laid.more {H H' : Hp} {D r : Addr} {rs : List Addr} (h : Laid H D rs) (s : Same H H') (nr : H r = none) (hr : H' r = some (.lst [V.int ((0 + rs.length : Nat) : Int)])) : Laid (upd H' D (.lst (rs.map V.ref ++ [V.ref r]))) D (rs ++ [r]) := by
  have rD : r ≠ D := fun z => by
    rw [z, h.1] at nr
    cases nr
  refine ⟨?_, fun k x e => ?_⟩
  · rw [upd_same, List.map_append]
    rfl
  · by_cases lt : k < rs.length
    · rw [List.getElem?_append_left lt] at e
      obtain ⟨n1, n2⟩ := h.2 k x e
      exact ⟨n1, by rw [upd_ne n1]; exact s _ _ n2⟩
    · rw [List.getElem?_append_right (by omega)] at e
      have i0 : k - rs.length = 0 := by
        cases q : k - rs.length with
        | zero => rfl
        | succ m =>
          rw [q] at e
          simp at e
      rw [i0] at e
      have e1 : r = x := Option.some.inj e
      have e2 : k = rs.length := by omega
      subst e1 e2
      exact ⟨rD, by rw [upd_ne rD]; exact hr⟩
theorem Laid.dp {K : PySem.W.Frag} {H : Hp} {D : Addr} {rs : List Addr} (h : Laid H D rs) (n : rs.length = 16) : Dp K H (.ref D) (.list (kinds 0 16)) := by
  have y := dp_kinds (K := K) rs 0 fun k r e => (h.2 k r e).2
  rw [n] at y
  exact .lst (SqL.of h.1) y
theorem Laid.same {H H' : Hp} {D : Addr} {rs : List Addr} (h : Laid H D rs) (s : Same H H') : Laid H' D rs := ⟨s _ _ h.1, fun k r e => ⟨(h.2 k r e).1, s _ _ (h.2 k r e).2⟩⟩
theorem lc_yes2 {A B : Hp → Prop} {σ : L2.St} {H : Hp} (h : A H) : tYes σ H (fun b H3 => if b = true then A H3 else B H3) := by
  show if true = true then A H else B H
  rw [if_pos rfl]
  exact h
theorem lt_size {n : Nat} (h : n < 1000) : n < sizeLine := small1000 (by omega)
section
variable {P : Program} {w : World} {K : PySem.W.Frag} {mg : Str → Option Value} {base : Heap} {f : Addr} {fd : FuncData} {cl : Nat → Addr}
def spRight (K : PySem.W.Frag) (cl : Nat → Addr) : Sp := fun xs H Q _ => ∃ (L : Addr) (g : V) (es : List Addr) (d : PyData) (ls : List Addr), xs = [.ref L, g] ∧ H L = some (.lst (es.map V.ref)) ∧ es.length = 16 ∧ Errs cl H es g ∧ Dq K H g d ls ∧ (d.hasDict = true → sysModules ∉ ls) ∧ Fine d ∧
  ∀ H', Same H H' → Q (.bl true) H'
theorem scRight : FnScope ["errors", "given", "fields", "error", "at"] ["errors", "given"] (defScope sRight) := ⟨rfl, rfl, rfl, by decide +kernel, rfl, by decide +kernel, by decide +kernel⟩
theorem can_right (D : Dfn K mg "_law_right" sRight) (B : Bi3 mg) (X : XE P w K mg base cl) (cK : CanG P w K mg base 1 "_law_kinds" ["error"] (spKinds cl)) : CanG P w K mg base 4 "_law_right" ["errors", "given"] (spRight K cl) := by
  obtain ⟨f, fd, FF, g'⟩ := D.at_
  refine FnG.can (okG FF scRight (fun xs H Q E h => ?_) (fun cdv A outer s H vs Q E hr hn h => ?_)) FF g' fun _ _ _ _ _ _ us hl => match us, hl with | [_, _], _ => rfl
  · obtain ⟨L, g, es, d, ls, rfl, _⟩ := h
    rfl
  · obtain ⟨L, g, es, d, ls, rfl, hL, len, er, dq, nd, fine, q⟩ := h
    have h1 := hr.mono (show 1 ≤ 3 by decide)
    refine ⟨_, PSs.nox (pss_cons (ps_if (pt_cmpR (op_neD hr.units)
        (pe_lc (own := [("error", 3)]) (g := gName 3) (tt := tYes) rfl scRight.nd (pi_list (pv 0)) (blkOk_by (own := [("error", 3)]) (N := ["errors", "given", "fields", "error", "at"]) (sc := defScope sRight) (by decide +kernel))
          (fun _ _ _ _ _ => pg_name (i := 3) scRight.nd rfl (Or.inl rfl)) (fun _ _ _ _ _ => pts_nil) (fun _ _ _ _ _ => pe_canG cK h1 hn (pa1 (pv 3))))
        (pe_lc (own := [("at", 4)]) (g := gName 4) (tt := tYes) rfl scRight.nd (pi_range1 (by rfl) B.range (pa1 pe_int)) (blkOk_by (own := [("at", 4)]) (N := ["errors", "given", "fields", "error", "at"]) (sc := defScope sRight) (by decide +kernel))
          (fun _ _ _ _ _ => pg_name (i := 4) scRight.nd rfl (Or.inl rfl)) (fun _ _ _ _ _ => pts_nil) (fun _ _ _ _ _ => pe_lst (pa1 (pv 4)))) (nomark _)) (pss_one (ps_ret pe_bl)) pss_nil)
      (pss_cons (ps_set (i := 2) scRight.nd rfl (.inl rfl) (pe_op op_catB
        (pe_lc (own := [("error", 3)]) (g := gName 3) (tt := tYes) rfl scRight.nd (pi_list (pe_slice sl_list (pv 0) po_none (po_some pe_int))) (blkOk_by (own := [("error", 3)]) (N := ["errors", "given", "fields", "error", "at"]) (sc := defScope sRight) (by decide +kernel))
          (fun _ _ _ _ _ => pg_name (i := 3) scRight.nd rfl (Or.inl rfl)) (fun _ _ _ _ _ => pts_nil) (fun _ _ _ _ _ => (pe_xw (pv 3) : PE _ _ (tXw K "value" (tVar 3)))))
        (pe_lc (own := [("error", 3)]) (g := gName 3) (tt := tYes) rfl scRight.nd (pi_list (pe_slice sl_list (pv 0) (po_some pe_int) po_none)) (blkOk_by (own := [("error", 3)]) (N := ["errors", "given", "fields", "error", "at"]) (sc := defScope sRight) (by decide +kernel))
          (fun _ _ _ _ _ => pg_name (i := 3) scRight.nd rfl (Or.inl rfl)) (fun _ _ _ _ _ => pts_nil) (fun _ _ _ _ _ => (pe_xw (pv 3) : PE _ _ (tXw K "name" (tVar 3)))))))
      (pss_one (ps_ret (pe_cmpR op_eq (pe_bi (call_repr hn hr.units) B.repr (pa1 (pv 2))) (pe_bi (call_repr hn hr.units) B.repr (pa1 (pe_op (op_repB (n := 16)) (pe_lst (pa1 (pv 1))) pe_int))) (nomark _)))))), ?_⟩
    refine ⟨_, rfl, L, rfl, ⟨_, SqL.of hL⟩, fun D nD => ?_⟩
    refine lc_list (K := K) (a := L) (xs := es.map V.ref) (fun j H' => ∃ rs : List Addr, rs.length = j ∧ Laid H' D rs ∧ Same H H') ⟨[], rfl, ⟨upd_same, fun k r e => by simp at e⟩, upd_same_as nD⟩ (fun i H' _ ⟨_, _, _, sm⟩ => SqL.of (sm _ _ hL)) ?_ ?_
    · rintro j x H' hx ⟨rs, rl, ld, sm⟩
      obtain ⟨e, he, rfl⟩ := refs_get hx
      have j16 : j < 16 := by
        rw [← len]
        exact (List.getElem?_eq_some_iff.mp he).1
      obtain ⟨d', x1, x2⟩ := er.same sm j e he
      refine ⟨rfl, lc_yes2 ?_⟩
      refine ⟨_, rfl, e, j, _, rfl, by omega, ⟨some d', x1, x2⟩, fun r H3 s3 nr hr3 => ?_⟩
      refine ⟨rs.map V.ref, s3 _ _ ld.1, by rw [List.length_map]; exact lt_size (by omega), rs ++ [r], by rw [List.length_append, rl] <;> rfl, ld.more s3 nr ?_, fun c o q => ?_⟩
      · rw [hr3, rl, Nat.zero_add]
      · rw [upd_ne (ne_of_none q nD)]
        exact s3 _ _ (sm _ _ q)
    rintro H1 ⟨rs, rl, ld, s1⟩
    rw [List.length_map, len] at rl
    refine ⟨_, rfl, by decide, by decide, fun D2 nD2 => ?_⟩
    refine lc_range (lo := 0) (n := 16) (fun j H' => ∃ rs : List Addr, rs.length = j ∧ Laid H' D2 rs ∧ Same H1 H') ⟨[], rfl, ⟨upd_same, fun k r e => by simp at e⟩, upd_same_as nD2⟩ ?_ ?_
    · rintro j H' j16 ⟨rs2, rl2, ld2, sm⟩
      refine ⟨rfl, lc_yes2 ?_⟩
      refine ⟨_, rfl, (by show 1 ≤ sizeLine; decide), fun r nr => ?_⟩
      have s3 := upd_same_as (o := .lst [V.int (0 + (j : Int))]) nr
      refine ⟨rs2.map V.ref, s3 _ _ ld2.1, by rw [List.length_map]; exact lt_size (by omega), rs2 ++ [r], by rw [List.length_append, rl2] <;> rfl, ld2.more s3 nr ?_, fun c o q => ?_⟩
      · rw [upd_same, rl2, Nat.zero_add, Int.zero_add]
      · rw [upd_ne (ne_of_none q nD2)]
        exact s3 _ _ (sm _ _ q)
    rintro H2 ⟨rs2, rl2, ld2, s2⟩
    refine ⟨_, _, (ld.same s2).dp rl, ld2.dp rl2, kinds_shaped, kinds_shaped, _, rfl, ?_⟩
    show if (!PyData.eqv (.list (kinds 0 16)) (.list (kinds 0 16))) = true then _ else _
    rw [kinds_eqv]
    have sA := s1.trans s2
    have lenV : (es.map V.ref).length = 16 := by rw [List.length_map, len]
    refine iteF ⟨_, rfl, 13, rfl, L, es.map V.ref, rfl, SqL.of (sA _ _ hL), fun S1 nS1 => ?_⟩
    rw [cut_lo _ lenV]
    have sB := sA.trans (upd_same_as (o := .lst ((es.map V.ref).take 13)) nS1)
    refine ⟨S1, rfl, ⟨_, SqL.of upd_same⟩, fun D3 nD3 => ?_⟩
    have hS1 : (upd H2 S1 (.lst ((es.map V.ref).take 13))) S1 = some (.lst ((es.map V.ref).take 13)) := upd_same
    generalize upd H2 S1 (.lst ((es.map V.ref).take 13)) = H3 at sB nD3 hS1 ⊢
    refine lc_list (K := K) (a := S1) (xs := (es.map V.ref).take 13) (fun j H' => H' D3 = some (.lst (List.replicate j g)) ∧ Same H3 H') ⟨upd_same, upd_same_as nD3⟩ (fun i H' _ ⟨_, sm⟩ => SqL.of (sm _ _ hS1)) ?_ ?_
    · rintro j x H' hx ⟨hD, sm⟩
      have j13 : j < 13 := by
        have := (List.getElem?_eq_some_iff.mp hx).1
        rw [List.length_take, lenV] at this
        omega
      rw [List.getElem?_take_of_lt j13] at hx
      obtain ⟨e, he, rfl⟩ := refs_get hx
      obtain ⟨d', x1, x2⟩ := er.same (sB.trans sm) j e he
      have XC := (X.n j (by omega)).cls
      have ef : fdC j = "value" := if_pos j13
      rw [ef] at x2 XC
      refine ⟨rfl, lc_yes2 ?_⟩
      refine ⟨_, rfl, e, cl j, d', _, g, rfl, x1, x2, XC, rfl, List.replicate j g, hD, by rw [List.length_replicate]; exact lt_size (by omega), ?_, fun c o q => ?_⟩
      · rw [upd_same, List.replicate_succ']
      · rw [upd_ne (ne_of_none q nD3)]
        exact sm _ _ q
    rintro H4 ⟨hD3, s4⟩
    rw [List.length_take, lenV] at hD3
    have sC := sB.trans s4
    refine ⟨_, rfl, 13, rfl, L, es.map V.ref, rfl, SqL.of (sC _ _ hL), fun S2 nS2 => ?_⟩
    rw [cut_hi _ lenV]
    have t5 := upd_same_as (o := .lst ((es.map V.ref).drop 13)) nS2
    have sD := sC.trans t5
    have hD3' := t5 _ _ hD3
    refine ⟨S2, rfl, ⟨_, SqL.of upd_same⟩, fun D4 nD4 => ?_⟩
    have hS2 : (upd H4 S2 (.lst ((es.map V.ref).drop 13))) S2 = some (.lst ((es.map V.ref).drop 13)) := upd_same
    clear t5
    generalize upd H4 S2 (.lst ((es.map V.ref).drop 13)) = H5 at sD nD4 hS2 hD3' ⊢
    refine lc_list (K := K) (a := S2) (xs := (es.map V.ref).drop 13) (fun j H' => H' D4 = some (.lst (List.replicate j g)) ∧ Same H5 H') ⟨upd_same, upd_same_as nD4⟩ (fun i H' _ ⟨_, sm⟩ => SqL.of (sm _ _ hS2)) ?_ ?_
    · rintro j x H' hx ⟨hD, sm⟩
      have j3 : j < 3 := by
        have := (List.getElem?_eq_some_iff.mp hx).1
        rw [List.length_drop, lenV] at this
        omega
      rw [List.getElem?_drop] at hx
      obtain ⟨e, he, rfl⟩ := refs_get hx
      obtain ⟨d', x1, x2⟩ := er.same (sD.trans sm) (13 + j) e he
      have XC := (X.n (13 + j) (by omega)).cls
      have ef : fdC (13 + j) = "name" := if_neg (by omega)
      rw [ef] at x2 XC
      refine ⟨rfl, lc_yes2 ?_⟩
      refine ⟨_, rfl, e, cl (13 + j), d', _, g, rfl, x1, x2, XC, rfl, List.replicate j g, hD, by rw [List.length_replicate]; exact lt_size (by omega), ?_, fun c o q => ?_⟩
      · rw [upd_same, List.replicate_succ']
      · rw [upd_ne (ne_of_none q nD4)]
        exact sm _ _ q
    rintro H6 ⟨hD4, s6⟩
    rw [List.length_drop, lenV] at hD4
    have sE := sD.trans s6
    refine ⟨D3, D4, _, _, rfl, rfl, s6 _ _ hD3', hD4, (by rw [List.length_replicate, List.length_replicate]; exact Nat.le_of_lt (lt_size (by decide))), fun U fU => ?_⟩
    obtain ⟨nU, bU⟩ := fU
    have t7 := upd_same_as (o := .lst (List.replicate (min 13 16) g ++ List.replicate (16 - 13) g)) nU
    have hU : (upd H6 U (.lst (List.replicate (min 13 16) g ++ List.replicate (16 - 13) g))) U = some (.lst (List.replicate 16 g)) := by
      rw [upd_same, List.replicate_append_replicate]
      rfl
    have sF := sE.trans t7
    clear t7
    generalize upd H6 U (.lst (List.replicate (min 13 16) g ++ List.replicate (16 - 13) g)) = H7 at sF hU ⊢
    obtain ⟨l2, e1, e2, e3, e4, e5⟩ := rep_in hU (dq_same sF dq) nd bU fine
    refine ⟨_, rfl, .ref U, _, l2, rfl, e1, e2, e3, e4, e5, ?_⟩
    refine ⟨_, rfl, (by show 1 ≤ sizeLine; decide), fun V1 nV1 => ?_⟩
    refine ⟨V1, g, rfl, rfl, upd_same, by decide, fun U2 fU2 => ?_⟩
    obtain ⟨nU2, bU2⟩ := fU2
    have sG := sF.trans ((upd_same_as nV1).trans (upd_same_as (o := .lst (List.replicate 16 g)) nU2))
    obtain ⟨l3, e1, e2, e3, e4, e5⟩ := rep_in (K := K) upd_same (dq_same sG dq) nd bU2 fine
    refine ⟨.ref U2, _, l3, rfl, e1, e2, e3, e4, e5, rfl, ?_⟩
    show Q (.bl (decide (V.str _ = V.str _))) _
    rw [decide_eq_true rfl]
    exact q _ sG
end
end Kx
/-! The law: one turn. -/
namespace Kx
open PySem PySem.Spec PyProof.Rows L2 Xa Xb Xc Xd Xp Xm Xr Xl Xk Xt Xw Xy Xz
abbrev sLaw : Stmt := top 29
def loopBody : Stmt → List Stmt
  | .For _ _ b _ _ => b
  | _ => []
abbrev turn : List Stmt := loopBody ((defBody sLaw).getD 2 (.Pass ⟨0, 0, 0, 0⟩))
section
variable {P : Program} {w : World} {K : PySem.W.Frag} {mg : Str → Option Value} {base : Heap} {f : Addr} {fd : FuncData} {cl : Nat → Addr}
/-- such a value is told well -/
def Told1 (K : PySem.W.Frag) (H : Hp) (v : V) : Prop := ∃ (d : PyData) (ls : List Addr), Dq K H v d ls ∧ (d.hasDict = true → sysModules ∉ ls) ∧ Fine d
theorem Told1.same {K : PySem.W.Frag} {H H' : Hp} {v : V} (e : Same H H') : Told1 K H v → Told1 K H' v := fun ⟨d, ls, h, r⟩ => ⟨d, ls, dq_same e h, r⟩
/-- what a value's turn may do: nothing, lengthen a list, give a dict a key -/
inductive Case (K : PySem.W.Frag) (H : Hp) : V → Prop
  | plain {v : V} (t : Told1 K H v) (k1 : IsK K H v "list" false) (k2 : IsK K H v "dict" false) : Case K H v
  | lst {a : Addr} {xs : List V} (h : H a = some (.lst xs)) (z : xs.length < 900) (t : Told1 K H (.ref a)) (t2 : Told1 K (upd H a (.lst (xs ++ [.str "more"]))) (.ref a)) : Case K H (.ref a)
  | dic {a : Addr} {kvs : List (Key × V)} (h : H a = some (.dK kvs)) (z : kvs.length < 900) (t : Told1 K H (.ref a)) (t2 : ∀ (H' : Hp) (r : Addr), Same H H' → sysModules ≠ r → r ≠ a → H' r = some (.lst [.int 1]) → Told1 K (upd H' a (.dK (putK kvs (.inr "more") (.ref r)))) (.ref a)) : Case K H (.ref a)
/-- all but what v names is as it was -/
def Stays (v : V) (H H' : Hp) : Prop := ∀ c o, H c = some o → v ≠ .ref c → H' c = some o
theorem Stays.of {v : V} {H H' : Hp} (s : Same H H') : Stays v H H' := fun c o h _ => s c o h
theorem scLaw : FnScope ["script", "number", "elder", "given", "first", "second"] ["script"] (defScope sLaw) := ⟨rfl, rfl, rfl, by decide +kernel, rfl, by decide +kernel, by decide +kernel⟩
theorem errs_put {H : Hp} {es : List Addr} {g : V} {a : Addr} {o : HO} (h : Errs cl H es g) (ne : ∀ e C d, H e = some (exo e C d) → e ≠ a) (nd : ∀ d fs, H d = some (exd d fs) → d ≠ a) : Errs cl (upd H a o) es g := fun i e z => by
  obtain ⟨d, h1, h2⟩ := h i e z
  exact ⟨d, by rw [upd_ne (ne _ _ _ h1)]; exact h1, by rw [upd_ne (nd _ _ h2)]; exact h2⟩
theorem exo_lst {e C : Addr} {d : Option Addr} {xs : List V} : exo e C d ≠ .lst xs := fun z => by
  unfold exo at z
  cases z
theorem exd_lst {e : Addr} {fs : List (Str × V)} {xs : List V} : exd e fs ≠ .lst xs := fun z => by
  unfold exd at z
  cases z
theorem exo_dK {e C : Addr} {d : Option Addr} {xs : List (Key × V)} : exo e C d ≠ .dK xs := fun z => by
  unfold exo at z
  cases z
theorem exd_dK {e : Addr} {fs : List (Str × V)} {xs : List (Key × V)} : exd e fs ≠ .dK xs := fun z => by
  unfold exd at z
  cases z
theorem turn_ok {cdv : Value} {A : Around} {outer : List Env} {s : Shared} {H0 : Hp} {E : XK} (B : Bi3 mg) (cR : CanG P w K mg base 4 "_law_right" ["errors", "given"] (spRight K cl)) (cP : CanG P w K mg base 3 "_law_placed" ["given"] (spPlaced cl)) (cN : CanG P w K mg base 3 "_law_named" ["given"] (spNamed cl))
    (hr : Room 4 (A.deeper (envOfC "law" (defScope sLaw) s.heap.objs.size f cdv))) (hn : NoRep (A.deeper (envOfC "law" (defScope sLaw) s.heap.objs.size f cdv))) :
    ∃ t : TS, PSs (cxOf CX0 P w K mg base ["script", "number", "elder", "given", "first", "second"] "law" (defScope sLaw) f cdv A outer s H0 E).nox turn t ∧
      ∀ (D : Ends) (H : Hp) (sv nv ev v : V) (o1 o2 : Option V), Case K H v → (∀ H' o1 o2, Stays v H H' → D.nx [some sv, some nv, some ev, some v, o1, o2] H') → t D [some sv, some nv, some ev, some v, o1, o2] H := by
  have h3 := hr.mono (show 3 ≤ 4 by decide)
  have call1 : True := trivial
  refine ⟨_, PSs.nox (pss_cons (ps_par (i := 4) (j := 5) (by rfl) scLaw.nd rfl rfl (by decide) rfl rfl (pa_cons (pe_canG cP h3 hn (pa1 (pv 3))) (pa1 (pe_canG cN h3 hn (pa1 (pv 3))))) (by rfl))
    (pss_cons (ps_if (PW.pt (pw_or (pt_not (pt_val (pe_canG cR hr hn (pa_cons (pv 4) (pa1 (pv 3)))))) (pw_or1 (pt_not (pt_val (pe_canG cR hr hn (pa_cons (pv 5) (pa1 (pv 3))))))))) (pss_one (ps_ret pe_bl)) pss_nil)
    (pss_cons (ps_if (pt_val (pe_bi call_kd B.isi (pa_cons (pv 3) (pa1 (pe_tyv "list" B.list))))) (pss_one (ps_expr (pe_bm PySem.F.plainAttrs_list PySem.F.slot_list_append PySem.F.type_list_append mt_append (pv 3) (pa1 pe_str)))) pss_nil)
    (pss_cons (ps_if (pt_val (pe_bi call_kd B.isi (pa_cons (pv 3) (pa1 (pe_tyv "dict" B.dict))))) (pss_one (ps_asg (pe_lstB (pa1 pe_int)) (pg_sub (pv 3) pe_str (set_dict (Nat.lt_of_le_of_lt (Nat.add_le_add_left (by decide : 1 ≤ 64) _) hr.units))))) pss_nil)
    (pss_one (ps_if (PW.pt (pw_or (pt_not (pt_val (pe_canG cR hr hn (pa_cons (pv 4) (pa1 (pv 3)))))) (pw_or1 (pt_not (pt_val (pe_canG cR hr hn (pa_cons (pv 5) (pa1 (pv 3))))))))) (pss_one (ps_ret pe_bl)) pss_nil)))))), ?_⟩
  intro D H sv nv ev v o1 o2 c go
  have t0 : Told1 K H v := by
    cases c with
    | plain t _ _ => exact t
    | lst _ _ t _ => exact t
    | dic _ _ t _ => exact t
  refine ⟨_, rfl, v, rfl, fun L1 es1 H1 s1 n1 hL1 len1 er1 => ?_⟩
  refine ⟨_, rfl, v, rfl, fun L2 es2 H2 s2 n2 hL2 len2 er2 => ⟨_, _, rfl, ?_⟩⟩
  have s12 := s1.trans s2
  obtain ⟨d, ls, dq, nd, fine⟩ := t0.same s12
  refine ⟨_, rfl, _, rfl, L1, v, es1, d, ls, rfl, s2 _ _ hL1, len1, er1.same s2, dq, nd, fine, fun H3 s3 => ⟨true, rfl, iteF ?_⟩⟩
  obtain ⟨d, ls, dq, nd, fine⟩ := t0.same (s12.trans s3)
  refine ⟨_, rfl, _, rfl, L2, v, es2, d, ls, rfl, s3 _ _ hL2, len2, er2.same s3, dq, nd, fine, fun H4 s4 => ⟨true, rfl, iteF ?_⟩⟩
  have sX := (s12.trans s3).trans s4
  have a1 := s4 _ _ (s3 _ _ (s2 _ _ hL1))
  have a2 := s4 _ _ (s3 _ _ hL2)
  have b1 := ((er1.same s2).same s3).same s4
  have b2 := (er2.same s3).same s4
  cases c with
  | plain t k1 k2 =>
    refine ⟨_, rfl, v, "list", false, rfl, isk_same sX k1, false, rfl, iteF ⟨_, rfl, v, "dict", false, rfl, isk_same sX k2, false, rfl, iteF ?_⟩⟩
    obtain ⟨d, ls, dq, nd, fine⟩ := t.same sX
    refine ⟨_, rfl, _, rfl, L1, v, es1, d, ls, rfl, a1, len1, b1, dq, nd, fine, fun H6 s6 => ⟨true, rfl, iteF ?_⟩⟩
    exact ⟨_, rfl, _, rfl, L2, v, es2, d, ls, rfl, s6 _ _ a2, len2, b2.same s6, dq_same s6 dq, nd, fine, fun H7 s7 => ⟨true, rfl, iteF (go _ _ _ (Stays.of (sX.trans (s6.trans s7))))⟩⟩
  | @lst a xs h z t t2 =>
    have h4 := sX _ _ h
    refine ⟨_, rfl, _, "list", true, rfl, isk_lst h4 _ (by decide +kernel), true, rfl, iteT ?_⟩
    refine ⟨_, rfl, .inl ⟨rfl, _, SqL.of h4⟩, a, xs, _, rfl, rfl, h4, small1000 (by omega), ?_⟩
    have st : ∀ c o, H4 c = some o → c ≠ a → (upd H4 a (.lst (xs ++ [.str "more"]))) c = some o := fun c o e n => by
      rw [upd_ne n]
      exact e
    have h5 : (upd H4 a (.lst (xs ++ [.str "more"]))) a = some (.lst (xs ++ [.str "more"])) := upd_same
    have aL1 := ne_of_none h n1
    have aL2 := ne_of_none (s1 _ _ h) n2
    have c1 := st _ _ a1 (Ne.symm aL1)
    have c2 := st _ _ a2 (Ne.symm aL2)
    have d1 := errs_put (o := .lst (xs ++ [.str "more"])) b1 (fun e C d q => ne_of q h4 exo_lst) (fun d fs q => ne_of q h4 exd_lst)
    have d2 := errs_put (o := .lst (xs ++ [.str "more"])) b2 (fun e C d q => ne_of q h4 exo_lst) (fun d fs q => ne_of q h4 exd_lst)
    have s5 : Same (upd H a (.lst (xs ++ [.str "more"]))) (upd H4 a (.lst (xs ++ [.str "more"]))) := fun c o e => by
      by_cases ca : c = a
      · rw [ca, upd_same] at e ⊢
        exact e
      · rw [upd_ne ca] at e ⊢
        exact sX _ _ e
    refine ⟨_, rfl, _, "dict", false, rfl, isk_lst h5 _ (by decide +kernel), false, rfl, iteF ?_⟩
    obtain ⟨d, ls, dq, nd, fine⟩ := t2.same s5
    refine ⟨_, rfl, _, rfl, L1, _, es1, d, ls, rfl, c1, len1, d1, dq, nd, fine, fun H6 s6 => ⟨true, rfl, iteF ?_⟩⟩
    exact ⟨_, rfl, _, rfl, L2, _, es2, d, ls, rfl, s6 _ _ c2, len2, d2.same s6, dq_same s6 dq, nd, fine, fun H7 s7 => ⟨true, rfl, iteF (go _ _ _ fun c o e n => s7 _ _ (s6 _ _ (st _ _ (sX _ _ e) fun z => n (by rw [z]))))⟩⟩
  | @dic a kvs h z t t2 =>
    have h4 := sX _ _ h
    refine ⟨_, rfl, _, "list", false, rfl, isk_dic h4 _ (by decide +kernel), false, rfl, iteF ?_⟩
    refine ⟨_, rfl, _, "dict", true, rfl, isk_dic h4 _ (by decide +kernel), true, rfl, iteT ?_⟩
    refine ⟨(by show 1 ≤ sizeLine; decide), fun r fr => ?_⟩
    obtain ⟨nr, br⟩ := fr
    have u5 := upd_same_as (o := .lst [V.int 1]) nr
    have h5 := u5 _ _ h4
    refine ⟨_, rfl, a, _, rfl, DPut.k (k := .inr "more") h5 (small1000 (by omega)), ?_⟩
    have ra : r ≠ a := Ne.symm (ne_of_none h4 nr)
    have st : ∀ c o, H4 c = some o → c ≠ a → (upd (upd H4 r (.lst [V.int 1])) a (.dK (putK kvs (.inr "more") (.ref r)))) c = some o := fun c o e n => by
      rw [upd_ne n]
      exact u5 _ _ e
    have aL1 := ne_of_none h n1
    have aL2 := ne_of_none (s1 _ _ h) n2
    have c1 := st _ _ a1 (Ne.symm aL1)
    have c2 := st _ _ a2 (Ne.symm aL2)
    have d1 := errs_put (o := .dK (putK kvs (.inr "more") (.ref r))) (b1.same u5) (fun e C d q => ne_of q h5 exo_dK) (fun d fs q => ne_of q h5 exd_dK)
    have d2 := errs_put (o := .dK (putK kvs (.inr "more") (.ref r))) (b2.same u5) (fun e C d q => ne_of q h5 exo_dK) (fun d fs q => ne_of q h5 exd_dK)
    obtain ⟨d, ls, dq, nd, fine⟩ := t2 _ r (sX.trans u5) br ra upd_same
    refine ⟨_, rfl, _, rfl, L1, _, es1, d, ls, rfl, c1, len1, d1, dq, nd, fine, fun H6 s6 => ⟨true, rfl, iteF ?_⟩⟩
    exact ⟨_, rfl, _, rfl, L2, _, es2, d, ls, rfl, s6 _ _ c2, len2, d2.same s6, dq_same s6 dq, nd, fine, fun H7 s7 => ⟨true, rfl, iteF (go _ _ _ fun c o e n => s7 _ _ (s6 _ _ (st _ _ (sX _ _ e) fun z => n (by rw [z]))))⟩⟩
end
end Kx
/-! The law. -/
namespace Kx
open PySem PySem.Spec PyProof.Rows L2 Xa Xb Xc Xd Xp Xm Xr Xl Xk Xt Xw Xy Xz
abbrev Mk1 : Type := Nat × Addr × HO
/-- what was laid, one behind another -/
structure Hist (H : Hp) (M : List Mk1) : Prop where
  at_ : ∀ m ∈ M, H m.2.1 = some m.2.2
  ne : ∀ m ∈ M, ∀ m' ∈ M, m.1 ≠ m'.1 → m.2.1 ≠ m'.2.1
theorem Hist.nil (H : Hp) : Hist H [] := ⟨fun _ z => (nomatch z), fun _ z => (nomatch z)⟩
theorem Hist.same {H H' : Hp} {M : List Mk1} (h : Hist H M) (s : Same H H') : Hist H' M := ⟨fun m z => s _ _ (h.at_ m z), h.ne⟩
theorem Hist.more {H : Hp} {M : List Mk1} (h : Hist H M) {p : Addr} (n : H p = none) (i : Nat) (o : HO) : Hist (upd H p o) (M ++ [(i, p, o)]) := by
  have old : ∀ m ∈ M, m.2.1 ≠ p := fun m z => ne_of_none (h.at_ m z) n
  refine ⟨fun m z => ?_, fun m z m' z' d => ?_⟩
  · rcases List.mem_append.mp z with z | z
    · rw [upd_ne (old m z)]
      exact h.at_ m z
    · rw [List.mem_singleton.mp z]
      exact upd_same
  · rcases List.mem_append.mp z with z | z
    · rcases List.mem_append.mp z' with z' | z'
      · exact h.ne m z m' z' d
      · rw [List.mem_singleton.mp z']
        exact old m z
    · rcases List.mem_append.mp z' with z' | z'
      · rw [List.mem_singleton.mp z]
        exact Ne.symm (old m' z')
      · rw [List.mem_singleton.mp z, List.mem_singleton.mp z'] at d
        exact absurd rfl d
theorem Hist.put {H W : Hp} {M : List Mk1} (h : Hist H M) (s : Same H W) {p : Addr} (n : H p = none) (i : Nat) {o : HO} (hp : W p = some o) : Hist W (M ++ [(i, p, o)]) := by
  refine ⟨fun m z => ?_, fun m z m' z' d => (h.more n i o).ne m z m' z' d⟩
  rcases List.mem_append.mp z with z | z
  · exact s _ _ (h.at_ m z)
  · rw [List.mem_singleton.mp z]
    exact hp
theorem nodict_int {z : Int} {ls : List Addr} : (PyData.int z).hasDict = true → sysModules ∉ ls := fun e => by simp [PyData.hasDict] at e
/-- the i-th value's object is as it was till its turn -/
structure Kept (H0 : Hp) (M : List Mk1) (i : Nat) (H : Hp) : Prop where
  obj : ∀ m ∈ M, i ≤ m.1 → H m.2.1 = some m.2.2
  rest : ∀ c o, H0 c = some o → (∀ m ∈ M, c ≠ m.2.1) → H c = some o
theorem Kept.next {H0 H H' : Hp} {M : List Mk1} {i : Nat} {v : V} (k : Kept H0 M i H) (h : Hist H0 M) (s : Stays v H H') (r : ∀ c, v = .ref c → ∃ o, (i, c, o) ∈ M) : Kept H0 M (i + 1) H' := by
  refine ⟨fun m z l => s _ _ (k.obj m z (by omega)) fun e => ?_, fun c o e ne => s _ _ (k.rest c o e ne) fun q => ?_⟩
  · obtain ⟨o, hm⟩ := r _ e
    exact h.ne _ hm m z (by show i ≠ m.1; omega) rfl
  · obtain ⟨o, hm⟩ := r _ q
    exact ne _ hm rfl
/-! ### data -/
theorem fine_int {z : Int} (h : z.natAbs < 10 ^ 30) : Fine (.int z) := by
  have l := log_lt h
  refine ⟨?_, by simp [PyData.depth], ?_, ?_⟩
  · simp only [PyData.showable]
    exact decide_eq_true (by omega)
  · simp only [PyData.leavesShort]
    exact decide_eq_true (int_short h)
  · simp only [PyData.weight]
    split <;> omega
theorem fine_d7 {z : Int} (h : z.natAbs < 10 ^ 30) : Fine (.dict [(.str "a", .list [.int z])]) := by
  have l := log_lt h
  have e := int_short h
  have w : PyData.weight (.int z) ≤ 100 := by
    simp only [PyData.weight]
    split <;> omega
  refine ⟨?_, ?_, ?_, ?_⟩
  · simp only [PyData.showable, PyData.showableKv, PyData.showableAll]
    rw [decide_eq_true (show z.natAbs.log2 < 1920 by omega)]
    rfl
  · simp [PyData.depth, PyData.depthKv, PyData.depthAll]
  · simp only [PyData.leavesShort, PyData.leavesShortKv, PyData.leavesShortAll]
    rw [decide_eq_true e]
    decide
  · simp only [PyData.weight, PyData.weightKv, PyData.weightAll] at w ⊢
    have : (Str.ofString "a").cps.size = 1 := by decide
    omega
theorem fine_d7b {z : Int} (h : z.natAbs < 10 ^ 30) : Fine (.dict [(.str "a", .list [.int z]), (.str "more", .list [.int 1])]) := by
  have l := log_lt h
  have e := int_short h
  have w : PyData.weight (.int z) ≤ 100 := by
    simp only [PyData.weight]
    split <;> omega
  refine ⟨?_, ?_, ?_, ?_⟩
  · simp only [PyData.showable, PyData.showableKv, PyData.showableAll]
    rw [decide_eq_true (show z.natAbs.log2 < 1920 by omega)]
    decide +kernel
  · simp [PyData.depth, PyData.depthKv, PyData.depthAll]
  · simp only [PyData.leavesShort, PyData.leavesShortKv, PyData.leavesShortAll]
    rw [decide_eq_true e]
    decide +kernel
  · have w2 : PyData.weightAll [.int 1] ≤ 10 := by decide +kernel
    simp only [PyData.weight, PyData.weightKv, PyData.weightAll] at w w2 ⊢
    have : (Str.ofString "a").cps.size = 1 := by decide
    have : (Str.ofString "more").cps.size = 4 := by decide
    omega
theorem fine_of {d : PyData} (h1 : d.showable = true) (h2 : d.depth ≤ 50) (h3 : d.leavesShort 32 = true) (h4 : d.weight ≤ 2000) : Fine d := ⟨h1, h2, h3, h4⟩
section
variable {P : Program} {w : World} {K : PySem.W.Frag} {mg : Str → Option Value} {base : Heap} {f : Addr} {fd : FuncData} {cl : Nat → Addr}
/-- the law's own functions -/
structure LawF (P : Program) (w : World) (K : PySem.W.Frag) (mg : Str → Option Value) (base : Heap) (cl : Nat → Addr) : Prop where
  gen : CanG P w K mg base 2 "_law_generator" ["script", "index"] (spGener K)
  rnd : CanG P w K mg base 2 "_law_random" ["generator", "bound"] spRandom
  knd : CanG P w K mg base 1 "_law_kinds" ["error"] (spKinds cl)
  rgt : CanG P w K mg base 4 "_law_right" ["errors", "given"] (spRight K cl)
  plc : CanG P w K mg base 3 "_law_placed" ["given"] (spPlaced cl)
  nam : CanG P w K mg base 3 "_law_named" ["given"] (spNamed cl)
  bar : CanG P w K mg base 3 "_law_bare" [] (spBare cl)
  und : XNew0 P w K mg base "NothingToUndo" (cl 16)
def spLaw (K : PySem.W.Frag) : Sp := fun xs H Q _ => ∃ (a : Addr) (ns : List Int), xs = [.ref a] ∧ SqL K H a (ns.map V.int) ∧ ∀ H', Q (.bl true) H'
theorem fn_law (F : FnP K "law" sLaw f fd) (B : Bi3 mg) (LF : LawF P w K mg base cl) : FnG P w K mg base 5 f fd ["script"] (spLaw K) := by
  obtain ⟨cG, cR2, cK, cR, cP, cN, cB, und⟩ := LF
  refine okG F scLaw (fun xs H Q E h => ?_) (fun cdv A outer s H vs Q E hr hn h => ?_)
  · obtain ⟨a, ns, rfl, _⟩ := h
    rfl
  · obtain ⟨sa, ns, rfl, hS, q⟩ := h
    have h2 := hr.mono (show 2 ≤ 4 by decide)
    have h3 := hr.mono (show 3 ≤ 4 by decide)
    have h1 := hr.mono (show 1 ≤ 4 by decide)
    obtain ⟨tt, ht, turnR⟩ := turn_ok (K := K) (base := base) (f := f) (cdv := cdv) (A := A) (outer := outer) (s := s) (H0 := H) (E := E) B cR cP cN hr hn
    refine ⟨_, PSs.nox (pss_cons (ps_set (i := 1) scLaw.nd rfl (.inl rfl) (pe_canG cR2 h2 hn (pa_cons (pe_canG cG h2 hn (pa_cons (pv 0) (pa1 pe_int))) (pa1 (pe_op op_pow pe_int pe_int)))))
      (pss_cons (ps_set (i := 2) scLaw.nd rfl (.inl rfl) (pe_lst (pa_cons (pe_canG cP h3 hn (pa1 (pv 1))) (pa1 (pe_canG cN h3 hn (pa1 pe_str))))))
      (pss_cons (ps_for PassesOwn.never rfl (pi_list (pe_lst (pa_cons (pv 1) (pa_cons (pe_op op_sub pe_int (pv 1)) (pa_cons (pe_tup (pa_cons pe_int (pa1 pe_int))) (pa_cons (pe_tup pa_nil) (pa_cons (pe_lst (pa1 pe_int)) (pa_cons (pe_lst pa_nil) (pa_cons pe_dnewK
          (pa_cons (pe_disp (pps_cons pe_str (pe_lstB (pa1 (pv 1))) pps_nil) rfl rfl (by simp) (by decide)) (pa_cons pe_str (pa_cons pe_str (pa_cons pe_bl (pa_cons pe_non (pa1 (pe_tup (pa_cons pe_str (pa1 pe_int)))))))))))))))))) (pg_name (i := 3) scLaw.nd rfl (.inl rfl)) ht)
      (pss_cons (ps_if (PW.pt (pw_or (pt_not (pt_val (pe_canG cR hr hn (pa_cons (pe_ix ix_list (pv 2) pe_int (fun _ _ => rfl)) (pa1 (pv 1)))))) (pw_or (pt_not (pt_val (pe_canG cR hr hn (pa_cons (pe_ix ix_list (pv 2) pe_int (fun _ _ => rfl)) (pa1 pe_str)))))
          (pw_or1 (pt_not (pt_val (pe_canG cR hr hn (pa_cons (pe_canG0 cB h3 hn) (pa1 pe_non))))))))) (pss_one (ps_ret pe_bl)) pss_nil)
      (pss_one (ps_ret (pe_cmpR (op_eqD hr.units) (pe_canG cK h1 hn (pa1 (pe_newN und h2))) (pe_lst (pa1 pe_int)) (nomark _)))))))), ?_⟩
    refine ⟨_, rfl, sa, ns, 0, rfl, by decide, hS, fun gA H1 ng s1 G1 => ?_⟩
    refine ⟨_, _, rfl, rfl, ⟨by decide, by decide, by decide⟩, gA, _, _, rfl, by decide, by decide, G1, by decide, fun r H2 r0 r1 G2 k2 => ?_⟩
    have rb : r.natAbs < 10 ^ 30 := by
      have e12 : (10 : Int) ^ (12 : Int).toNat = 1000000000000 := by decide
      rw [e12] at r1
      have e30 : (10 : Nat) ^ 30 = 1000000000000000000000000000000 := by decide
      omega
    refine ⟨_, rfl, .int r, rfl, fun P1 ep H3 s3 n3 hP1 lenp erp => ?_⟩
    refine ⟨.str "elder", rfl, fun P2 en H4 s4 n4 hP2 lenn ern => ?_⟩
    refine ⟨(by show 2 ≤ sizeLine; decide), fun EL nEL => ?_⟩
    have sE := upd_same_as (o := .lst [V.ref P1, V.ref P2]) nEL
    have hEL : (upd H4 EL (.lst [V.ref P1, V.ref P2])) EL = some (.lst [V.ref P1, V.ref P2]) := upd_same
    have hP1 := sE _ _ (s4 _ _ hP1)
    have hP2 := sE _ _ hP2
    have erp := (erp.same s4).same sE
    have ern := ern.same sE
    generalize upd H4 EL (.lst [V.ref P1, V.ref P2]) = Hb at sE hEL hP1 hP2 erp ern ⊢
    -- the thirteen
    have S0 : Same Hb Hb := Same.refl Hb
    have h0 := Hist.nil Hb
    refine ⟨_, rfl, _, rfl, _, _, rfl, rfl, (by show 2 ≤ sizeLine; decide), fun t2 n2 => ?_⟩
    have h1' := h0.more n2 2 (.tup [V.int 1, V.int 2])
    have S1 := S0.trans (upd_same_as (o := .tup [V.int 1, V.int 2]) n2)
    generalize upd Hb t2 (.tup [V.int 1, V.int 2]) = K1 at h1' S1 ⊢
    refine ⟨(by show 0 ≤ sizeLine; decide), fun t3 n3' => ?_⟩
    have h2' := h1'.more n3' 3 (.tup [])
    have S2 := S1.trans (upd_same_as (o := .tup []) n3')
    generalize upd K1 t3 (.tup []) = K2 at h2' S2 ⊢
    refine ⟨(by show 1 ≤ sizeLine; decide), fun l4 n4' => ?_⟩
    have h3' := h2'.more n4' 4 (.lst [V.int 1])
    have S3 := S2.trans (upd_same_as (o := .lst [V.int 1]) n4')
    generalize upd K2 l4 (.lst [V.int 1]) = K3 at h3' S3 ⊢
    refine ⟨(by show 0 ≤ sizeLine; decide), fun l5 n5 => ?_⟩
    have h4' := h3'.more n5 5 (.lst [])
    have S4 := S3.trans (upd_same_as (o := .lst []) n5)
    generalize upd K3 l5 (.lst []) = K4 at h4' S4 ⊢
    intro d6 n6
    have h5' := h4'.more n6 6 (.dK [])
    have S5 := S4.trans (upd_same_as (o := .dK []) n6)
    generalize upd K4 d6 (.dK []) = K5 at h5' S5 ⊢
    intro d7 n7
    refine ⟨_, rfl, (by show 1 ≤ sizeLine; decide), fun l7 fl7 => ?_⟩
    obtain ⟨nl7, bl7⟩ := fl7
    have d7l : d7 ≠ l7 := ne_of_none (upd_same (o := HO.dK [])) nl7
    refine ⟨by rw [upd_ne d7l, upd_same], [(.inr "a", .ref l7)], rfl, by simp, ?_⟩
    have s57 : Same K5 (upd (upd (upd K5 d7 (.dK [])) l7 (.lst [V.int r])) d7 (.dK [(.inr "a", .ref l7)])) := fun c o e => by
      have y : (upd K5 d7 (.dK [])) c = some o := by
        rw [upd_ne (ne_of_none e n7)]
        exact e
      rw [upd_ne (ne_of_none e n7), upd_ne (ne_of_none y nl7)]
      exact y
    have hl7 : (upd (upd (upd K5 d7 (.dK [])) l7 (.lst [V.int r])) d7 (.dK [(.inr "a", .ref l7)])) l7 = some (.lst [V.int r]) := by
      rw [upd_ne (Ne.symm d7l), upd_same]
    have h6' := h5'.put s57 n7 7 (upd_same (o := HO.dK [(.inr "a", .ref l7)]))
    have S6 := S5.trans s57
    have zl7 : Hb l7 = none := by
      have y : K5 l7 = none := by
        have n := nl7
        rw [upd_ne (Ne.symm d7l)] at n
        exact n
      exact S5.free y
    have l7M : ∀ m ∈ [(2, t2, HO.tup [V.int 1, V.int 2])] ++ [(3, t3, .tup [])] ++ [(4, l4, .lst [V.int 1])] ++ [(5, l5, .lst [])] ++ [(6, d6, .dK [])], l7 ≠ m.2.1 := fun m hm e => by
      have y := h5'.at_ m hm
      have w : (upd K5 d7 (.dK [])) m.2.1 = some m.2.2 := by
        rw [upd_ne (ne_of_none y n7)]
        exact y
      rw [← e, nl7] at w
      cases w
    change ∀ (_ : _), _ at l7M
    have go7 : upd (upd (upd K5 d7 (.dK [])) l7 (.lst [V.int r])) d7 (.dK (mergeK [] [(.inr "a", V.ref l7)])) = upd (upd (upd K5 d7 (.dK [])) l7 (.lst [V.int r])) d7 (.dK [(.inr "a", .ref l7)]) := rfl
    rw [go7]
    generalize upd (upd (upd K5 d7 (.dK [])) l7 (.lst [V.int r])) d7 (.dK [(.inr "a", .ref l7)]) = K6 at hl7 h6' S6 ⊢
    refine ⟨(by show 2 ≤ sizeLine; decide), fun t12 n12 => ?_⟩
    have h7' := h6'.more n12 12 (.tup [V.str "f", V.int 2])
    have u12 := upd_same_as (o := .tup [V.str "f", V.int 2]) n12
    have S7 := S6.trans u12
    have l7t : l7 ≠ t12 := ne_of_none hl7 n12
    have hl7 := u12 _ _ hl7
    clear u12
    generalize upd K6 t12 (.tup [V.str "f", V.int 2]) = K7 at h7' S7 hl7 ⊢
    refine ⟨(by show 13 ≤ sizeLine; decide), fun LL nLL => ?_⟩
    have u8 := upd_same_as (o := .lst [V.int r, V.int (0 - r), V.ref t2, V.ref t3, V.ref l4, V.ref l5, V.ref d6, V.ref d7, V.str "a b", V.str "", V.bl true, V.non, V.ref t12]) nLL
    have h8 := h7'.same u8
    have S8 := S7.trans u8
    have hl7 := u8 _ _ hl7
    have hLL : (upd K7 LL (.lst [V.int r, V.int (0 - r), V.ref t2, V.ref t3, V.ref l4, V.ref l5, V.ref d6, V.ref d7, V.str "a b", V.str "", V.bl true, V.non, V.ref t12])) LL = some (.lst [V.int r, V.int (0 - r), V.ref t2, V.ref t3, V.ref l4, V.ref l5, V.ref d6, V.ref d7, V.str "a b", V.str "", V.bl true, V.non, V.ref t12]) := upd_same
    obtain ⟨M, hM⟩ : ∃ M : List Mk1, M = [(2, t2, HO.tup [V.int 1, V.int 2])] ++ [(3, t3, .tup [])] ++ [(4, l4, .lst [V.int 1])] ++ [(5, l5, .lst [])] ++ [(6, d6, .dK [])] ++ [(7, d7, .dK [(.inr "a", .ref l7)])] ++ [(12, t12, .tup [V.str "f", V.int 2])] := ⟨_, rfl⟩
    have LLM : ∀ m ∈ M, LL ≠ m.2.1 := fun m hm => by
      rw [hM] at hm
      exact Ne.symm (ne_of_none (h7'.at_ m hm) nLL)
    have l7N : ∀ m ∈ M, l7 ≠ m.2.1 := fun m hm => by
      rw [hM] at hm
      rcases List.mem_append.mp hm with hm | hm
      · rcases List.mem_append.mp hm with hm | hm
        · exact l7M m hm
        · rw [List.mem_singleton.mp hm]
          exact Ne.symm d7l
      · rw [List.mem_singleton.mp hm]
        exact l7t
    have newM : ∀ m ∈ M, Hb m.2.1 = none := fun m hm => by
      rw [hM] at hm
      simp only [List.mem_append, List.mem_singleton] at hm
      rcases hm with (((((rfl | rfl) | rfl) | rfl) | rfl) | rfl) | rfl
      · exact n2
      · exact S1.free n3'
      · exact S2.free n4'
      · exact S3.free n5
      · exact S4.free n6
      · exact S5.free n7
      · exact S6.free n12
    have m2 : (2, t2, HO.tup [V.int 1, V.int 2]) ∈ M := by rw [hM]; simp
    have m3 : (3, t3, HO.tup []) ∈ M := by rw [hM]; simp
    have m4 : (4, l4, HO.lst [V.int 1]) ∈ M := by rw [hM]; simp
    have m5 : (5, l5, HO.lst []) ∈ M := by rw [hM]; simp
    have m6 : (6, d6, HO.dK []) ∈ M := by rw [hM]; simp
    have m7 : (7, d7, HO.dK [(.inr "a", .ref l7)]) ∈ M := by rw [hM]; simp
    have m12 : (12, t12, HO.tup [V.str "f", V.int 2]) ∈ M := by rw [hM]; simp
    have h8 : Hist (upd K7 LL (.lst [V.int r, V.int (0 - r), V.ref t2, V.ref t3, V.ref l4, V.ref l5, V.ref d6, V.ref d7, V.str "a b", V.str "", V.bl true, V.non, V.ref t12])) M := by rw [hM]; exact h8
    clear hM u8 h7' h6' h5' h4' h3' h2' h1' h0
    have go8 : ∀ G : Hp → Prop, G (upd K7 LL (.lst [V.int r, V.int (0 - r), V.ref t2, V.ref t3, V.ref l4, V.ref l5, V.ref d6, V.ref d7, V.str "a b", V.str "", V.bl true, V.non, V.ref t12])) → True := fun _ _ => trivial
    clear go8
    refine ⟨LL, rfl, ⟨_, SqL.of hLL⟩, for_list (K := K) (a := LL) (xs := [V.int r, V.int (0 - r), V.ref t2, V.ref t3, V.ref l4, V.ref l5, V.ref d6, V.ref d7, V.str "a b", V.str "", V.bl true, V.non, V.ref t12])
      (fun i σ H' => ∃ o1 o2 o3 : Option V, σ = [some (.ref sa), some (.int r), some (.ref EL), o1, o2, o3] ∧ Kept (upd K7 LL (.lst [V.int r, V.int (0 - r), V.ref t2, V.ref t3, V.ref l4, V.ref l5, V.ref d6, V.ref d7, V.str "a b", V.str "", V.bl true, V.non, V.ref t12])) M i H')
      ⟨_, _, _, rfl, fun m hm _ => h8.at_ m hm, fun c o e _ => e⟩ (fun i σ H' _ ⟨_, _, _, _, kp⟩ => SqL.of (kp.rest _ _ hLL LLM)) ?_ ?_⟩
    · rintro i x σ H' hx ⟨o1, o2, o3, rfl, kp⟩
      have i13 : i < 13 := (List.getElem?_eq_some_iff.mp hx).1
      have k7 := kp.rest _ _ hl7 l7N
      have key : Case K H' x ∧ ∀ c, x = .ref c → ∃ o, (i, c, o) ∈ M := by
        rcases (show i = 0 ∨ i = 1 ∨ i = 2 ∨ i = 3 ∨ i = 4 ∨ i = 5 ∨ i = 6 ∨ i = 7 ∨ i = 8 ∨ i = 9 ∨ i = 10 ∨ i = 11 ∨ i = 12 by omega) with rfl | rfl | rfl | rfl | rfl | rfl | rfl | rfl | rfl | rfl | rfl | rfl | rfl <;> obtain rfl := Option.some.inj hx
        · exact ⟨.plain ⟨_, [], .int r, nodict_int, fine_int rb⟩ (isk_int _ _ (by decide +kernel)) (isk_int _ _ (by decide +kernel)), fun c e => nomatch e⟩
        · exact ⟨.plain ⟨_, [], .int (0 - r), nodict_int, fine_int (by omega)⟩ (isk_int _ _ (by decide +kernel)) (isk_int _ _ (by decide +kernel)), fun c e => nomatch e⟩
        · have h := kp.obj _ m2 (Nat.le_refl _)
          exact ⟨.plain ⟨.tuple [.int 1, .int 2], [], .tup (SqT.of h) (.cons (l1 := []) (.int 1) (.cons (l1 := []) (.int 2) .nil)), fun z => by simp [PyData.hasDict, PyData.hasDictAll] at z, fine_of (by decide +kernel) (by decide +kernel) (by decide +kernel) (by decide +kernel)⟩ (isk_tup h _ (by decide +kernel)) (isk_tup h _ (by decide +kernel)), fun c e => by cases e; exact ⟨_, m2⟩⟩
        · have h := kp.obj _ m3 (Nat.le_refl _)
          exact ⟨.plain ⟨.tuple [], [], .tup (SqT.of h) .nil, fun z => by simp [PyData.hasDict, PyData.hasDictAll] at z, fine_of (by decide +kernel) (by decide +kernel) (by decide +kernel) (by decide +kernel)⟩ (isk_tup h _ (by decide +kernel)) (isk_tup h _ (by decide +kernel)), fun c e => by cases e; exact ⟨_, m3⟩⟩
        · have h := kp.obj _ m4 (Nat.le_refl _)
          exact ⟨.lst h (by simp) ⟨.list [.int 1], [l4], .lst (SqL.of h) (.cons (l1 := []) (.int 1) .nil), fun z => by simp [PyData.hasDict, PyData.hasDictAll] at z, fine_of (by decide +kernel) (by decide +kernel) (by decide +kernel) (by decide +kernel)⟩
            ⟨.list [.int 1, .str "more"], [l4], .lst (SqL.of upd_same) (.cons (l1 := []) (.int 1) (.cons (l1 := []) (.str _) .nil)), fun z => by simp [PyData.hasDict, PyData.hasDictAll] at z, fine_of (by decide +kernel) (by decide +kernel) (by decide +kernel) (by decide +kernel)⟩, fun c e => by cases e; exact ⟨_, m4⟩⟩
        · have h := kp.obj _ m5 (Nat.le_refl _)
          exact ⟨.lst h (by simp) ⟨.list [], [l5], .lst (SqL.of h) .nil, fun z => by simp [PyData.hasDict, PyData.hasDictAll] at z, fine_of (by decide +kernel) (by decide +kernel) (by decide +kernel) (by decide +kernel)⟩
            ⟨.list [.str "more"], [l5], .lst (SqL.of upd_same) (.cons (l1 := []) (.str _) .nil), fun z => by simp [PyData.hasDict, PyData.hasDictAll] at z, fine_of (by decide +kernel) (by decide +kernel) (by decide +kernel) (by decide +kernel)⟩, fun c e => by cases e; exact ⟨_, m5⟩⟩
        · have h : H' d6 = some (.dK []) := kp.obj _ m6 (Nat.le_refl _)
          refine ⟨.dic h (by simp) ⟨.dict [], [], .dic (kvs := []) (ds := []) (l1 := []) (l2 := []) h .nil .nil, fun _ => List.not_mem_nil, fine_of (by decide +kernel) (by decide +kernel) (by decide +kernel) (by decide +kernel)⟩ (fun W q s br ra hq => ?_), fun c e => by cases e; exact ⟨_, m6⟩⟩
          have hq2 : (upd W d6 (.dK (putK [] (.inr "more") (V.ref q)))) q = some (.lst [V.int 1]) := by
            rw [upd_ne ra]
            exact hq
          exact ⟨.dict [(.str "more", .list [.int 1])], [q], .dic (kvs := [(.inr "more", V.ref q)]) (l1 := []) upd_same (.cons (l1 := []) (.str _) .nil) (.cons (l1 := [q]) (.lst (SqL.of hq2) (.cons (l1 := []) (.int 1) .nil)) .nil),
            fun _ z => br (List.mem_singleton.mp z), fine_of (by decide +kernel) (by decide +kernel) (by decide +kernel) (by decide +kernel)⟩
        · have h : H' d7 = some (.dK [(.inr "a", .ref l7)]) := kp.obj _ m7 (Nat.le_refl _)
          refine ⟨.dic h (by simp) ⟨.dict [(.str "a", .list [.int r])], [l7], .dic (kvs := [(.inr "a", V.ref l7)]) (l1 := []) h (.cons (l1 := []) (.str _) .nil) (.cons (l1 := [l7]) (.lst (SqL.of k7) (.cons (l1 := []) (.int r) .nil)) .nil), fun _ z => bl7 (List.mem_singleton.mp z), fine_d7 rb⟩ (fun W q s br ra hq => ?_), fun c e => by cases e; exact ⟨_, m7⟩⟩
          have hq2 : (upd W d7 (.dK (putK [(.inr "a", V.ref l7)] (.inr "more") (V.ref q)))) q = some (.lst [V.int 1]) := by
            rw [upd_ne ra]
            exact hq
          have hl2 : (upd W d7 (.dK (putK [(.inr "a", V.ref l7)] (.inr "more") (V.ref q)))) l7 = some (.lst [V.int r]) := by
            rw [upd_ne (l7N _ m7)]
            exact s _ _ k7
          exact ⟨.dict [(.str "a", .list [.int r]), (.str "more", .list [.int 1])], [l7, q], .dic (kvs := [(.inr "a", V.ref l7), (.inr "more", V.ref q)]) (l1 := []) upd_same (.cons (l1 := []) (.str _) (.cons (l1 := []) (.str _) .nil)) (.cons (l1 := [l7]) (.lst (SqL.of hl2) (.cons (l1 := []) (.int r) .nil)) (.cons (l1 := [q]) (.lst (SqL.of hq2) (.cons (l1 := []) (.int 1) .nil)) .nil)),
            fun _ z => by
              rcases List.mem_cons.mp z with z | z
              · exact bl7 z
              · exact br (List.mem_singleton.mp z), fine_d7b rb⟩
        · exact ⟨.plain ⟨_, [], .str _, fun z => by simp [PyData.hasDict] at z, fine_of (by decide +kernel) (by decide +kernel) (by decide +kernel) (by decide +kernel)⟩ (isk_str _ _ (by decide +kernel)) (isk_str _ _ (by decide +kernel)), fun c e => nomatch e⟩
        · exact ⟨.plain ⟨_, [], .str _, fun z => by simp [PyData.hasDict] at z, fine_of (by decide +kernel) (by decide +kernel) (by decide +kernel) (by decide +kernel)⟩ (isk_str _ _ (by decide +kernel)) (isk_str _ _ (by decide +kernel)), fun c e => nomatch e⟩
        · exact ⟨.plain ⟨_, [], .bl _, fun z => by simp [PyData.hasDict] at z, fine_of (by decide +kernel) (by decide +kernel) (by decide +kernel) (by decide +kernel)⟩ (isk_bl _ _ (by decide +kernel)) (isk_bl _ _ (by decide +kernel)), fun c e => nomatch e⟩
        · exact ⟨.plain ⟨_, [], .non, fun z => by simp [PyData.hasDict] at z, fine_of (by decide +kernel) (by decide +kernel) (by decide +kernel) (by decide +kernel)⟩ (isk_non _ (by decide +kernel)) (isk_non _ (by decide +kernel)), fun c e => nomatch e⟩
        · have h := kp.obj _ m12 (Nat.le_refl _)
          exact ⟨.plain ⟨.tuple [.str "f", .int 2], [], .tup (SqT.of h) (.cons (l1 := []) (.str _) (.cons (l1 := []) (.int 2) .nil)), fun z => by simp [PyData.hasDict, PyData.hasDictAll] at z, fine_of (by decide +kernel) (by decide +kernel) (by decide +kernel) (by decide +kernel)⟩ (isk_tup h _ (by decide +kernel)) (isk_tup h _ (by decide +kernel)), fun c e => by cases e; exact ⟨_, m12⟩⟩
      exact turnR _ H' _ _ _ x _ _ key.1 fun H'' p1 p2 st => ⟨_, _, _, rfl, kp.next h8 st key.2⟩
    · rintro σ H' ⟨o1, o2, o3, rfl, kp⟩
      have old : Same Hb H' := fun c o e => kp.rest c o (S8 c o e) fun m hm => ne_of_none e (newM m hm)
      refine ⟨_, rfl, EL, _, 0, .ref P1, rfl, rfl, SqL.of (old _ _ hEL), atI_nat (j := 0) rfl, _, rfl, P1, .int r, ep, _, [], rfl, old _ _ hP1, lenp, erp.same old, .int r, nodict_int, fine_int rb, fun H6 s6 => ⟨true, rfl, iteF ?_⟩⟩
      have o6 := old.trans s6
      refine ⟨_, rfl, EL, _, 1, .ref P2, rfl, rfl, SqL.of (o6 _ _ hEL), atI_nat (j := 1) rfl, P2, .str "elder", en, _, [], rfl, o6 _ _ hP2, lenn, ern.same o6, .str _, fun z => by simp [PyData.hasDict] at z, fine_of (by decide +kernel) (by decide +kernel) (by decide +kernel) (by decide +kernel), fun H7 s7 => ⟨true, rfl, iteF ?_⟩⟩
      refine ⟨rfl, fun L3 eb H8 s8 n8 hL3 lenb erb => ?_⟩
      refine ⟨L3, .non, eb, _, [], rfl, hL3, lenb, erb, .non, fun z => by simp [PyData.hasDict] at z, fine_of (by decide +kernel) (by decide +kernel) (by decide +kernel) (by decide +kernel), fun H9 s9 => ⟨true, rfl, iteF ?_⟩⟩
      intro a na
      refine ⟨a, 16, [], rfl, by decide, ⟨none, upd_same, rfl⟩, fun rr H10 s10 n10 h10 => ?_⟩
      refine ⟨(by show 1 ≤ sizeLine; decide), fun u nu => ?_⟩
      have hrr := upd_same_as (o := .lst [V.int 16]) nu _ _ h10
      refine ⟨.list [.int 16], .list [.int 16], .lst (SqL.of hrr) (.cons (.int _) .nil), .lst (SqL.of upd_same) (.cons (.int _) .nil), by decide +kernel, by decide +kernel, ?_⟩
      rw [show PyData.eqv (.list [.int 16]) (.list [.int 16]) = true from SeqAt.eqv_refl _ (by decide +kernel)]
      exact q _
end
end Kx
/-! The head: facts by names, the run. -/
namespace Kx
open PySem PySem.Spec PyProof.Rows L2 Xa Xb Xc Xd Xp Xm Xw Xz
abbrev sX0 : Stmt := inClass (top 2) 0
abbrev sX1 : Stmt := inClass (top 3) 0
abbrev sX2 : Stmt := inClass (top 4) 0
abbrev sX3 : Stmt := inClass (top 5) 0
abbrev sX4 : Stmt := inClass (top 6) 0
abbrev sX5 : Stmt := inClass (top 7) 0
abbrev sX6 : Stmt := inClass (top 8) 0
abbrev sX7 : Stmt := inClass (top 9) 0
abbrev sX8 : Stmt := inClass (top 10) 0
abbrev sX9 : Stmt := inClass (top 11) 0
abbrev sX10 : Stmt := inClass (top 12) 0
abbrev sX11 : Stmt := inClass (top 13) 0
abbrev sX12 : Stmt := inClass (top 14) 0
abbrev sX13 : Stmt := inClass (top 15) 0
abbrev sX14 : Stmt := inClass (top 16) 0
abbrev sX15 : Stmt := inClass (top 17) 0
abbrev sX16 : Stmt := inClass (top 18) 0
def dTop (x : Str) (st : Stmt) : He.DefD := ⟨(x, none), x, x, defArgs st, defBody st, defScope st, [], []⟩
def dMet (c m q : Str) (st : Stmt) (dfl : List He.Dv) (kwd : List (Str × He.Dv)) : He.DefD := ⟨(c, some m), m, q, defArgs st, defBody st, defScope st, dfl, kwd⟩
def dfs : List He.DefD := [dMet "InvalidNumber" "__init__" "InvalidNumber.__init__" sX0 [.non] [], dMet "InvalidList" "__init__" "InvalidList.__init__" sX1 [.non] [], dMet "InvalidItem" "__init__" "InvalidItem.__init__" sX2 [.non] [], dMet "InvalidWeb" "__init__" "InvalidWeb.__init__" sX3 [.non] [], dMet "InvalidSpot" "__init__" "InvalidSpot.__init__" sX4 [.non] [], dMet "InvalidPlan" "__init__" "InvalidPlan.__init__" sX5 [.non] [], dMet "InvalidNeeds" "__init__" "InvalidNeeds.__init__" sX6 [.non] [], dMet "InvalidHeard" "__init__" "InvalidHeard.__init__" sX7 [.non] [], dMet "InvalidRule" "__init__" "InvalidRule.__init__" sX8 [.non] [], dMet "InvalidPrices" "__init__" "InvalidPrices.__init__" sX9 [.non] [], dMet "InvalidText" "__init__" "InvalidText.__init__" sX10 [.non] [], dMet "Taken" "__init__" "Taken.__init__" sX11 [.non] [], dMet "Vacant" "__init__" "Vacant.__init__" sX12 [.non] [], dMet "InvalidName" "__init__" "InvalidName.__init__" sX13 [.non] [], dMet "TakenName" "__init__" "TakenName.__init__" sX14 [.non] [], dMet "UnknownName" "__init__" "UnknownName.__init__" sX15 [.non] [], dMet "NothingToUndo" "__init__" "NothingToUndo.__init__" sX16 [] [],
  dTop "_law_cell" sCell, dTop "_law_hash" sHash, dTop "_law_generator" sGener, dTop "_law_random" sRandom, dTop "_law_kinds" sKinds, dTop "_law_right" sRight, dTop "_law_placed" sPlaced, dTop "_law_named" sNamed, dTop "_law_bare" sBare, dTop "law" sLaw]
def fas : List He.Fa := ((List.range 17).map fun i => He.Fa.glo (nmC i)) ++ [.glo "WatchError", .glo "_law_cell", .glo "_law_hash", .glo "_law_generator", .glo "_law_random", .glo "_law_kinds", .glo "_law_right", .glo "_law_placed", .glo "_law_named", .glo "_law_bare", .glo "law", .free "len", .free "int", .free "max", .free "range", .free "isinstance", .free "list", .free "dict", .free "repr", .free "ValueError"]
/-- WatchError's own reads -/
def wbB (K : PySem.W.Frag) : Bool := PySem.W.readsIn K (He.ga K "WatchError") (.type "type") && (He.eqO (PySem.W.specialIn K (.ref (He.ga K "WatchError")) "__getattribute__") (some (some (.builtin "type.__getattribute__"))) &&
  (match PySem.W.findCls K (.ref (He.ga K "WatchError")) (.type "type") "__init__" with
  | some (.val (.builtin n)) => n == "ValueError.__init__"
  | _ => false))
/-- an error class and its __init__ -/
def xmB (K : PySem.W.Frag) (x f : Str) : Bool := xclsB K (He.ga K x) f && (He.eqO (PySem.W.findIn K (.ref (He.ga K x)) "__init__") (some (some (.ref (He.ma K (He.ga K x) "__init__")))) && decide (PySem.W.typeIn K (.ref (He.ma K (He.ga K x) "__init__")) = some (.type "function")))
def exB (K : PySem.W.Frag) : Bool := wbB K && (((List.range 17).all fun i => xmB K (nmC i) (fdC i)) && (((List.range 17).all fun i => (List.range 17).all fun j => decide (PySem.W.kitOne K (.ref (He.ga K (nmC i))) (.ref (He.ga K (nmC j))) = some (decide (i = j)))) &&
  (((List.range 17).all fun i => decide (PySem.W.kitOne K (.ref (He.ga K (nmC i))) (.ref (He.ga K "WatchError")) = some true)) && ((List.range 17).all fun i => decide (PySem.W.kitOne K (.ref (He.ga K (nmC i))) (.type "ValueError") = some true)))))
abbrev RR : PySem.W.OpenRow := PySem.W.OpenLaw.row PySem.Challenge.rw_hearunlike_k01_errors
/-- the part of the heap that is looked at -/
def frY (g : Addr → Option Obj) : PySem.W.Frag := He.frG g (cStatics :: He.asD g 6)
def obY (g : Addr → Option Obj) : He.AlD × Bool := (He.obsD fas dfs (frY g), exB (frY g))
/-- what is told of it -/
structure Says (K : PySem.W.Frag) (h : Heap) : Prop where
  inn : K.In h
  dd : He.SaysD fas dfs K
  ex : exB K = true
def hkX : PySem.W.Hook where
  α := He.AlD × Bool
  obs := fun s => obY s.heap.get?
  val := fun _ => (He.valD dfs, true)
  says := fun _ h => ∃ K : PySem.W.Frag, Says K h
  of := fun _ _ e => ⟨_, He.frG_in, congrArg (fun z : He.AlD × Bool => z.1) e, congrArg (fun z : He.AlD × Bool => z.2) e⟩
  keeps := fun _ _ _ ⟨K, c⟩ k => ⟨K, PySem.W.Frag.In.keeps c.inn k, c.dd, c.ex⟩
def obX (s : PySem.W.SharedT) : He.AlD × Bool := obY (HandSHeadRun.getT s)
theorem obX_eq (s : PySem.W.SharedT) : obX s = hkX.obs s.abs := by
  show obY (HandSHeadRun.getT s) = obY s.abs.heap.get?
  rw [show HandSHeadRun.getT s = s.abs.heap.get? from funext (HandSHeadRun.getT_eq s)]
def loose : List Str := ["WatchError", "InvalidNumber", "InvalidList", "InvalidItem", "InvalidWeb", "InvalidSpot", "InvalidPlan", "InvalidNeeds", "InvalidHeard", "InvalidRule", "InvalidPrices", "InvalidText", "Taken", "Vacant", "InvalidName", "TakenName", "UnknownName", "NothingToUndo", "_law_cell", "_law_hash", "_law_generator", "_law_random", "_law_kinds", "_law_right", "_law_placed", "_law_named", "_law_bare"]
theorem runX (w : World) : HandSHeadRun.RunEq RR (PySem.W.view RR.prog [29]) hkX obX 40000 loose w := by
  intro os
  kernel_rfl
end Kx
/-! The facts joined. -/
namespace Kx
open PySem PySem.Spec PyProof.Rows L2 Xa Xb Xc Xd Xp Xm Xw Xz
section
variable {P : Program} {w : World} {K : PySem.W.Frag} {mg : Str → Option Value} {base h : Heap}
theorem dfnAt (c : Says K h) (G : h.Ns mainGlobals mg) (i j : Nat) {x : Str} {st : Stmt} (hd : dfs[i]? = some (dTop x st) := by rfl) (hf : fas[j]? = some (.glo x) := by rfl) : Dfn K mg x st :=
  ⟨let ⟨fd, F⟩ := c.dd.def_ i hd; ⟨_, fd, F, He.glo_ok c.inn G (c.dd.fact j hf)⟩⟩
theorem gloAt (c : Says K h) (G : h.Ns mainGlobals mg) (j : Nat) {x : Str} (hf : fas[j]? = some (.glo x) := by rfl) : mg x = some (.ref (He.ga K x)) := He.glo_ok c.inn G (c.dd.fact j hf)
theorem freeAt (c : Says K h) (G : h.Ns mainGlobals mg) (j : Nat) {x : Str} (hf : fas[j]? = some (.free x) := by rfl) : mg x = none := He.free_ok c.inn G (c.dd.fact j hf)
theorem bi3 (c : Says K h) (G : h.Ns mainGlobals mg) : Bi3 mg := ⟨⟨freeAt c G 28, freeAt c G 29, freeAt c G 30, freeAt c G 31⟩, freeAt c G 32, freeAt c G 33, freeAt c G 34, freeAt c G 35⟩
theorem allR {n : Nat} {p : Nat → Bool} (e : ((List.range n).all p) = true) (i : Nat) (hi : i < n) : p i = true := List.all_eq_true.mp e i (List.mem_range.mpr hi)
/-- what exB tells -/
structure Ex (K : PySem.W.Frag) : Prop where
  wb : wbB K = true
  xm : ∀ i, i < 17 → xmB K (nmC i) (fdC i) = true
  k : ∀ i j, i < 17 → j < 17 → PySem.W.kitOne K (.ref (He.ga K (nmC i))) (.ref (He.ga K (nmC j))) = some (decide (i = j))
  w : ∀ i, i < 17 → PySem.W.kitOne K (.ref (He.ga K (nmC i))) (.ref (He.ga K "WatchError")) = some true
  v : ∀ i, i < 17 → PySem.W.kitOne K (.ref (He.ga K (nmC i))) (.type "ValueError") = some true
theorem ex_of (c : exB K = true) : Ex K := by
  obtain ⟨a1, c⟩ := He.ba c
  obtain ⟨a2, c⟩ := He.ba c
  obtain ⟨a3, c⟩ := He.ba c
  obtain ⟨a4, a5⟩ := He.ba c
  exact ⟨a1, allR a2, fun i j hi hj => of_decide_eq_true (allR (allR a3 i hi) j hj), fun i hi => of_decide_eq_true (allR a4 i hi), fun i hi => of_decide_eq_true (allR a5 i hi)⟩
theorem wbase (c : Says K h) (G : h.Ns mainGlobals mg) (e : Ex K) : WBase K mg "WatchError" := by
  obtain ⟨a1, c2⟩ := He.ba e.wb
  obtain ⟨a2, a3⟩ := He.ba c2
  refine ⟨He.ga K "WatchError", .type "type", gloAt c G 17, a1, He.eqO_ok a2, ?_⟩
  split at a3
  · rename_i n q
    rw [q, beq_iff_eq.mp a3]
  · cases a3
section
variable {x qual : Str} {params : Arguments} {body : List Stmt} {scope : Scope} {f : Addr} {fd : FuncData} {fn : Str}
theorem bindsX (F : FunD K x qual params body scope [.non] [] f fd)
    (hb : ∀ (T : Addr) (kV doc pm : Value) (an : Option Addr) (cdv ct : Value) (us its : List Value), us.length = 2 → its.length = 1 →
      ∃ k, bindArgs (PySem.W.fnOf x qual params body scope (.ref T) kV doc pm an cdv ct) ⟨us, []⟩ = seqItems? (.ref T) >>= k ∧ k (some its.toArray) = pure ((["self", fn] : List Str).zip (us ++ its.drop 1))) : Binds K fd ["self", fn] [] := by
  obtain ⟨ds, r, b⟩ := F.binds1 (ps := ["self", fn]) 2 1 (by simp) rfl hb
  cases r
  exact b
theorem bareX (F : FunD K x qual params body scope [.non] [] f fd)
    (hb : ∀ (T : Addr) (kV doc pm : Value) (an : Option Addr) (cdv ct : Value) (us its : List Value), us.length = 1 → its.length = 1 →
      ∃ k, bindArgs (PySem.W.fnOf x qual params body scope (.ref T) kV doc pm an cdv ct) ⟨us, []⟩ = seqItems? (.ref T) >>= k ∧ k (some its.toArray) = pure ((["self", fn] : List Str).zip (us ++ its.drop 0))) : ∃ ds, Vals [V.non] ds ∧ Binds K fd ["self", fn] ds :=
  F.binds1 (ps := ["self", fn]) 1 0 (by simp) rfl hb
theorem kwX (F : FunD K x qual params body scope [.non] [] f fd)
    (hb : ∀ (T : Addr) (kV doc pm : Value) (an : Option Addr) (cdv ct u v : Value) (its : List Value), its.length = 1 →
      ∃ k, bindArgs (PySem.W.fnOf x qual params body scope (.ref T) kV doc pm an cdv ct) ⟨[u], [(fn, v)]⟩ = seqItems? (.ref T) >>= k ∧ k (some its.toArray) = pure ((["self", fn] : List Str).zip [u, v])) (s : Shared) (u v : Value) (X : K.In s.heap) : BindsTo s fd ⟨[u], [(fn, v)]⟩ ((["self", fn] : List Str).zip [u, v]) := by
  obtain ⟨oc, od, dV, kV, doc, pm, an, cdv, ct, osl, rfl, lk, hcd, hD, hK⟩ := F.ex
  rcases hD with ⟨e, _⟩ | ⟨_, T, o, its, m, rfl, lT, oT, rT⟩
  · exact absurd e (by simp)
  · obtain ⟨k, e1, e2⟩ := hb T kV doc pm an cdv ct u v its rT.length.symm
    refine BindsTo.of_looks fun M => ?_
    rw [e1]
    exact looks_items X lT oT (.of_pure e2)
end
theorem scX0 : FnScope ["self", "value"] ["self", "value"] (defScope sX0) := ⟨rfl, rfl, rfl, by decide +kernel, rfl, by decide +kernel, by decide +kernel⟩
theorem new0 (c : Says K h) (G : h.Ns mainGlobals mg) (e : Ex K) : XNew P w K mg base "InvalidNumber" (He.ga K "InvalidNumber") "value" := by
  obtain ⟨a1, c2⟩ := He.ba (show xmB K "InvalidNumber" "value" = true from e.xm 0 (by decide))
  obtain ⟨a2, a3⟩ := He.ba c2
  obtain ⟨fd, F⟩ := c.dd.def_ 0 (d := dMet "InvalidNumber" "__init__" "InvalidNumber.__init__" sX0 [.non] []) rfl
  have T := xcls_ok a1
  exact ⟨T, gloAt c G 0, _, fd, He.eqO_ok a2, of_decide_eq_true a3, ok_xi (f := "value") F scX0 T (wbase c G e) rfl rfl rfl (fun _ _ _ => ⟨_, rfl⟩) (by decide) (by decide), bindsX F fun T kV doc pm an cdv ct us its h1 h2 => match us, its, h1, h2 with | [_, _], [_], _, _ => ⟨_, rfl, rfl⟩,
    bareX F fun T kV doc pm an cdv ct us its h1 h2 => match us, its, h1, h2 with | [_], [_], _, _ => ⟨_, rfl, rfl⟩, kwX F fun T kV doc pm an cdv ct u v its h1 => match its, h1 with | [_], _ => ⟨_, rfl, rfl⟩⟩
theorem scX1 : FnScope ["self", "value"] ["self", "value"] (defScope sX1) := ⟨rfl, rfl, rfl, by decide +kernel, rfl, by decide +kernel, by decide +kernel⟩
theorem new1 (c : Says K h) (G : h.Ns mainGlobals mg) (e : Ex K) : XNew P w K mg base "InvalidList" (He.ga K "InvalidList") "value" := by
  obtain ⟨a1, c2⟩ := He.ba (show xmB K "InvalidList" "value" = true from e.xm 1 (by decide))
  obtain ⟨a2, a3⟩ := He.ba c2
  obtain ⟨fd, F⟩ := c.dd.def_ 1 (d := dMet "InvalidList" "__init__" "InvalidList.__init__" sX1 [.non] []) rfl
  have T := xcls_ok a1
  exact ⟨T, gloAt c G 1, _, fd, He.eqO_ok a2, of_decide_eq_true a3, ok_xi (f := "value") F scX1 T (wbase c G e) rfl rfl rfl (fun _ _ _ => ⟨_, rfl⟩) (by decide) (by decide), bindsX F fun T kV doc pm an cdv ct us its h1 h2 => match us, its, h1, h2 with | [_, _], [_], _, _ => ⟨_, rfl, rfl⟩,
    bareX F fun T kV doc pm an cdv ct us its h1 h2 => match us, its, h1, h2 with | [_], [_], _, _ => ⟨_, rfl, rfl⟩, kwX F fun T kV doc pm an cdv ct u v its h1 => match its, h1 with | [_], _ => ⟨_, rfl, rfl⟩⟩
theorem scX2 : FnScope ["self", "value"] ["self", "value"] (defScope sX2) := ⟨rfl, rfl, rfl, by decide +kernel, rfl, by decide +kernel, by decide +kernel⟩
theorem new2 (c : Says K h) (G : h.Ns mainGlobals mg) (e : Ex K) : XNew P w K mg base "InvalidItem" (He.ga K "InvalidItem") "value" := by
  obtain ⟨a1, c2⟩ := He.ba (show xmB K "InvalidItem" "value" = true from e.xm 2 (by decide))
  obtain ⟨a2, a3⟩ := He.ba c2
  obtain ⟨fd, F⟩ := c.dd.def_ 2 (d := dMet "InvalidItem" "__init__" "InvalidItem.__init__" sX2 [.non] []) rfl
  have T := xcls_ok a1
  exact ⟨T, gloAt c G 2, _, fd, He.eqO_ok a2, of_decide_eq_true a3, ok_xi (f := "value") F scX2 T (wbase c G e) rfl rfl rfl (fun _ _ _ => ⟨_, rfl⟩) (by decide) (by decide), bindsX F fun T kV doc pm an cdv ct us its h1 h2 => match us, its, h1, h2 with | [_, _], [_], _, _ => ⟨_, rfl, rfl⟩,
    bareX F fun T kV doc pm an cdv ct us its h1 h2 => match us, its, h1, h2 with | [_], [_], _, _ => ⟨_, rfl, rfl⟩, kwX F fun T kV doc pm an cdv ct u v its h1 => match its, h1 with | [_], _ => ⟨_, rfl, rfl⟩⟩
theorem scX3 : FnScope ["self", "value"] ["self", "value"] (defScope sX3) := ⟨rfl, rfl, rfl, by decide +kernel, rfl, by decide +kernel, by decide +kernel⟩
theorem new3 (c : Says K h) (G : h.Ns mainGlobals mg) (e : Ex K) : XNew P w K mg base "InvalidWeb" (He.ga K "InvalidWeb") "value" := by
  obtain ⟨a1, c2⟩ := He.ba (show xmB K "InvalidWeb" "value" = true from e.xm 3 (by decide))
  obtain ⟨a2, a3⟩ := He.ba c2
  obtain ⟨fd, F⟩ := c.dd.def_ 3 (d := dMet "InvalidWeb" "__init__" "InvalidWeb.__init__" sX3 [.non] []) rfl
  have T := xcls_ok a1
  exact ⟨T, gloAt c G 3, _, fd, He.eqO_ok a2, of_decide_eq_true a3, ok_xi (f := "value") F scX3 T (wbase c G e) rfl rfl rfl (fun _ _ _ => ⟨_, rfl⟩) (by decide) (by decide), bindsX F fun T kV doc pm an cdv ct us its h1 h2 => match us, its, h1, h2 with | [_, _], [_], _, _ => ⟨_, rfl, rfl⟩,
    bareX F fun T kV doc pm an cdv ct us its h1 h2 => match us, its, h1, h2 with | [_], [_], _, _ => ⟨_, rfl, rfl⟩, kwX F fun T kV doc pm an cdv ct u v its h1 => match its, h1 with | [_], _ => ⟨_, rfl, rfl⟩⟩
theorem scX4 : FnScope ["self", "value"] ["self", "value"] (defScope sX4) := ⟨rfl, rfl, rfl, by decide +kernel, rfl, by decide +kernel, by decide +kernel⟩
theorem new4 (c : Says K h) (G : h.Ns mainGlobals mg) (e : Ex K) : XNew P w K mg base "InvalidSpot" (He.ga K "InvalidSpot") "value" := by
  obtain ⟨a1, c2⟩ := He.ba (show xmB K "InvalidSpot" "value" = true from e.xm 4 (by decide))
  obtain ⟨a2, a3⟩ := He.ba c2
  obtain ⟨fd, F⟩ := c.dd.def_ 4 (d := dMet "InvalidSpot" "__init__" "InvalidSpot.__init__" sX4 [.non] []) rfl
  have T := xcls_ok a1
  exact ⟨T, gloAt c G 4, _, fd, He.eqO_ok a2, of_decide_eq_true a3, ok_xi (f := "value") F scX4 T (wbase c G e) rfl rfl rfl (fun _ _ _ => ⟨_, rfl⟩) (by decide) (by decide), bindsX F fun T kV doc pm an cdv ct us its h1 h2 => match us, its, h1, h2 with | [_, _], [_], _, _ => ⟨_, rfl, rfl⟩,
    bareX F fun T kV doc pm an cdv ct us its h1 h2 => match us, its, h1, h2 with | [_], [_], _, _ => ⟨_, rfl, rfl⟩, kwX F fun T kV doc pm an cdv ct u v its h1 => match its, h1 with | [_], _ => ⟨_, rfl, rfl⟩⟩
theorem scX5 : FnScope ["self", "value"] ["self", "value"] (defScope sX5) := ⟨rfl, rfl, rfl, by decide +kernel, rfl, by decide +kernel, by decide +kernel⟩
theorem new5 (c : Says K h) (G : h.Ns mainGlobals mg) (e : Ex K) : XNew P w K mg base "InvalidPlan" (He.ga K "InvalidPlan") "value" := by
  obtain ⟨a1, c2⟩ := He.ba (show xmB K "InvalidPlan" "value" = true from e.xm 5 (by decide))
  obtain ⟨a2, a3⟩ := He.ba c2
  obtain ⟨fd, F⟩ := c.dd.def_ 5 (d := dMet "InvalidPlan" "__init__" "InvalidPlan.__init__" sX5 [.non] []) rfl
  have T := xcls_ok a1
  exact ⟨T, gloAt c G 5, _, fd, He.eqO_ok a2, of_decide_eq_true a3, ok_xi (f := "value") F scX5 T (wbase c G e) rfl rfl rfl (fun _ _ _ => ⟨_, rfl⟩) (by decide) (by decide), bindsX F fun T kV doc pm an cdv ct us its h1 h2 => match us, its, h1, h2 with | [_, _], [_], _, _ => ⟨_, rfl, rfl⟩,
    bareX F fun T kV doc pm an cdv ct us its h1 h2 => match us, its, h1, h2 with | [_], [_], _, _ => ⟨_, rfl, rfl⟩, kwX F fun T kV doc pm an cdv ct u v its h1 => match its, h1 with | [_], _ => ⟨_, rfl, rfl⟩⟩
theorem scX6 : FnScope ["self", "value"] ["self", "value"] (defScope sX6) := ⟨rfl, rfl, rfl, by decide +kernel, rfl, by decide +kernel, by decide +kernel⟩
theorem new6 (c : Says K h) (G : h.Ns mainGlobals mg) (e : Ex K) : XNew P w K mg base "InvalidNeeds" (He.ga K "InvalidNeeds") "value" := by
  obtain ⟨a1, c2⟩ := He.ba (show xmB K "InvalidNeeds" "value" = true from e.xm 6 (by decide))
  obtain ⟨a2, a3⟩ := He.ba c2
  obtain ⟨fd, F⟩ := c.dd.def_ 6 (d := dMet "InvalidNeeds" "__init__" "InvalidNeeds.__init__" sX6 [.non] []) rfl
  have T := xcls_ok a1
  exact ⟨T, gloAt c G 6, _, fd, He.eqO_ok a2, of_decide_eq_true a3, ok_xi (f := "value") F scX6 T (wbase c G e) rfl rfl rfl (fun _ _ _ => ⟨_, rfl⟩) (by decide) (by decide), bindsX F fun T kV doc pm an cdv ct us its h1 h2 => match us, its, h1, h2 with | [_, _], [_], _, _ => ⟨_, rfl, rfl⟩,
    bareX F fun T kV doc pm an cdv ct us its h1 h2 => match us, its, h1, h2 with | [_], [_], _, _ => ⟨_, rfl, rfl⟩, kwX F fun T kV doc pm an cdv ct u v its h1 => match its, h1 with | [_], _ => ⟨_, rfl, rfl⟩⟩
theorem scX7 : FnScope ["self", "value"] ["self", "value"] (defScope sX7) := ⟨rfl, rfl, rfl, by decide +kernel, rfl, by decide +kernel, by decide +kernel⟩
theorem new7 (c : Says K h) (G : h.Ns mainGlobals mg) (e : Ex K) : XNew P w K mg base "InvalidHeard" (He.ga K "InvalidHeard") "value" := by
  obtain ⟨a1, c2⟩ := He.ba (show xmB K "InvalidHeard" "value" = true from e.xm 7 (by decide))
  obtain ⟨a2, a3⟩ := He.ba c2
  obtain ⟨fd, F⟩ := c.dd.def_ 7 (d := dMet "InvalidHeard" "__init__" "InvalidHeard.__init__" sX7 [.non] []) rfl
  have T := xcls_ok a1
  exact ⟨T, gloAt c G 7, _, fd, He.eqO_ok a2, of_decide_eq_true a3, ok_xi (f := "value") F scX7 T (wbase c G e) rfl rfl rfl (fun _ _ _ => ⟨_, rfl⟩) (by decide) (by decide), bindsX F fun T kV doc pm an cdv ct us its h1 h2 => match us, its, h1, h2 with | [_, _], [_], _, _ => ⟨_, rfl, rfl⟩,
    bareX F fun T kV doc pm an cdv ct us its h1 h2 => match us, its, h1, h2 with | [_], [_], _, _ => ⟨_, rfl, rfl⟩, kwX F fun T kV doc pm an cdv ct u v its h1 => match its, h1 with | [_], _ => ⟨_, rfl, rfl⟩⟩
theorem scX8 : FnScope ["self", "value"] ["self", "value"] (defScope sX8) := ⟨rfl, rfl, rfl, by decide +kernel, rfl, by decide +kernel, by decide +kernel⟩
theorem new8 (c : Says K h) (G : h.Ns mainGlobals mg) (e : Ex K) : XNew P w K mg base "InvalidRule" (He.ga K "InvalidRule") "value" := by
  obtain ⟨a1, c2⟩ := He.ba (show xmB K "InvalidRule" "value" = true from e.xm 8 (by decide))
  obtain ⟨a2, a3⟩ := He.ba c2
  obtain ⟨fd, F⟩ := c.dd.def_ 8 (d := dMet "InvalidRule" "__init__" "InvalidRule.__init__" sX8 [.non] []) rfl
  have T := xcls_ok a1
  exact ⟨T, gloAt c G 8, _, fd, He.eqO_ok a2, of_decide_eq_true a3, ok_xi (f := "value") F scX8 T (wbase c G e) rfl rfl rfl (fun _ _ _ => ⟨_, rfl⟩) (by decide) (by decide), bindsX F fun T kV doc pm an cdv ct us its h1 h2 => match us, its, h1, h2 with | [_, _], [_], _, _ => ⟨_, rfl, rfl⟩,
    bareX F fun T kV doc pm an cdv ct us its h1 h2 => match us, its, h1, h2 with | [_], [_], _, _ => ⟨_, rfl, rfl⟩, kwX F fun T kV doc pm an cdv ct u v its h1 => match its, h1 with | [_], _ => ⟨_, rfl, rfl⟩⟩
theorem scX9 : FnScope ["self", "value"] ["self", "value"] (defScope sX9) := ⟨rfl, rfl, rfl, by decide +kernel, rfl, by decide +kernel, by decide +kernel⟩
theorem new9 (c : Says K h) (G : h.Ns mainGlobals mg) (e : Ex K) : XNew P w K mg base "InvalidPrices" (He.ga K "InvalidPrices") "value" := by
  obtain ⟨a1, c2⟩ := He.ba (show xmB K "InvalidPrices" "value" = true from e.xm 9 (by decide))
  obtain ⟨a2, a3⟩ := He.ba c2
  obtain ⟨fd, F⟩ := c.dd.def_ 9 (d := dMet "InvalidPrices" "__init__" "InvalidPrices.__init__" sX9 [.non] []) rfl
  have T := xcls_ok a1
  exact ⟨T, gloAt c G 9, _, fd, He.eqO_ok a2, of_decide_eq_true a3, ok_xi (f := "value") F scX9 T (wbase c G e) rfl rfl rfl (fun _ _ _ => ⟨_, rfl⟩) (by decide) (by decide), bindsX F fun T kV doc pm an cdv ct us its h1 h2 => match us, its, h1, h2 with | [_, _], [_], _, _ => ⟨_, rfl, rfl⟩,
    bareX F fun T kV doc pm an cdv ct us its h1 h2 => match us, its, h1, h2 with | [_], [_], _, _ => ⟨_, rfl, rfl⟩, kwX F fun T kV doc pm an cdv ct u v its h1 => match its, h1 with | [_], _ => ⟨_, rfl, rfl⟩⟩
theorem scX10 : FnScope ["self", "value"] ["self", "value"] (defScope sX10) := ⟨rfl, rfl, rfl, by decide +kernel, rfl, by decide +kernel, by decide +kernel⟩
theorem new10 (c : Says K h) (G : h.Ns mainGlobals mg) (e : Ex K) : XNew P w K mg base "InvalidText" (He.ga K "InvalidText") "value" := by
  obtain ⟨a1, c2⟩ := He.ba (show xmB K "InvalidText" "value" = true from e.xm 10 (by decide))
  obtain ⟨a2, a3⟩ := He.ba c2
  obtain ⟨fd, F⟩ := c.dd.def_ 10 (d := dMet "InvalidText" "__init__" "InvalidText.__init__" sX10 [.non] []) rfl
  have T := xcls_ok a1
  exact ⟨T, gloAt c G 10, _, fd, He.eqO_ok a2, of_decide_eq_true a3, ok_xi (f := "value") F scX10 T (wbase c G e) rfl rfl rfl (fun _ _ _ => ⟨_, rfl⟩) (by decide) (by decide), bindsX F fun T kV doc pm an cdv ct us its h1 h2 => match us, its, h1, h2 with | [_, _], [_], _, _ => ⟨_, rfl, rfl⟩,
    bareX F fun T kV doc pm an cdv ct us its h1 h2 => match us, its, h1, h2 with | [_], [_], _, _ => ⟨_, rfl, rfl⟩, kwX F fun T kV doc pm an cdv ct u v its h1 => match its, h1 with | [_], _ => ⟨_, rfl, rfl⟩⟩
theorem scX11 : FnScope ["self", "value"] ["self", "value"] (defScope sX11) := ⟨rfl, rfl, rfl, by decide +kernel, rfl, by decide +kernel, by decide +kernel⟩
theorem new11 (c : Says K h) (G : h.Ns mainGlobals mg) (e : Ex K) : XNew P w K mg base "Taken" (He.ga K "Taken") "value" := by
  obtain ⟨a1, c2⟩ := He.ba (show xmB K "Taken" "value" = true from e.xm 11 (by decide))
  obtain ⟨a2, a3⟩ := He.ba c2
  obtain ⟨fd, F⟩ := c.dd.def_ 11 (d := dMet "Taken" "__init__" "Taken.__init__" sX11 [.non] []) rfl
  have T := xcls_ok a1
  exact ⟨T, gloAt c G 11, _, fd, He.eqO_ok a2, of_decide_eq_true a3, ok_xi (f := "value") F scX11 T (wbase c G e) rfl rfl rfl (fun _ _ _ => ⟨_, rfl⟩) (by decide) (by decide), bindsX F fun T kV doc pm an cdv ct us its h1 h2 => match us, its, h1, h2 with | [_, _], [_], _, _ => ⟨_, rfl, rfl⟩,
    bareX F fun T kV doc pm an cdv ct us its h1 h2 => match us, its, h1, h2 with | [_], [_], _, _ => ⟨_, rfl, rfl⟩, kwX F fun T kV doc pm an cdv ct u v its h1 => match its, h1 with | [_], _ => ⟨_, rfl, rfl⟩⟩
theorem scX12 : FnScope ["self", "value"] ["self", "value"] (defScope sX12) := ⟨rfl, rfl, rfl, by decide +kernel, rfl, by decide +kernel, by decide +kernel⟩
theorem new12 (c : Says K h) (G : h.Ns mainGlobals mg) (e : Ex K) : XNew P w K mg base "Vacant" (He.ga K "Vacant") "value" := by
  obtain ⟨a1, c2⟩ := He.ba (show xmB K "Vacant" "value" = true from e.xm 12 (by decide))
  obtain ⟨a2, a3⟩ := He.ba c2
  obtain ⟨fd, F⟩ := c.dd.def_ 12 (d := dMet "Vacant" "__init__" "Vacant.__init__" sX12 [.non] []) rfl
  have T := xcls_ok a1
  exact ⟨T, gloAt c G 12, _, fd, He.eqO_ok a2, of_decide_eq_true a3, ok_xi (f := "value") F scX12 T (wbase c G e) rfl rfl rfl (fun _ _ _ => ⟨_, rfl⟩) (by decide) (by decide), bindsX F fun T kV doc pm an cdv ct us its h1 h2 => match us, its, h1, h2 with | [_, _], [_], _, _ => ⟨_, rfl, rfl⟩,
    bareX F fun T kV doc pm an cdv ct us its h1 h2 => match us, its, h1, h2 with | [_], [_], _, _ => ⟨_, rfl, rfl⟩, kwX F fun T kV doc pm an cdv ct u v its h1 => match its, h1 with | [_], _ => ⟨_, rfl, rfl⟩⟩
theorem scX13 : FnScope ["self", "name"] ["self", "name"] (defScope sX13) := ⟨rfl, rfl, rfl, by decide +kernel, rfl, by decide +kernel, by decide +kernel⟩
theorem new13 (c : Says K h) (G : h.Ns mainGlobals mg) (e : Ex K) : XNew P w K mg base "InvalidName" (He.ga K "InvalidName") "name" := by
  obtain ⟨a1, c2⟩ := He.ba (show xmB K "InvalidName" "name" = true from e.xm 13 (by decide))
  obtain ⟨a2, a3⟩ := He.ba c2
  obtain ⟨fd, F⟩ := c.dd.def_ 13 (d := dMet "InvalidName" "__init__" "InvalidName.__init__" sX13 [.non] []) rfl
  have T := xcls_ok a1
  exact ⟨T, gloAt c G 13, _, fd, He.eqO_ok a2, of_decide_eq_true a3, ok_xi (f := "name") F scX13 T (wbase c G e) rfl rfl rfl (fun _ _ _ => ⟨_, rfl⟩) (by decide) (by decide), bindsX F fun T kV doc pm an cdv ct us its h1 h2 => match us, its, h1, h2 with | [_, _], [_], _, _ => ⟨_, rfl, rfl⟩,
    bareX F fun T kV doc pm an cdv ct us its h1 h2 => match us, its, h1, h2 with | [_], [_], _, _ => ⟨_, rfl, rfl⟩, kwX F fun T kV doc pm an cdv ct u v its h1 => match its, h1 with | [_], _ => ⟨_, rfl, rfl⟩⟩
theorem scX14 : FnScope ["self", "name"] ["self", "name"] (defScope sX14) := ⟨rfl, rfl, rfl, by decide +kernel, rfl, by decide +kernel, by decide +kernel⟩
theorem new14 (c : Says K h) (G : h.Ns mainGlobals mg) (e : Ex K) : XNew P w K mg base "TakenName" (He.ga K "TakenName") "name" := by
  obtain ⟨a1, c2⟩ := He.ba (show xmB K "TakenName" "name" = true from e.xm 14 (by decide))
  obtain ⟨a2, a3⟩ := He.ba c2
  obtain ⟨fd, F⟩ := c.dd.def_ 14 (d := dMet "TakenName" "__init__" "TakenName.__init__" sX14 [.non] []) rfl
  have T := xcls_ok a1
  exact ⟨T, gloAt c G 14, _, fd, He.eqO_ok a2, of_decide_eq_true a3, ok_xi (f := "name") F scX14 T (wbase c G e) rfl rfl rfl (fun _ _ _ => ⟨_, rfl⟩) (by decide) (by decide), bindsX F fun T kV doc pm an cdv ct us its h1 h2 => match us, its, h1, h2 with | [_, _], [_], _, _ => ⟨_, rfl, rfl⟩,
    bareX F fun T kV doc pm an cdv ct us its h1 h2 => match us, its, h1, h2 with | [_], [_], _, _ => ⟨_, rfl, rfl⟩, kwX F fun T kV doc pm an cdv ct u v its h1 => match its, h1 with | [_], _ => ⟨_, rfl, rfl⟩⟩
theorem scX15 : FnScope ["self", "name"] ["self", "name"] (defScope sX15) := ⟨rfl, rfl, rfl, by decide +kernel, rfl, by decide +kernel, by decide +kernel⟩
theorem new15 (c : Says K h) (G : h.Ns mainGlobals mg) (e : Ex K) : XNew P w K mg base "UnknownName" (He.ga K "UnknownName") "name" := by
  obtain ⟨a1, c2⟩ := He.ba (show xmB K "UnknownName" "name" = true from e.xm 15 (by decide))
  obtain ⟨a2, a3⟩ := He.ba c2
  obtain ⟨fd, F⟩ := c.dd.def_ 15 (d := dMet "UnknownName" "__init__" "UnknownName.__init__" sX15 [.non] []) rfl
  have T := xcls_ok a1
  exact ⟨T, gloAt c G 15, _, fd, He.eqO_ok a2, of_decide_eq_true a3, ok_xi (f := "name") F scX15 T (wbase c G e) rfl rfl rfl (fun _ _ _ => ⟨_, rfl⟩) (by decide) (by decide), bindsX F fun T kV doc pm an cdv ct us its h1 h2 => match us, its, h1, h2 with | [_, _], [_], _, _ => ⟨_, rfl, rfl⟩,
    bareX F fun T kV doc pm an cdv ct us its h1 h2 => match us, its, h1, h2 with | [_], [_], _, _ => ⟨_, rfl, rfl⟩, kwX F fun T kV doc pm an cdv ct u v its h1 => match its, h1 with | [_], _ => ⟨_, rfl, rfl⟩⟩
theorem scX16 : FnScope ["self"] ["self"] (defScope sX16) := ⟨rfl, rfl, rfl, by decide +kernel, rfl, by decide +kernel, by decide +kernel⟩
theorem new16 (c : Says K h) (G : h.Ns mainGlobals mg) (e : Ex K) : XNew0 P w K mg base "NothingToUndo" (He.ga K "NothingToUndo") := by
  obtain ⟨a1, c2⟩ := He.ba (show xmB K "NothingToUndo" "name" = true from e.xm 16 (by decide))
  obtain ⟨a2, a3⟩ := He.ba c2
  obtain ⟨fd, F⟩ := c.dd.def_ 16 (d := dMet "NothingToUndo" "__init__" "NothingToUndo.__init__" sX16 [] []) rfl
  have T := (xcls_ok a1).oex
  exact ⟨T, gloAt c G 16, _, fd, He.eqO_ok a2, of_decide_eq_true a3, ok_xi0 F scX16 T (wbase c G e) rfl rfl (fun _ _ _ => ⟨_, rfl⟩), F.bindsN fun _ _ _ _ _ _ us hl => match us, hl with | [_], _ => rfl⟩
def clK (K : PySem.W.Frag) (i : Nat) : Addr := He.ga K (nmC i)
theorem xe (c : Says K h) (G : h.Ns mainGlobals mg) (e : Ex K) : XE P w K mg base (clK K) := ⟨fun i hi => by
  match i, hi with
  | 0, _ => exact new0 c G e
  | 1, _ => exact new1 c G e
  | 2, _ => exact new2 c G e
  | 3, _ => exact new3 c G e
  | 4, _ => exact new4 c G e
  | 5, _ => exact new5 c G e
  | 6, _ => exact new6 c G e
  | 7, _ => exact new7 c G e
  | 8, _ => exact new8 c G e
  | 9, _ => exact new9 c G e
  | 10, _ => exact new10 c G e
  | 11, _ => exact new11 c G e
  | 12, _ => exact new12 c G e
  | 13, _ => exact new13 c G e
  | 14, _ => exact new14 c G e
  | 15, _ => exact new15 c G e
  | n + 16, hi => omega⟩
theorem xf (c : Says K h) (G : h.Ns mainGlobals mg) (e : Ex K) : XF K mg (clK K) := by
  refine ⟨fun i hi => ?_, ⟨_, gloAt c G 17, e.w⟩, freeAt c G 36, e.v, e.k, fun i hi => (xcls_ok (He.ba (e.xm i hi)).1).isx⟩
  exact He.glo_ok c.inn G (c.dd.facts (f := .glo (nmC i)) (List.mem_append_left _ (List.mem_map.mpr ⟨i, List.mem_range.mpr hi, rfl⟩)))
theorem lawF (c : Says K h) (G : h.Ns mainGlobals mg) (e : Ex K) : LawF P w K mg base (clK K) := by
  have B := bi3 c G
  obtain ⟨fC, fdC, FC, gC⟩ := (dfnAt c G 17 18 : Dfn K mg "_law_cell" sCell).at_
  obtain ⟨fH, fdH, FH, gH⟩ := (dfnAt c G 18 19 : Dfn K mg "_law_hash" sHash).at_
  obtain ⟨fG, fdG, FG, gG⟩ := (dfnAt c G 19 20 : Dfn K mg "_law_generator" sGener).at_
  obtain ⟨fR, fdR, FR, gR⟩ := (dfnAt c G 20 21 : Dfn K mg "_law_random" sRandom).at_
  have X := xe (P := P) (w := w) (base := base) c G e
  have cK := can_kinds (P := P) (w := w) (base := base) (dfnAt c G 21 22) B (xf c G e)
  exact ⟨FnG.can (ok_gener FG B.toBi FC gC) FG gG fun _ _ _ _ _ _ us hl => match us, hl with | [_, _], _ => rfl,
    FnG.can (ok_random FR B.toBi FH gH) FR gR fun _ _ _ _ _ _ us hl => match us, hl with | [_, _], _ => rfl, cK, can_right (dfnAt c G 22 23) B X cK, can_placed (dfnAt c G 23 24) X, can_named (dfnAt c G 24 25) X, can_bare (dfnAt c G 25 26) X, new16 c G e⟩
end
end Kx
open PySem PySem.W PySem.Calls PyProof.Rows
theorem PySem.Challenge.cw_hearunlike_k01_errors_holds : PySem.Challenge.rw_hearunlike_k01_errors.Holds := by
  w_on; o_law
  refine HandSHeadRun.head_any (r := Kx.RR) (q := view Kx.RR.prog [29]) (H := Kx.hkX) (ob := Kx.obX) (M := 40000) (loose := Kx.loose) (d := HandSHeadRun.topDef Kx.RR.prog 29) (kwd := []) Kx.obX_eq
    (by kernel_rfl) (fun s => by kernel_rfl) Kx.runX (by kernel_rfl) (by kernel_rfl) (by kernel_rfl) (by rfl) (by first | assumption | decide +kernel) (by decide +kernel) ⟨rfl, rfl, rfl, rfl, rfl, by decide +kernel⟩ ?hw ?hc
  case hw => w_witness2
  case hc =>
    refine Xh.walkG (l := PySem.Challenge.rw_hearunlike_k01_errors) (n := 63) (k := 5) (x := "script") rfl (by decide) (by kernel_rfl) ⟨rfl, by decide, by decide⟩ rfl ?F
    intro w mg fa h Y G hmg0
    obtain ⟨K, c⟩ := Y
    have hmg : mg ("law" : PySem.Str) = some (.ref fa) := by
      have e : (HandSHeadRun.topDef Kx.RR.prog 29).name = ("law" : PySem.Str) := by kernel_rfl
      rw [← e]
      exact hmg0
    obtain ⟨fd, F⟩ := c.dd.def_ 26 (d := Kx.dTop "law" Kx.sLaw) rfl
    have e := hmg.symm.trans (Kx.gloAt c G 27)
    cases e
    have ex := Kx.ex_of c.ex
    have b := L2.FunD.bindsA (ps := ["script"]) F fun _ _ _ _ _ _ us hl => match us, hl with | [_], _ => rfl
    exact ⟨K, fd, Kx.spLaw K, c.inn, fun s v => b s [v] rfl, fun H a ns hS => ⟨a, ns, rfl, hS, fun _ => rfl⟩, fun base => Kx.fn_law F (Kx.bi3 c G) (Kx.lawF c G ex)⟩
